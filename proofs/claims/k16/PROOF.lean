import PyProof.Rows.All
import Wide.All
import OpenK.AllK
import Wide.FinOn
import HandS.ForMost
import HandS.Lambda
import HandS.AnyAll
import HandS.EndTab
import HandS.TupAny
import HandS.Zip
import HandS.DictTup
import HandS.Codes
import HandS.ExcOwn
import HandS.TryOnly
import HandS.IsInst
import HandS.Wide
import HandS.DictComp
import HandS.DictEq
import HandS.ListItems
import KE.LtSeq
import KE.KSortTup
import HandS.SortOrd
import HandS.SortKw
import HandS.SortRule
import HandS.Defaults
import HandS.WordsExc
import HandS.Deep
import HandS.Conv
import PyProof.P3In
import KE.DatumOrd
import PySem.Challenge.RW_streamstack_k16_copies_that_lose_nothing
import HandS.Walk
import HandS.RaiseMore
import HandS.FStr
import HandS.RevRange
import HandS.WordsDict
import PyProof.Rows.StrMeet
import HandS.Small
import PyProof.ListStr
import KE.KStateDown
import Lean
import HandS.Ends
import HandS.More
import HandS.Words
import HandS.Head0
import HandS.Head1
import HandS.Head2
import HandS.HeadEnd
import HandS.HeadHook1
import HandS.HeadHook2
import HandS.HeadHook3
import HandS.HeadHook4
import HandS.HeadWalk
set_option Elab.async false
set_option linter.all false
set_option maxRecDepth 100000
set_option maxHeartbeats 4000000
namespace KB
open PySem PySem.Spec PyProof.Rows L2
section
variable {prog : Program} {w : World} {K : Type} [DecidableEq K] {knd : HeapKind prog w K} {A : Around} {E : Value → Shared → Prop} {s : Shared}
def hitH (ys : List (K × Addr × Value)) (eqb : Value → Value → Bool) (x : K × Addr × Value) : Bool :=
  match atKey ys x.1 with
  | none => false
  | some q => eqb x.2.2 q.2
theorem samePairsH {nm : String} {a b : Addr} {xs ys : List (K × Addr × Value)} {eqb : Value → Value → Bool} {Q : Bool → Shared → Prop} (ha : (a == sysModules) = false) (hb : (b == sysModules) = false)
    (da : s.heap.DictOfH knd a xs) (db : s.heap.DictOfH knd b ys) (hu : knd.room A)
    (heq : ∀ x ∈ xs, ∀ q, atKey ys x.1 = some q → ∀ (R : Bool → Shared → Prop) (F : Value → Shared → Prop), R (eqb x.2.2 q.2) s → wpAny (model prog w) A (eqBool x.2.2 q.2) R F s)
    (h : Q (xs.length == ys.length && xs.all (hitH ys eqb)) s) :
    wpAny (model prog w) A (Builtin.Dict.samePairs nm a b) Q E s := by
  obtain ⟨oa, es, ep, hoa, _, hda, hka, hia, hna⟩ := da
  obtain ⟨ob, es', ep', hob, _, hdb, hkb, hib, hnb⟩ := db
  have hla : xs.length = es.size := (size_of_entries hka).symm
  have hlb : ys.length = es'.size := (size_of_entries hkb).symm
  rw [hla, hlb] at h
  unfold Builtin.Dict.samePairs Builtin.Dict.showsAll
  rw [if_neg (show ¬ (a == sysModules) = true by rw [ha]; exact Bool.false_ne_true), if_neg (show ¬ (b == sysModules) = true by rw [hb]; exact Bool.false_ne_true)]
  refine wpAny_bind (wpAny_pure (wpAny_bind (wpAny_pure ?_)))
  refine wpAny_bind (wpAny_dictEntries hoa hda ?_)
  dsimp only
  refine wpAny_bind (wpAny_dictEntries hob hdb ?_)
  by_cases hsz : es.size = es'.size
  case neg =>
    rw [if_pos (by simpa using hsz)]
    have hbf : (es.size == es'.size) = false := by simpa using hsz
    rw [hbf, Bool.false_and] at h
    exact wpAny_bind (wpAny_rule (wpAny_pure h))
  case pos =>
    have h' : Q (xs.all (hitH ys eqb)) s := by simpa [hsz] using h
    rw [if_neg (by rw [hsz]; simp)]
    refine wpAny_bind (wpAny_dictEpoch hoa hda ?_)
    refine wpAny_bind ?_
    rw [Std.Legacy.Range.forIn_eq_forIn_range']
    simp only [Std.Legacy.Range.size, Nat.sub_zero, Nat.add_sub_cancel, Nat.div_one]
    refine wpAny_forIn_list _
      (fun rest q s' => s' = s ∧ q = (none, ()) ∧ ∃ i, rest = List.range' i (es.size - i) ∧ i ≤ es.size ∧ (xs.drop i).all (hitH ys eqb) = xs.all (hitH ys eqb))
      _ ?_ ?_ _ _ ⟨rfl, rfl, 0, by simp, Nat.zero_le _, by simp⟩
    · rintro x rest q s' ⟨rfl, rfl, i, hr, hi, hpre⟩
      have hlt : i < es.size := by
        rcases Nat.lt_or_ge i es.size with h | h
        · exact h
        · rw [Nat.sub_eq_zero_of_le h] at hr; simp at hr
      obtain ⟨rfl, hrest⟩ : x = i ∧ rest = List.range' (i + 1) (es.size - (i + 1)) := by
        have e : es.size - i = (es.size - (i + 1)) + 1 := by omega
        rw [e, List.range'_succ] at hr
        injection hr with h1 h2
        exact ⟨h1, h2⟩
      refine wpAny_bind (wpAny_dictEntries hoa hda ?_)
      have hlt' : x < xs.length := by rw [hla]; exact hlt
      obtain ⟨k, c, v, hkv⟩ : ∃ k c v, xs[x] = (k, c, v) := ⟨_, _, _, rfl⟩
      have hdrop : xs.drop x = (k, c, v) :: xs.drop (x + 1) := by rw [← hkv]; exact List.drop_eq_getElem_cons hlt'
      have hget : xs[x]? = some (k, c, v) := by rw [List.getElem?_eq_getElem hlt', hkv]
      have hmem : (k, c, v) ∈ xs := List.mem_of_getElem? hget
      have hex : es[x]? = some (entryOfKey knd (k, c, v)) := by rw [entry_at hka x, hget]; rfl
      rw [hex]
      rw [hdrop, List.all_cons] at hpre
      have hkey : knd.is s'.heap k c := hia _ hmem
      show wpAny _ _ (holding [Value.ref c, v] _ >>= _) _ _ _
      refine wpAny_bind (wpAny_holding (wpAny_bind (wpAny_dictFind_heap hu hkey hob hdb hkb hib hnb ?_ ?_)))
      · intro hno
        have hn : atKey ys k = none := atKey_none_of_get hno
        have e1 : hitH ys eqb (k, c, v) = false := by unfold hitH; simp only [hn]
        rw [e1, Bool.false_and] at hpre
        rw [← hpre] at h'
        refine wpAny_pure ?_
        show wpAny _ _ (if (!false) = true then _ else _) _ _ _
        rw [if_pos (by decide)]
        exact wpAny_pure (wpAny_pure h')
      · intro j p hj
        have hp : atKey ys k = some p := atKey_of_get hnb hj
        have e1 : hitH ys eqb (k, c, v) = eqb v p.2 := by unfold hitH; simp only [hp]
        have hey : es'[j]? = some (entryOfKey knd (k, p)) := by rw [entry_at hkb j, hj]; rfl
        refine wpAny_bind (wpAny_dictEntries hob hdb ?_)
        rw [hey]
        refine wpAny_holding (heq _ hmem p hp _ _ ?_)
        show wpAny _ _ (if (!eqb v p.2) = true then _ else _) _ _ _
        cases he : eqb v p.2 with
        | false =>
          rw [e1, he, Bool.false_and] at hpre
          rw [← hpre] at h'
          rw [if_pos (by decide)]
          exact wpAny_pure (wpAny_pure h')
        | true =>
          rw [e1, he, Bool.true_and] at hpre
          rw [if_neg (by decide)]
          refine wpAny_bind (wpAny_dictEpoch hoa hda ?_)
          rw [if_neg (by simp)]
          exact wpAny_pure ⟨rfl, rfl, x + 1, hrest, hlt, hpre⟩
    · rintro q s' ⟨rfl, rfl, i, hr, hi, hpre⟩
      have hin : i = es.size := by
        rcases Nat.lt_or_ge i es.size with h | h
        · have e : es.size - i = (es.size - (i + 1)) + 1 := by omega
          rw [e, List.range'_succ] at hr; exact nomatch hr
        · exact Nat.le_antisymm hi h
      have e2 : xs.all (hitH ys eqb) = true := by
        rw [← hpre, hin, ← hla, List.drop_length]; rfl
      rw [e2] at h'
      exact wpAny_pure h'
end
section
variable {prog : Program} {w : World} {K : Type} [DecidableEq K] {knd : HeapKind prog w K} {A : Around} {E : Value → Shared → Prop} {s : Shared}
theorem eqH {a b : Addr} {xs ys : List (K × Addr × Value)} {eqb : Value → Value → Bool} {Q : Value → Shared → Prop} (ha : (a == sysModules) = false) (hb : (b == sysModules) = false)
    (da : s.heap.DictOfH knd a xs) (db : s.heap.DictOfH knd b ys) (hA : A.units < cLine) (hu : knd.room A.in1)
    (heq : ∀ x ∈ xs, ∀ q, atKey ys x.1 = some q → ∀ (R : Bool → Shared → Prop) (F : Value → Shared → Prop), R (eqb x.2.2 q.2) s → wpAny (model prog w) A.in1 (eqBool x.2.2 q.2) R F s)
    (h : Q (.bool (xs.length == ys.length && xs.all (hitH ys eqb))) s) :
    wpAny (model prog w) A (compareOp .Eq (.ref a) (.ref b)) Q E s := by
  refine wpAny_richCompare_same_room (op := .Eq) da.typeIs db.typeIs PySem.F.slot_dict_eq (wpAny_call_entry PySem.F.slot_dict_eq da.typeIs PySem.F.entry_dict_eq ?_ (PySem.F.args_dict_eq_2 _ _)) hA
  show wpAny _ _ (Builtin.Dict.dictSlotArgs "__eq__" ⟨[.ref a, .ref b], []⟩ >>= _) _ _ s
  refine wpAny_bind ?_
  unfold Builtin.Dict.dictSlotArgs
  refine wpAny_bind (wpAny_notOrdered_dict da.typeIs ?_)
  show wpAny _ _ (pure (Value.ref a, Value.ref b)) _ _ s
  refine wpAny_pure ?_
  refine wpAny_bind (wpAny_isInstance (T := "dict") db.typeIs PySem.F.sub_dict_dict ?_)
  simp only [Bool.not_true, Bool.false_eq_true, if_false]
  refine wpAny_bind (wpAny_pure (wpAny_bind (wpAny_pure ?_)))
  refine wpAny_bind (samePairsH ha hb da db hu heq ?_)
  refine wpAny_pure ⟨_, rfl, ?_, ?_⟩
  · exact fun x => nomatch x
  · simpa using h
theorem neH {a b : Addr} {xs ys : List (K × Addr × Value)} {eqb : Value → Value → Bool} {Q : Value → Shared → Prop} (ha : (a == sysModules) = false) (hb : (b == sysModules) = false)
    (da : s.heap.DictOfH knd a xs) (db : s.heap.DictOfH knd b ys) (hA : A.units < cLine) (hu : knd.room A.in1)
    (heq : ∀ x ∈ xs, ∀ q, atKey ys x.1 = some q → ∀ (R : Bool → Shared → Prop) (F : Value → Shared → Prop), R (eqb x.2.2 q.2) s → wpAny (model prog w) A.in1 (eqBool x.2.2 q.2) R F s)
    (h : Q (.bool (!(xs.length == ys.length && xs.all (hitH ys eqb)))) s) :
    wpAny (model prog w) A (compareOp .NotEq (.ref a) (.ref b)) Q E s := by
  refine wpAny_richCompare_same_room (op := .NotEq) da.typeIs db.typeIs PySem.F.slot_dict_ne (wpAny_call_entry PySem.F.slot_dict_ne da.typeIs PySem.F.entry_dict_ne ?_ (PySem.F.args_dict_ne_2 _ _)) hA
  show wpAny _ _ (Builtin.Dict.dictSlotArgs "__ne__" ⟨[.ref a, .ref b], []⟩ >>= _) _ _ s
  refine wpAny_bind ?_
  unfold Builtin.Dict.dictSlotArgs
  refine wpAny_bind (wpAny_notOrdered_dict da.typeIs ?_)
  show wpAny _ _ (pure (Value.ref a, Value.ref b)) _ _ s
  refine wpAny_pure ?_
  refine wpAny_bind (wpAny_isInstance (T := "dict") db.typeIs PySem.F.sub_dict_dict ?_)
  simp only [Bool.not_true, Bool.false_eq_true, if_false]
  refine wpAny_bind (wpAny_pure (wpAny_bind (wpAny_pure ?_)))
  refine wpAny_bind (samePairsH ha hb da db hu heq ?_)
  refine wpAny_pure ⟨_, rfl, ?_, ?_⟩
  · exact fun x => nomatch x
  · simpa using h
end
def eqT (ks ls : List (List Key × V)) : Bool := (ks.length == ls.length) && ks.all fun p => decide (valV ls p.1 = some p.2)
def intB : Value → Value → Bool
  | .int i _, .int j _ => i == j
  | _, _ => false
def IntVals (ks : List (List Key × V)) : Prop := ∀ p ∈ ks, ∃ i, p.2 = V.int i
theorem mem_r {α β : Type} {R : α → β → Prop} : ∀ {l : List α} {m : List β}, Paired R l m → ∀ y ∈ m, ∃ x ∈ l, R x y
  | _, _, .nil, y, h => nomatch h
  | _, _, .cons (a := a) (b := b) r t, y, h => by
    rcases List.mem_cons.mp h with rfl | h
    · exact ⟨a, List.mem_cons_self, r⟩
    · obtain ⟨x, hx, q⟩ := mem_r t y h
      exact ⟨x, List.mem_cons_of_mem _ hx, q⟩
theorem kt_int {H : Hp} {ks : List (List Key × V)} {xs : List (List Key × Addr × Value)} (r : KT H ks xs) (hi : IntVals ks) : ∀ x ∈ xs, ∃ i t, x.2.2 = Value.int i t := by
  intro x hx
  obtain ⟨p, hp, _, _, rv⟩ := mem_r r x hx
  obtain ⟨i, e⟩ := hi p hp
  rw [e] at rv
  obtain ⟨t, rv⟩ := rv
  exact ⟨i, t, rv⟩
theorem atKey_mem {K : Type} [DecidableEq K] {xs : List (K × Addr × Value)} {k : K} {q : Addr × Value} (h : atKey xs k = some q) : (k, q) ∈ xs := by
  unfold atKey at h
  rw [Option.map_eq_some_iff] at h
  obtain ⟨x, h1, h2⟩ := h
  have h3 := List.find?_some h1
  have h4 := List.mem_of_find?_eq_some h1
  have h5 : x.1 = k := of_decide_eq_true h3
  rw [← h5, ← h2]
  exact h4
theorem all_hits {H : Hp} {ls : List (List Key × V)} {ys : List (List Key × Addr × Value)} (rb : KT H ls ys) : ∀ {ks : List (List Key × V)} {xs : List (List Key × Addr × Value)}, KT H ks xs → IntVals ks → IntVals ls →
    xs.all (hitH ys intB) = ks.all fun p => decide (valV ls p.1 = some p.2)
  | _, _, .nil, _, _ => rfl
  | _, _, .cons (a := p) (b := x) (l₁ := ks) (l₂ := xs) h t, hi, hj => by
    rw [List.all_cons, List.all_cons, all_hits rb t (fun q hq => hi q (List.mem_cons_of_mem _ hq)) hj]
    refine congrArg (fun z => z && _) ?_
    obtain ⟨h1, _, h2⟩ := h
    obtain ⟨i, ei⟩ := hi p List.mem_cons_self
    have rv := rb.val p.1
    unfold hitH
    rw [← h1]
    cases hx : atKey ys p.1 with
    | none =>
      rw [hx] at rv
      cases hv : valV ls p.1 with
      | none => simp
      | some v => rw [hv] at rv; exact rv.elim
    | some q =>
      rw [hx] at rv
      cases hv : valV ls p.1 with
      | none => rw [hv] at rv; exact rv.elim
      | some v =>
        rw [hv] at rv
        have rv : RelV v q.2 := rv
        obtain ⟨j, ej⟩ : ∃ j, v = V.int j := by
          have hm : (p.1, v) ∈ ls := by
            unfold valV at hv
            rw [Option.map_eq_some_iff] at hv
            obtain ⟨y, y1, y2⟩ := hv
            have y3 : y.1 = p.1 := by
              have z := List.find?_some y1
              simpa using z
            have y4 := List.mem_of_find?_eq_some y1
            rw [← y3, ← y2]
            exact y4
          exact hj _ hm
        rw [ei] at h2
        rw [ej] at rv
        obtain ⟨t1, e1⟩ := h2
        obtain ⟨t2, e2⟩ := rv
        show intB x.2.2 q.2 = _
        rw [e1, e2, ei, ej]
        unfold intB
        rw [Bool.eq_iff_iff]
        simp
        exact ⟨fun z => z.symm, fun z => z.symm⟩
def rEqDT : R2 := fun x y H Q => ∃ a b ks ls, x = .ref a ∧ y = .ref b ∧ H a = some (.dT ks) ∧ H b = some (.dT ls) ∧ IntVals ks ∧ IntVals ls ∧ Q (.bl (eqT ks ls)) H
def rNeDT : R2 := fun x y H Q => ∃ a b ks ls, x = .ref a ∧ y = .ref b ∧ H a = some (.dT ks) ∧ H b = some (.dT ls) ∧ IntVals ks ∧ IntVals ls ∧ Q (.bl (!eqT ks ls)) H
section
variable {X : Cx}
theorem eq_ints {A : Around} {s : Shared} {H : Hp} {ks ls : List (List Key × V)} {xs ys : List (List Key × Addr × Value)} (ra : KT H ks xs) (rb : KT H ls ys) (hi : IntVals ks) (hj : IntVals ls) :
    ∀ x ∈ xs, ∀ q, atKey ys x.1 = some q → ∀ (R : Bool → Shared → Prop) (F : Value → Shared → Prop), R (intB x.2.2 q.2) s → wpAny (model X.prog X.w) A (eqBool x.2.2 q.2) R F s := by
  intro x hx q hq R F hR
  obtain ⟨i, t, e1⟩ := kt_int ra hi x hx
  obtain ⟨j, u, e2⟩ := kt_int rb hj (x.1, q) (atKey_mem hq)
  have e2 : q.2 = Value.int j u := e2
  rw [e1, e2] at hR ⊢
  exact SeqAt.EqAt.int_int i t j u _ _ _ _ (by unfold intB at hR; exact hR)
theorem op_eqDT (hu : X.A.units + 1 < cLine) : OpR X (compareOp .Eq) rEqDT := by
  intro pins s σ H x y v u Q I rx ry h
  obtain ⟨a, b, ks, ls, rfl, rfl, ea, eb, hi, hj, q⟩ := h
  obtain rfl : v = Value.ref a := rx
  obtain rfl : u = Value.ref b := ry
  obtain ⟨_, ya, xs, ra, da⟩ := dt_of I.hok ea
  obtain ⟨_, yb, ys, rb, db⟩ := dt_of I.hok eb
  refine eqH (eqb := intB) ya yb da db (by omega) (tupleKind_room_in1 hu) (eq_ints ra rb hi hj) (fin_bl I q ?_)
  unfold eqT
  rw [all_hits rb ra hi hj, Paired.length ra, Paired.length rb]
theorem op_neDT (hu : X.A.units + 1 < cLine) : OpR X (compareOp .NotEq) rNeDT := by
  intro pins s σ H x y v u Q I rx ry h
  obtain ⟨a, b, ks, ls, rfl, rfl, ea, eb, hi, hj, q⟩ := h
  obtain rfl : v = Value.ref a := rx
  obtain rfl : u = Value.ref b := ry
  obtain ⟨_, ya, xs, ra, da⟩ := dt_of I.hok ea
  obtain ⟨_, yb, ys, rb, db⟩ := dt_of I.hok eb
  refine neH (eqb := intB) ya yb da db (by omega) (tupleKind_room_in1 hu) (eq_ints ra rb hi hj) (fin_bl I q ?_)
  unfold eqT
  rw [all_hits rb ra hi hj, Paired.length ra, Paired.length rb]
end
theorem paired_of {α β : Type} {R : α → β → Prop} : ∀ {l : List α} {m : List β}, l.length = m.length → (∀ (j : Nat) a b, l[j]? = some a → m[j]? = some b → R a b) → Paired R l m
  | [], [], _, _ => .nil
  | [], _ :: _, h, _ => by cases h
  | _ :: _, [], h, _ => by cases h
  | a :: l, b :: m, h, k => .cons (k 0 a b rfl rfl) (paired_of (Nat.succ.inj h) fun j x y e1 e2 => k (j + 1) x y e1 e2)
def PairsOf (H : Hp) (ts : List Addr) (kvs : List (List Key × V)) : Prop := Paired (fun (t : Addr) (p : List Key × V) => ∃ q, H t = some (.tup [.ref q, p.2]) ∧ H q = some (.tup (p.1.map kV))) ts kvs
section
variable {X : Cx}
theorem take_all {pins : List (Addr × Obj)} {σ : L2.St} {H0 : Hp} {s : Shared} {h' : Heap} {tk : Nat} {P : Addr → List V → Prop} (I0 : Inv X pins σ H0 s) (L : List Addr) : ∀ H1 : Hp, Inv X pins σ H1 { s with heap := h', toks := tk } → L.Nodup →
    (∀ a ∈ L, s.heap.objs.size ≤ a ∧ H1 a = none ∧ ∃ vs, P a vs ∧ ∀ H2, ObjOk X.prog X.w H2 h' a (.tup vs)) →
    ∃ H2, Inv X pins σ H2 { s with heap := h', toks := tk } ∧ (∀ b o, H1 b = some o → H2 b = some o) ∧ (∀ a ∈ L, ∃ vs, P a vs ∧ H2 a = some (.tup vs)) ∧ ∀ b, b ∉ L → H2 b = H1 b := by
  induction L with
  | nil => exact fun H1 I1 _ _ => ⟨H1, I1, fun _ _ e => e, (fun _ h => nomatch h), fun _ _ => rfl⟩
  | cons a L ih =>
    intro H1 I1 hn h
    obtain ⟨hb, hnone, vs, hP, ok⟩ := h a List.mem_cons_self
    obtain ⟨na, nd⟩ := List.nodup_cons.mp hn
    have J := I1.take (h' := h') (t' := tk) (fun b ob _ e => e) (I0.fpOk hb hnone) (ok _)
    obtain ⟨H2, I3, g, q, off⟩ := ih _ J nd fun c hc => by
      obtain ⟨c1, c2, c3⟩ := h c (List.mem_cons_of_mem _ hc)
      exact ⟨c1, by rw [upd_ne fun z => na (by rw [← z]; exact hc)]; exact c2, c3⟩
    refine ⟨H2, I3, fun b o e => g b o (by rw [upd_ne (ne_of_none e hnone)]; exact e), fun c hc => ?_, fun b hb' => ?_⟩
    · rcases List.mem_cons.mp hc with rfl | hc
      · exact ⟨vs, hP, g _ _ upd_same⟩
      · exact q c hc
    · rw [off b fun z => hb' (List.mem_cons_of_mem _ z), upd_ne fun z => hb' (by rw [z]; exact List.mem_cons_self)]
theorem made_tracked {pins : List (Addr × Obj)} {σ : L2.St} {H H1 : Hp} {s : Shared} {h' : Heap} {tk : Nat} {kvs : List (List Key × V)} {xs : List (List Key × Addr × Value)} {es : Array DictEntry} {as : List Addr} (I : Inv X pins σ H s)
    (rel : KT H kvs xs) (hes : es.toList = xs.map (entryOfKey (tupleKind (mixKind X.prog X.w)))) (hl : as.length = es.size) (hG : DT.Made es s.heap.objs.size h' as)
    (I1 : Inv X pins σ H1 { s with heap := h', toks := tk }) (g1 : ∀ b o, H b = some o → H1 b = some o) (hn : ∀ b ∈ as, H1 b = none) :
    ∃ H2, Inv X pins σ H2 { s with heap := h', toks := tk } ∧ (∀ b o, H1 b = some o → H2 b = some o) ∧ PairsOf H2 as kvs ∧ ∀ b, b ∉ as → H2 b = H1 b := by
  have l1 : kvs.length = xs.length := Paired.length rel
  have l2 : es.size = xs.length := size_of_entries hes
  have nd : as.Nodup := List.Pairwise.imp (fun h => Nat.ne_of_lt h) hG.rise
  have pr : ∀ (j : Nat) (b : Addr), as[j]? = some b → ∃ (p : List Key × V) (q : Addr) (u : Value), kvs[j]? = some p ∧ H q = some (.tup (p.1.map kV)) ∧ RelV p.2 u ∧ h'.get? b = some { cls := .type "tuple", data := .seq #[Value.ref q, u] } := by
    intro j b hj
    obtain ⟨en, he, hg⟩ := hG.pairs j b hj
    rw [entry_at hes j] at he
    cases hxj : xs[j]? with
    | none =>
      rw [hxj] at he
      exact nomatch (show (none : Option DictEntry) = some en from he)
    | some x =>
      rw [hxj] at he
      have een : entryOfKey (tupleKind (mixKind X.prog X.w)) x = en := Option.some.inj he
      obtain ⟨e0, he0, r1, r2, r3⟩ := L2.DX.pget rel hxj
      exact ⟨e0, x.2.1, x.2.2, he0, r2, r3, by rw [hg, ← een]; rfl⟩
  obtain ⟨H2, I2, g, qt, off⟩ := take_all (P := fun b vs => ∃ (j : Nat) (p : List Key × V) (q : Addr), as[j]? = some b ∧ kvs[j]? = some p ∧ vs = [.ref q, p.2] ∧ H q = some (.tup (p.1.map kV))) I as H1 I1 nd fun b hb => by
    obtain ⟨j, hj⟩ := List.mem_iff_getElem?.mp hb
    obtain ⟨p, q, u, hp, hq, ru, hg⟩ := pr j b hj
    exact ⟨Nat.le_of_lt (hG.above b hb), hn b hb, [.ref q, p.2], ⟨j, p, q, hj, hp, rfl, hq⟩, fun H3 => ⟨(by rw [sizeLine_eq]; show 2 ≤ 16777216; omega), [Value.ref q, u], .cons rfl (.cons ru .nil), ⟨_, hg, rfl, 0, rfl⟩⟩⟩
  refine ⟨H2, I2, g, paired_of (by omega) fun j b p hj hp => ?_, off⟩
  obtain ⟨vs, ⟨i, p', q, i1, i2, ev, hq⟩, hH⟩ := qt b (List.mem_of_getElem? hj)
  have eij : j = i := (List.getElem?_inj (List.getElem?_eq_some_iff.mp hj).1 nd).mp (hj.trans i1.symm)
  subst eij
  have ep : p' = p := Option.some.inj (i2.symm.trans hp)
  rw [ev, ep] at hH
  rw [ep] at hq
  exact ⟨q, hH, g _ _ (g1 _ _ hq)⟩
theorem vals_refs : ∀ as : List Addr, Vals (as.map V.ref) (as.map Value.ref)
  | [] => .nil
  | _ :: as => .cons rfl (vals_refs as)
end
section
variable {prog : Program} {w : World} {A : Around} {E : Value → Shared → Prop} {s : Shared} {r d : Addr} {es : Array DictEntry} {ep : Nat}
theorem initI {R : Result → Shared → Prop} (hh : A.handled = none) (hv : s.heap.IsItemsView r d) (hm : DT.Raw s.heap d es ep) (S : Addr) (hSr : S ≠ r) (hSd : d ≠ S) (hS : s.heap.get? S = some { cls := .type "list", data := .seq #[] })
    (hR : ∀ h' tk acc c as, (∀ b o, b ≠ S → s.heap.get? b = some o → h'.get? b = some o) → h'.get? S = some { cls := .type "list", dict := none, data := .seq acc c, slots := #[] } → as.length = es.size → DT.Made es S h' as →
      acc.toList = as.map Value.ref → R (.ok (.ret .none)) { s with heap := h', toks := tk }) (hn : es.size ≤ sizeLine) :
    wpAny (model prog w) A.in1 (Builtin.«list.__init__» ⟨[.ref S, .ref r], []⟩)
      (fun fin s' => match fin with | .done f => R (.ok f) s' | .again c' => c'.quiet = true ∧ codeAny (model prog w) A c' R s') (fun e s' => R (.error e) s') s := by
  show wpAny _ _ (do let old ← Builtin.List.listItems (.ref S); Builtin.List.listUpdate (.ref S) (fun _ => #[]); letGo old.toList.reverse; Builtin.List.listExtendWith (.ref S) (.ref r) .none) _ _ s
  refine wpAny_bind ?_
  unfold Builtin.List.listItems
  refine wpAny_bind (wpAny_seqItems hS rfl (wpAny_pure ?_))
  show wpAny _ _ (updateSeq S (fun _ => #[]) >>= fun _ => letGo (#[] : Array Value).toList.reverse >>= fun _ => Builtin.List.listExtendWith (.ref S) (.ref r) .none) _ _ s
  refine wpAny_bind (wpAny_updateSeq hS rfl ?_)
  have hS₂ := Heap.get?_update_self (Obj.mapSeq (fun _ => (#[] : Array Value))) hS rfl
  have oth : ∀ b o, b ≠ S → s.heap.get? b = some o → (s.heap.update S (Obj.mapSeq (fun _ => (#[] : Array Value)))).get? b = some o :=
    fun b o hb e => (Heap.get?_update_other _ _ (Ne.symm hb)).trans e
  refine wpAny_bind (wpAny_letGo ?_)
  refine DT.extI (es := es) (ep := ep) hh (let ⟨o, ho, x⟩ := hv; ⟨o, oth r o hSr.symm ho, x⟩) (hm.at' fun o e => oth d o hSd e) S hSr hSd .none _ hS₂ (fun h' tk acc c as hk hS' hl hG hacc => ?_) hn
  exact hR h' tk acc c as (fun b o hb e => hk b o hb (oth b o hb e)) hS' hl (hG.low (Nat.le_of_lt (Heap.lt_size hS₂))) hacc
theorem listCallI {Q : Value → Shared → Prop} (hh : A.handled = none) (hv : s.heap.IsItemsView r d) (hm : DT.Raw s.heap d es ep) (hn : es.size ≤ sizeLine)
    (hQ : ∀ h' tk acc c as, (∀ b o, s.heap.get? b = some o → h'.get? b = some o) → h'.get? s.heap.objs.size = some { cls := .type "list", dict := none, data := .seq acc c, slots := #[] } → as.length = es.size → DT.Made es s.heap.objs.size h' as →
      acc.toList = as.map Value.ref → Q (.ref s.heap.objs.size) { s with heap := h', toks := tk }) :
    wpAny (model prog w) A (call (.type "list") [.ref r]) Q E s := by
  refine callType_codes (Q₁ := fun obj s₁ => obj = .ref s.heap.objs.size ∧ s₁ = { s with heap := s.heap.push { cls := .type "list", data := .seq #[] } }) PySem.F.called_list (PySem.F.typeCall_list_1 _) PySem.F.entry_list_init
    (code_list_new _ ⟨rfl, rfl⟩) fun obj s₁ h₁ => ?_
  obtain ⟨rfl, rfl⟩ := h₁
  have hS : (s.heap.push { cls := .type "list", data := .seq #[] }).get? s.heap.objs.size = some { cls := .type "list", data := .seq #[] } := Heap.get?_push_size _ rfl
  have hr : r < s.heap.objs.size := let ⟨_, ho, _⟩ := hv; Heap.lt_size ho
  have hd : d < s.heap.objs.size := hm.lt
  refine ⟨⟨_, hS, rfl⟩, PySem.F.args_list_init_2 _ _, initI (es := es) (ep := ep) (A := A.in1) hh (let ⟨o, ho, x⟩ := hv; ⟨o, Heap.get?_push_of_some _ ho, x⟩) (hm.push _) _ (Nat.ne_of_gt hr) (Nat.ne_of_lt hd) hS (fun h' tk acc c as hk hS' hl hG hacc => ?_) hn⟩
  exact ⟨rfl, hQ h' tk acc c as (fun b o e => hk b o (Nat.ne_of_lt (Heap.lt_size e)) (Heap.get?_push_of_some _ e)) hS' hl hG hacc⟩
end
def rListItT : List V → Hp → VK → Prop := fun vs H Q => ∃ (p a : Addr) (kvs : List (List Key × V)), vs = [.ref p] ∧ H p = some (L2.DX.itemsO p a) ∧ H a = some (.dT kvs) ∧
  ∀ (H' : Hp) (l : Addr) (ts : List Addr), (∀ b o, H b = some o → H' b = some o) → H l = none → H' l = some (.lst (ts.map V.ref)) → PairsOf H' ts kvs → Q (.ref l) H'
section
variable {X : Cx}
theorem cr_listItT (hc : X.calm = true) : CallR X (.type "list") rListItT := by
  intro pins s σ H xs us Q I r h
  obtain ⟨p, a, kvs, rfl, hp, ha, q⟩ := h
  obtain rfl := Vals.ref1 r
  have view : s.heap.IsItemsView p a := (show ObjOk X.prog X.w H s.heap p (L2.DX.itemsO p a) from I.hok p _ hp).1
  obtain ⟨z, hd, xs', rel, o, es, ep, ho, hx, hdat, hes, his, hn⟩ := dt_of I.hok ha
  have l1 : kvs.length = xs'.length := Paired.length rel
  have l2 : es.size = xs'.length := size_of_entries hes
  refine listCallI (es := es) (ep := ep) (I.ok.hd hc) view ⟨o, ho, hx, hdat⟩ (by omega) fun h' tk acc c as hk hS hl hG hacc => ?_
  have newS : H s.heap.objs.size = none := I.hok.fresh (Nat.le_refl _)
  have nS : ∀ b ∈ as, b ≠ s.heap.objs.size := fun b hb => Nat.ne_of_gt (hG.above b hb)
  have I1 : Inv X pins σ (upd H s.heap.objs.size (.lst (as.map V.ref))) { s with heap := h', toks := tk } :=
    I.laid (t' := tk) hk (Nat.le_refl _) ⟨by rw [List.length_map]; omega, acc.toList, c, by rw [hacc]; exact vals_refs as, by rw [Array.toArray_toList]; exact hS⟩
  obtain ⟨H2, I2, g, pp, _⟩ := made_tracked (h' := h') (tk := tk) I rel hes hl hG I1 (fun b o e => by rw [upd_ne (ne_of_none e newS)]; exact e) fun b hb => by
    rw [upd_ne (nS b hb)]
    exact I.hok.fresh (Nat.le_of_lt (hG.above b hb))
  exact ⟨.ref _, H2, I2, rfl, q H2 _ as (fun b o e => g b o (by rw [upd_ne (ne_of_none e newS)]; exact e)) newS (g _ _ upd_same) pp⟩
end
end KB
set_option Elab.async false
set_option linter.all false
set_option maxRecDepth 100000
set_option maxHeartbeats 4000000
namespace PySem.SeqAt
open AutoSeq1 (wpAny_loadPart')
open MeetsSeq MeetsSeq2 MeetsSeq3 SeqRoads2
theorem kc_tuple_lt (l b : Addr) (items items2 : Array Value) (n n2 : Nat) (dd dd2 : Option Addr) (sl sl2 : Array (Option Value)) (e r : Nat → Bool) :
    Meets (Builtin.«tuple.__lt__» ⟨[.ref l, .ref b], []⟩)
      (fun A R s => s.heap.get? l = some { cls := .type "tuple", dict := dd, data := .seq items n, slots := sl } ∧ s.heap.get? b = some { cls := .type "tuple", dict := dd2, data := .seq items2 n2, slots := sl2 } ∧
        (∀ j (h1 : j < items.size) (h2 : j < items2.size), EqAt A.in1 s items[j] items2[j] (e j)) ∧ (∀ j (h1 : j < items.size) (h2 : j < items2.size), (∀ i, i < j → e i = true) → e j = false → RcLt A.in1 s items[j] items2[j] (r j)) ∧
        R (.ok (.ret (.bool (firstLt e r (decide (items.size < items2.size)) (List.range (min items.size items2.size)))))) s) :=
  .of_wp fun prog w A R s h => by
    obtain ⟨hp, g, d, tk, os⟩ := s; obtain ⟨hl, hb, he, hr, h⟩ := h
    have f2 := AutoSeq1.sub_tuple_tuple
    have hZ : (items.toList.zip items2.toList).length = min items.size items2.size := by simp
    wp_walk using wpAny_loadPart' hl, wpAny_loadPart' hb, wpAny_forIn_list _ (fun rest b s' => b.1 = none ∧ s' = ⟨hp, g, d, tk, os⟩ ∧ ∃ i, rest = (items.toList.zip items2.toList).drop i ∧ (∀ m, m < i → e m = true) ∧
      R (.ok (.ret (.bool (firstLt e r (decide (items.size < items2.size)) ((List.range (min items.size items2.size)).drop i))))) ⟨hp, g, d, tk, os⟩) _
    case turn =>
      rintro ⟨y, x⟩ rest b s' ⟨hb', rfl, i, hz, hpre, hR⟩
      have hlt : i < (items.toList.zip items2.toList).length := by
        rcases Nat.lt_or_ge i (items.toList.zip items2.toList).length with h' | h'
        · exact h'
        · rw [List.drop_of_length_le h'] at hz; cases hz
      have hm : i < min items.size items2.size := hZ ▸ hlt
      have h1 : i < items.size := Nat.lt_of_lt_of_le hm (Nat.min_le_left _ _)
      have h2 : i < items2.size := Nat.lt_of_lt_of_le hm (Nat.min_le_right _ _)
      rw [List.drop_eq_getElem_cons hlt] at hz
      injection hz with hyx hrest
      have hy : y = items[i] := by have := congrArg Prod.fst hyx; simpa using this
      have hx : x = items2[i] := by have := congrArg Prod.snd hyx; simpa using this
      subst hy hx
      have hd : (List.range (min items.size items2.size)).drop i = i :: (List.range (min items.size items2.size)).drop (i + 1) := by simp [List.drop_eq_getElem_cons, hm]
      rw [hd] at hR
      refine wpAny_bind (he i h1 h2 prog w _ _ ?_)
      cases hy : e i with
      | true =>
        rw [firstLt_yes hy] at hR
        wp_walk
        refine ⟨rfl, rfl, i + 1, hrest, fun m hm => ?_, hR⟩
        rcases Nat.lt_or_ge m i with z | z
        · exact hpre m z
        · have : m = i := by omega
          rw [this]; exact hy
      | false =>
        rw [firstLt_no hy] at hR
        rw [if_pos (by rfl)]
        show wpAny _ _ (do rule "tuple.compare.by-the-first-pair-that-differs"; let v ← richCompare CmpOp.Lt items[i] items2[i]; let v' ← ret v; pure (ForInStep.done (some v', ()))) _ _ _
        refine wpAny_bind (wpAny_rule ?_)
        refine wpAny_bind (hr i h1 h2 hpre hy prog w _ _ ?_)
        wp_walk
        exact ⟨_, rfl, hR⟩
    case fin =>
      rintro ⟨b1, b2⟩ s' ⟨hb', rfl, i, hz, hpre, hR⟩
      simp only at hb'
      subst hb'
      have hge : min items.size items2.size ≤ i := by
        rcases Nat.lt_or_ge i (items.toList.zip items2.toList).length with h' | h'
        · rw [List.drop_eq_getElem_cons h'] at hz; cases hz
        · exact hZ ▸ h'
      rw [List.drop_of_length_le (by simpa using hge)] at hR
      wp_walk
      exact ⟨_, rfl, by simpa [Builtin.Tuple.tupleCompareSizes, firstLt] using hR⟩
    case h =>
      exact ⟨rfl, rfl, 0, rfl, fun m hm => absurd hm (Nat.not_lt_zero _), by simpa using h⟩
section
variable {A : Around} {s : Shared}
theorem RcLt.tuplesF {l b : Addr} {items items2 : Array Value} {e r : Nat → Bool} (hl : s.heap.IsTuple l items) (hb : s.heap.IsTuple b items2) (hu : A.units < cLine)
    (he : ∀ j (h1 : j < items.size) (h2 : j < items2.size), EqAt A.in1 s items[j] items2[j] (e j)) (hr : ∀ j (h1 : j < items.size) (h2 : j < items2.size), (∀ i, i < j → e i = true) → e j = false → RcLt A.in1 s items[j] items2[j] (r j)) :
    RcLt A s (.ref l) (.ref b) (firstLt e r (decide (items.size < items2.size)) (List.range (min items.size items2.size))) := fun prog w E Q h => by
  obtain ⟨⟨cls, dd, data, sl⟩, ho, hc, n, hd⟩ := id hl
  obtain ⟨⟨cls2, dd2, data2, sl2⟩, ho2, hc2, n2, hd2⟩ := id hb
  simp only at hc hd hc2 hd2
  subst hc hd hc2 hd2
  exact richCompare_meets_room (op := .Lt) ⟨_, ho, rfl⟩ ⟨_, ho2, rfl⟩ F.slot_tuple_lt F.entry_tuple_lt (F.args_tuple_lt_2 _ _) (kc_tuple_lt l b items items2 n n2 dd dd2 sl sl2 e r)
    ⟨ho, ho2, he, hr, show Value.bool (firstLt e r (decide (items.size < items2.size)) (List.range (min items.size items2.size))) ≠ Value.notImplemented ∧ Q (.bool (firstLt e r (decide (items.size < items2.size)) (List.range (min items.size items2.size)))) s from ⟨(fun x => nomatch x), h⟩⟩ hu
end
end PySem.SeqAt
namespace KC
open PySem PySem.Spec PyProof.Rows L2 KB PySem.SeqAt
mutual
def ltD : PyData → PyData → Bool
  | .int i, .int j => decide (i < j)
  | .str x, .str y => decide (x.cps.toList < y.cps.toList)
  | .tuple xs, .tuple ys => ltL xs ys
  | _, _ => false
def ltL : List PyData → List PyData → Bool
  | [], [] => false
  | [], _ :: _ => true
  | _ :: _, [] => false
  | x :: xs, y :: ys => if PyData.eqv x y = true then ltL xs ys else ltD x y
end
mutual
def okD : PyData → PyData → Bool
  | .int _, .int _ => true
  | .str _, .str _ => true
  | .tuple xs, .tuple ys => okL xs ys
  | _, _ => false
def okL : List PyData → List PyData → Bool
  | [], _ => true
  | _ :: _, [] => true
  | x :: xs, y :: ys => if PyData.eqv x y = true then okL xs ys else okD x y
end
theorem firstLt_shift {e r : Nat → Bool} {fin : Bool} : ∀ l : List Nat, firstLt e r fin (l.map (· + 1)) = firstLt (fun j => e (j + 1)) (fun j => r (j + 1)) fin l
  | [] => rfl
  | j :: l => by
    show (if e (j + 1) = true then firstLt e r fin (l.map (· + 1)) else r (j + 1)) = _
    rw [firstLt_shift l]
    rfl
theorem ltL_first : ∀ (xs ys : List PyData) (e r : Nat → Bool), (∀ j x y, xs[j]? = some x → ys[j]? = some y → e j = PyData.eqv x y ∧ r j = ltD x y) →
    firstLt e r (decide (xs.length < ys.length)) (List.range (min xs.length ys.length)) = ltL xs ys
  | [], [], _, _, _ => by unfold ltL; rfl
  | [], _ :: _, _, _, _ => by
    unfold ltL
    simp [firstLt]
  | _ :: _, [], _, _, _ => by
    unfold ltL
    simp [firstLt]
  | x :: xs, y :: ys, e, r, h => by
    have h0 := h 0 x y rfl rfl
    have e1 : min (x :: xs).length (y :: ys).length = min xs.length ys.length + 1 := by simp only [List.length_cons]; omega
    rw [e1, List.range_succ_eq_map]
    have e2 : decide ((x :: xs).length < (y :: ys).length) = decide (xs.length < ys.length) := by simp
    rw [e2]
    unfold ltL
    show (if e 0 = true then firstLt e r _ (List.map Nat.succ _) else r 0) = _
    rw [h0.1, h0.2]
    by_cases q : PyData.eqv x y = true
    · rw [if_pos q, if_pos q]
      rw [show (List.map Nat.succ (List.range (min xs.length ys.length))) = (List.range (min xs.length ys.length)).map (· + 1) from rfl, firstLt_shift]
      exact ltL_first xs ys _ _ fun j a b ha hb => h (j + 1) a b ha hb
    · rw [if_neg q, if_neg q]
end KC
namespace KC
open PySem PySem.Spec PyProof.Rows L2 KB PySem.SeqAt
theorem lt_str_b {prog : Program} {w : World} {A : Around} {E : Value → Shared → Prop} {s : Shared} {x y : Str} {t u : Tok} {Q : Value → Shared → Prop} (h : Q (.bool (decide (x.cps.toList < y.cps.toList))) s) :
    wpAny (model prog w) A (richCompare .Lt (.str x t) (.str y u)) Q E s := DT.rcLt_str A s x t y u prog w E Q h
mutual
theorem rcLt_data : ∀ (da db : PyData) (A : Around) (s : Shared) (a b : Value) (as bs : List Addr), Reads s.heap a da as → Reads s.heap b db bs → da.canLay0 = true → db.canLay0 = true → okD da db = true →
    A.units + min da.depth db.depth < cLine → RcLt A s a b (ltD da db)
  | .int x, .int y, A, s, _, _, _, _, ra, rb, _, _, _, hu => by
    cases ra; cases rb
    intro prog w E Q h
    exact PyProof.Rows.lt_int (by unfold ltD at h; exact h)
  | .str x, .str y, A, s, _, _, _, _, ra, rb, _, _, _, hu => by
    cases ra; cases rb
    intro prog w E Q h
    exact lt_str_b (by unfold ltD at h; exact h)
  | .tuple xs, .tuple ys, A, s, _, _, _, _, ra, rb, ha, hb, hok, hu => by
    cases ra with
    | @tuple l o vs n _ as₁ h1 h2 h3 h4 =>
      cases rb with
      | @tuple l' o' vs' n' _ bs₁ k1 k2 k3 k4 =>
        have hl : s.heap.IsTuple l vs := ⟨_, h1, h2, _, h3⟩
        have hl' : s.heap.IsTuple l' vs' := ⟨_, k1, k2, _, k3⟩
        have n1 : vs.size = xs.length := by simpa using ReadsAll.length _ _ _ h4
        have n2 : vs'.size = ys.length := by simpa using ReadsAll.length _ _ _ k4
        have hok' : okL xs ys = true := by unfold okD at hok; exact hok
        have e : ltD (.tuple xs) (.tuple ys) = firstLt (pairEq xs ys) (fun j => ltD (xs.getD j .none) (ys.getD j .none)) (decide (vs.size < vs'.size)) (List.range (min vs.size vs'.size)) := by
          rw [n1, n2, ltL_first xs ys]
          · unfold ltD; rfl
          · intro j x y hx hy
            simp [pairEq, List.getD, hx, hy]
        rw [e]
        refine RcLt.tuplesF hl hl' (room_here hu) (fun j j1 j2 => ?_) (fun j j1 j2 hp hf => ?_)
        · have := eqAt_readsAll xs ys A.in1 s vs.toList vs'.toList _ _ h4 k4 ha hb (room_in hu) j (by simpa using j1) (by simpa using j2)
          simpa using this
        · have := rcLt_all xs ys A.in1 s vs.toList vs'.toList _ _ h4 k4 ha hb hok' (room_in hu) j (by simpa using j1) (by simpa using j2) hp hf
          simpa using this
  | .none, _, _, _, _, _, _, _, _, _, _, _, hok, _ => by unfold okD at hok; cases hok
  | .bool _, _, _, _, _, _, _, _, _, _, _, _, hok, _ => by unfold okD at hok; cases hok
  | .list _, _, _, _, _, _, _, _, _, _, _, _, hok, _ => by unfold okD at hok; cases hok
  | .dict _, _, _, _, _, _, _, _, _, _, _, _, hok, _ => by unfold okD at hok; cases hok
  | .int _, .none, _, _, _, _, _, _, _, _, _, _, hok, _ => by unfold okD at hok; cases hok
  | .int _, .bool _, _, _, _, _, _, _, _, _, _, _, hok, _ => by unfold okD at hok; cases hok
  | .int _, .str _, _, _, _, _, _, _, _, _, _, _, hok, _ => by unfold okD at hok; cases hok
  | .int _, .list _, _, _, _, _, _, _, _, _, _, _, hok, _ => by unfold okD at hok; cases hok
  | .int _, .tuple _, _, _, _, _, _, _, _, _, _, _, hok, _ => by unfold okD at hok; cases hok
  | .int _, .dict _, _, _, _, _, _, _, _, _, _, _, hok, _ => by unfold okD at hok; cases hok
  | .str _, .none, _, _, _, _, _, _, _, _, _, _, hok, _ => by unfold okD at hok; cases hok
  | .str _, .bool _, _, _, _, _, _, _, _, _, _, _, hok, _ => by unfold okD at hok; cases hok
  | .str _, .int _, _, _, _, _, _, _, _, _, _, _, hok, _ => by unfold okD at hok; cases hok
  | .str _, .list _, _, _, _, _, _, _, _, _, _, _, hok, _ => by unfold okD at hok; cases hok
  | .str _, .tuple _, _, _, _, _, _, _, _, _, _, _, hok, _ => by unfold okD at hok; cases hok
  | .str _, .dict _, _, _, _, _, _, _, _, _, _, _, hok, _ => by unfold okD at hok; cases hok
  | .tuple _, .none, _, _, _, _, _, _, _, _, _, _, hok, _ => by unfold okD at hok; cases hok
  | .tuple _, .bool _, _, _, _, _, _, _, _, _, _, _, hok, _ => by unfold okD at hok; cases hok
  | .tuple _, .int _, _, _, _, _, _, _, _, _, _, _, hok, _ => by unfold okD at hok; cases hok
  | .tuple _, .str _, _, _, _, _, _, _, _, _, _, _, hok, _ => by unfold okD at hok; cases hok
  | .tuple _, .list _, _, _, _, _, _, _, _, _, _, _, hok, _ => by unfold okD at hok; cases hok
  | .tuple _, .dict _, _, _, _, _, _, _, _, _, _, _, hok, _ => by unfold okD at hok; cases hok
theorem rcLt_all : ∀ (xs ys : List PyData) (A : Around) (s : Shared) (vs ws : List Value) (as bs : List Addr), ReadsAll s.heap vs xs as → ReadsAll s.heap ws ys bs → PyData.canLayAll0 xs = true → PyData.canLayAll0 ys = true → okL xs ys = true →
    A.units + min (PyData.depthAll xs) (PyData.depthAll ys) < cLine → ∀ j (h1 : j < vs.length) (h2 : j < ws.length), (∀ i, i < j → pairEq xs ys i = true) → pairEq xs ys j = false → RcLt A s vs[j] ws[j] (ltD (xs.getD j .none) (ys.getD j .none))
  | [], _, _, _, _, _, _, _, ra, _, _, _, _, _, j, h1, _, _, _ => by cases ra; exact absurd h1 (Nat.not_lt_zero _)
  | _ :: _, [], _, _, _, _, _, _, _, rb, _, _, _, _, j, _, h2, _, _ => by cases rb; exact absurd h2 (Nat.not_lt_zero _)
  | x :: xs, y :: ys, A, s, _, _, _, _, ra, rb, ha, hb, hok, hu, j, h1, h2, hp, hf => by
    have ha' : x.canLay0 = true ∧ PyData.canLayAll0 xs = true := by simpa [PyData.canLayAll0] using ha
    have hb' : y.canLay0 = true ∧ PyData.canLayAll0 ys = true := by simpa [PyData.canLayAll0] using hb
    unfold okL at hok
    cases ra with
    | cons r rs =>
      cases rb with
      | cons r' rs' =>
        cases j with
        | zero =>
          have e0 : PyData.eqv x y = false := hf
          rw [if_neg (by rw [e0]; exact Bool.false_ne_true)] at hok
          exact rcLt_data x y A s _ _ _ _ r r' ha'.1 hb'.1 hok (room_head hu)
        | succ j =>
          have e0 : PyData.eqv x y = true := hp 0 (Nat.succ_pos _)
          rw [if_pos e0] at hok
          exact rcLt_all xs ys A s _ _ _ _ rs rs' ha'.2 hb'.2 hok (room_tail hu) j (Nat.lt_of_succ_lt_succ h1) (Nat.lt_of_succ_lt_succ h2) (fun i hi => hp (i + 1) (Nat.succ_lt_succ hi)) hf
end
def rLtD (K : PySem.W.Frag) : R2 := fun x y H Q => ∃ d e, Dp K H x d ∧ Dp K H y e ∧ shaped d = true ∧ shaped e = true ∧ okD d e = true ∧ Q (.bl (ltD d e)) H
theorem op_ltD {X : Cx} (hu : X.A.units + 64 < cLine) : OpR X (compareOp .Lt) (rLtD X.K) := by
  intro pins s σ H x y v u Q I rx ry h
  obtain ⟨d, e, hd, he, sd, se, hok, q⟩ := h
  obtain ⟨as, r1⟩ := Dp.reads I d x v hd rx
  obtain ⟨bs, r2⟩ := Dp.reads I e y u he ry
  exact rcLt_data d e X.A s v u as bs r1 r2 (canLay_of_shaped sd) (canLay_of_shaped se) hok (room_of_shaped sd hu) X.prog X.w X.xe _ ⟨.bl _, H, I, rfl, q⟩
theorem keyLt_data {prog : Program} {w : World} {A : Around} {E : Value → Shared → Prop} {s : Shared} {xs ys : List PyData} {u v : Value} {as bs : List Addr} {Q : Bool → Shared → Prop} (ra : Reads s.heap u (.tuple xs) as) (rb : Reads s.heap v (.tuple ys) bs)
    (ha : (PyData.tuple xs).canLay0 = true) (hb : (PyData.tuple ys).canLay0 = true) (hok : okL xs ys = true) (hu : A.units + min (PyData.tuple xs).depth (PyData.tuple ys).depth < cLine) (h : Q (ltL xs ys) s) :
    wpAny (model prog w) A (keyLt' (tuples' false) u v) Q E s := by
  cases ra with
  | @tuple l o vs n _ as₁ h1 h2 h3 h4 =>
    cases rb with
    | @tuple l' o' vs' n' _ bs₁ k1 k2 k3 k4 =>
      refine PySem.W.kat_lt h1 h3 k1 k3 ?_
      have n1 : vs.size = xs.length := by simpa using ReadsAll.length _ _ _ h4
      have n2 : vs'.size = ys.length := by simpa using ReadsAll.length _ _ _ k4
      rw [n1, n2]
      have hu0 : A.units + min (PyData.depthAll xs) (PyData.depthAll ys) < cLine := by
        have q := room_in hu
        omega
      clear h3 k3 n1 n2 h1 k1
      generalize vs.toList = us at h4
      generalize vs'.toList = ws at k4
      have key : ∀ (xs ys : List PyData) (us ws : List Value) (as bs : List Addr) (i : Nat), ReadsAll s.heap us xs as → ReadsAll s.heap ws ys bs → PyData.canLayAll0 xs = true → PyData.canLayAll0 ys = true → okL xs ys = true →
          A.units + min (PyData.depthAll xs) (PyData.depthAll ys) < cLine → Q (ltL xs ys) s → PySem.W.KatLex prog w A false (decide (xs.length < ys.length)) Q (us.zip ws) i s := by
        intro xs
        induction xs with
        | nil =>
          intro ys us ws as bs i ra rb _ _ _ _ hq
          cases ra
          cases ys with
          | nil =>
            cases rb
            exact PySem.W.kat_nil (by unfold ltL at hq; exact hq)
          | cons y ys =>
            cases rb
            exact PySem.W.kat_nil (by unfold ltL at hq; simpa using hq)
        | cons x xs ih =>
          intro ys us ws as bs i ra rb ha hb hok hu hq
          cases ys with
          | nil =>
            cases rb
            cases ra
            exact PySem.W.kat_nil (by unfold ltL at hq; simpa using hq)
          | cons y ys =>
            have ha' : x.canLay0 = true ∧ PyData.canLayAll0 xs = true := by simpa [PyData.canLayAll0] using ha
            have hb' : y.canLay0 = true ∧ PyData.canLayAll0 ys = true := by simpa [PyData.canLayAll0] using hb
            unfold okL at hok
            unfold ltL at hq
            cases ra with
            | cons r rs =>
              cases rb with
              | cons r' rs' =>
                have e1 : decide ((x :: xs).length < (y :: ys).length) = decide (xs.length < ys.length) := by simp
                rw [e1]
                refine PySem.W.kat_cons (eqAt_reads x y A s _ _ _ _ r r' ha'.1 hb'.1 (room_head hu) prog w _ _ ?_)
                refine PySem.W.kat_go (fun e => ?_) (fun e => ?_)
                · rw [if_pos e] at hok hq
                  exact PySem.W.kat_yes (ih ys _ _ _ _ (i + 1) rs rs' ha'.2 hb'.2 hok (room_tail hu) hq)
                · rw [if_neg (by rw [e]; exact Bool.false_ne_true)] at hok hq
                  refine PySem.W.kat_no ?_
                  rw [Bool.false_and]
                  exact PySem.W.kat_one _ _ (rcLt_data x y A s _ _ _ _ r r' ha'.1 hb'.1 hok (room_head hu) prog w _ _ hq)
      exact key xs ys _ _ _ _ 0 h4 k4 ha hb hok hu0 h
end KC
set_option Elab.async false
set_option linter.all false
set_option maxRecDepth 100000
set_option maxHeartbeats 4000000
namespace KD
open PySem PySem.Spec PyProof.Rows L2 KB KC LamX
def LamO (f : Addr) (q : Str) (params : Arguments) (body : Expr) (scope : Scope) (c' : Addr) : HO := .ext fun h => ∃ pm ctv, h.get? f = some (PySem.W.kla_obj "<lambda>" q params body scope [] pm c' ctv)
theorem lam_run {CX : CXT} {P : Program} {w : World} {K : PySem.W.Frag} {mg : Str → Option Value} {base : Heap} {k : Nat} {f c' : Addr} {q : Str} {params : Arguments} {body : Expr} {scope : Scope} {N ps : List Str} (S : FnScope N ps scope)
    {A : Around} {outer : List Env} {s : Shared} {H : Hp} {args : Args} {us : List Value} {vs : List V} {Q : VK} {E : XK} (hr : Room (k + 1) A) (e0 : Env0 P w K mg base A outer s H)
    (hf : H f = some (LamO f q params body scope c')) (hc : H c' = some (CodeO c' q)) (hb : ∀ pm ctv, BindsTo s (PySem.W.kla_fn "<lambda>" q params body scope [] pm (.ref c') ctv) args (ps.zip us)) (r : Vals vs us) (hl : vs.length = ps.length)
    (hbody : Room k (A.deeper (envOfC q scope s.heap.objs.size f (.ref c'))) → ∃ t, PE (cxOf CX P w K mg base N q scope f (.ref c') A outer s H E) body t ∧ t (start N vs) H Q) :
    codeAny (model P w) A (.call (.ref f) args) (CR CX outer P w H s Q E) s := by
  have lim : s.heap.NoLimit := e0.mod.nolimit.keeps fun b o e => (e0.bs b o e).1
  have hkind : ∀ y ∈ ps.zip us, scope.names.lookup y.1 = some .local ∨ (scope.names.lookup y.1 = some .cell ∧ ((cellsFrom (s.heap.objs.size + 1) scope.names []).lookup y.1).isSome = true) := fun ⟨n, v⟩ hy =>
    (S.par n (List.of_mem_zip hy).1).elim .inl fun q => .inr ⟨q, PySem.W.cellsFrom_some _ _ _ (.inl q)⟩
  obtain ⟨⟨pm, ctv, of1⟩, _, _⟩ := e0.hok f _ hf
  obtain ⟨⟨oc, vsc, t, hoc, hdc, hvc⟩, _, _⟩ := e0.hok c' _ hc
  refine PySem.W.kla_callFunE hr.depth of1 rfl S.co S.gen rfl ⟨c', oc, vsc, t, rfl, hoc, hdc, hvc⟩ ?_
  refine hb pm ctv _ _ _ _ ?_
  refine wpAny_newFunctionEnv_cells S.kind hkind fun env he s1 x => ?_
  subst he
  refine ⟨lim.keeps x.toInCall.keep, ?_⟩
  obtain ⟨t, ht, hq⟩ := hbody (hr.deeper _)
  have I : Inv (cxOf CX P w K mg base N q scope f (.ref c') A outer s H E) [] (start N vs) H s1 := inv_start S hr.hd e0 hl r x
  refine PySem.W.kla_codeExpr (wpAny_mono (ht.run [] s1 (start N vs) H Q I hq) (fun v s' hs => ?_) fun e s' hs => hs)
  obtain ⟨v', H', J, rv, q⟩ := hs
  exact ⟨v', H', J.os, J.bare, J.base, J.hok, rv, q⟩
theorem lamO_ok {P : Program} {w : World} {H : Hp} {h : Heap} {f c' : Addr} {q : Str} {params : Arguments} {body : Expr} {scope : Scope} {pm ctv : Value} (e : h.get? f = some (PySem.W.kla_obj "<lambda>" q params body scope [] pm c' ctv)) :
    ObjOk P w H h f (LamO f q params body scope c') := ⟨⟨pm, ctv, e⟩, ⟨_, e⟩, fun h1 h2 ⟨a, b, z⟩ k => ⟨a, b, k _ z⟩⟩
theorem tabs_upd {T : List (Addr × Str)} {H : Hp} {a : Addr} {o : HO} (t : Tabs T H) (n : H a = none) : Tabs T (upd H a o) := t.ext fun b u e => by rw [upd_ne (ne_of_none e n)]; exact e
theorem extN_upd {H : Hp} {a : Addr} {o : HO} (n : H a = none) : ExtN H (upd H a o) := fun b u e _ => by rw [upd_ne (ne_of_none e n)]; exact e
def tLamV (T : List (Addr × Str)) (q : Str) (params : Arguments) (body : Expr) (scope : Scope) : TE := fun _ H Q => Tabs T H ∧ ∀ f c' H1, ExtN H H1 → Tabs T H1 → H1 f = some (LamO f q params body scope c') → H1 c' = some (CodeO c' q) → H f = none → Q (.ref f) H1
section
variable {X : Cx}
theorem pe_lamV {T : List (Addr × Str)} {c P : Addr} {params : Arguments} {body : Expr} {scope : Scope} {pos : Pos} (TB : TabB X.base X.mg c P) (hcode : X.env.code = .ref c) (hm : (P, X.env.qual ++ "<lambda>") ∈ T) (hu : ∀ p ∈ T, p.1 = P → p.2 = X.env.qual ++ "<lambda>")
    (hdef : defaultsOf params X.env = ([], [])) (hfree : ∀ y ∈ scope.names, y.2 ≠ .free) (hclo : cloFrom X.env.cells scope.names [] = []) : PE X (.Lambda params body scope pos) (tLamV T (X.env.qual ++ "<lambda>") params body scope) := by
  refine ⟨fun pins s σ H Q I h => ?_⟩
  obtain ⟨hT, h⟩ := h
  obtain ⟨ps, hP, ht, ha⟩ := hT _ hm
  refine PySem.W.kla_eval hdef ?_
  have bP : s.heap.BuiltinsAt X.mg P := TB.bm.keeps I.bk
  have hP' : s.heap.get? P = some { cls := .none, data := .fields ps } := I.hok P _ hP
  have hcl : closureFor scope X.env = pure [] := by
    have z := closure_ok (env := X.env) (scope := scope) (fun y hy e => absurd e (hfree y hy))
    rw [hclo] at z
    exact z
  have end_ : ∀ (f c' : Addr) (ctv : Value) (H1 : Hp) (h' : Heap) (tk : Nat), Inv X pins σ H1 { s with heap := h', toks := tk } → s.heap.objs.size ≤ h'.objs.size → ExtN H H1 → Tabs T H1 → H1 h'.objs.size = none → H1 c' = some (CodeO c' (X.env.qual ++ "<lambda>")) →
      EP X pins σ Q (.ref h'.objs.size) { s with heap := h'.push (PySem.W.kla_obj "<lambda>" (X.env.qual ++ "<lambda>") params body scope [] ((X.mg "__name__").getD .none) c' ctv), toks := tk } := by
    intro f c' ctv H1 h' tk I1 hz e1 t1 n1 co
    have J : Inv X pins σ (upd H1 h'.objs.size (LamO h'.objs.size (X.env.qual ++ "<lambda>") params body scope c')) { s with heap := h'.push (PySem.W.kla_obj "<lambda>" (X.env.qual ++ "<lambda>") params body scope [] ((X.mg "__name__").getD .none) c' ctv), toks := tk } :=
      I1.laid (t' := tk) (fun b u e => Heap.get?_push_of_some _ e) (Nat.le_refl _) (lamO_ok (Heap.get?_push_size _ rfl))
    refine ⟨.ref h'.objs.size, _, J, rfl, h h'.objs.size c' _ (e1.trans (extN_upd n1)) (tabs_upd t1 n1) upd_same (by rw [upd_ne (ne_of_none co n1)]; exact co) (I.hok.fresh hz)⟩
  cases hc : codeAmong pos ps.toList with
  | none =>
    refine PySem.W.kla_makeFunction (mg := X.mg) (c := c) (P := P) (ps := ps) hcl I.ok.glob (I.mod.glob.keeps I.bk) hcode (TB.code.keeps I.bk) hP' ht hc TB.gP bP fun c' ctv h' tk hx hge hlt hrec htb => ?_
    obtain ⟨c2, oc, vs, t, e2, hoc, hd, hv⟩ := hrec
    cases e2
    have nC : H c' = none := I.hok.fresh hge
    have nPc : P ≠ c' := ne_of_none hP nC
    have I1 := inv_table (t' := tk) (more := #[rawInt pos.line, rawInt pos.col, .ref c']) (h' := h') I hP hx htb hge ⟨oc, vs, t, hoc, hd, hv⟩
    have hE : ExtN H (upd (upd H P (.tbl (ps ++ #[rawInt pos.line, rawInt pos.col, .ref c']))) c' (CodeO c' (X.env.qual ++ "<lambda>"))) := fun b o e n => by
      rw [upd_ne (ne_of_none e nC), upd_ne (fun z => n ps (Option.some.inj (e.symm.trans (by rw [z]; exact hP))))]
      exact e
    have eL : (ps ++ #[rawInt pos.line, rawInt pos.col, .ref c']).toList = ps.toList ++ [rawInt pos.line, rawInt pos.col, .ref c'] := by simp
    refine end_ h'.objs.size c' ctv _ h' tk I1 (Nat.le_trans hge (Nat.le_of_lt hlt)) hE (fun p hp => ?_) ?_ upd_same
    · by_cases hb : p.1 = P
      · rw [hu p hp hb, hb]
        refine ⟨_, by rw [upd_ne nPc, upd_same], by rw [eL]; exact PySem.TriplesOk_snoc _ _ _ _ ht, fun p' cv hcv => ?_⟩
        rw [eL] at hcv
        rcases among_app _ ht hcv with z | z
        · obtain ⟨c0, e1, e2⟩ := ha p' cv z
          exact ⟨c0, e1, hE _ _ e2 codeO_ne⟩
        · exact ⟨c', z, upd_same⟩
      · obtain ⟨ps', a1, a2, a3⟩ := hT p hp
        refine ⟨ps', by rw [upd_ne (ne_of_none a1 nC), upd_ne hb]; exact a1, a2, fun p' cv hcv => ?_⟩
        obtain ⟨c0, e1, e2⟩ := a3 p' cv hcv
        exact ⟨c0, e1, hE _ _ e2 codeO_ne⟩
    · have n1 : h'.objs.size ≠ c' := Nat.ne_of_gt hlt
      have n2 : h'.objs.size ≠ P := Nat.ne_of_gt (Nat.lt_of_lt_of_le (Heap.lt_size hP') (Nat.le_trans hge (Nat.le_of_lt hlt)))
      rw [upd_ne n1, upd_ne n2]
      exact I.hok.fresh (Nat.le_trans hge (Nat.le_of_lt hlt))
  | some cv =>
    obtain ⟨c', e, hco⟩ := ha pos cv hc
    subst e
    refine PySem.W.kla_makeFunctionHit (mg := X.mg) (c := c) (P := P) (ps := ps) hcl I.ok.glob (I.mod.glob.keeps I.bk) hcode (TB.code.keeps I.bk) hP' ht hc bP fun ctv h' tk hx hsz => ?_
    exact end_ h'.objs.size c' ctv H h' tk (I.kept (t' := tk) hx) hsz (ExtN.refl H) hT (I.hok.fresh hsz) hco
end
end KD
set_option Elab.async false
set_option linter.all false
set_option maxRecDepth 100000
set_option maxHeartbeats 4000000
namespace KS
open PySem PySem.Spec PyProof.Rows L2 KB KC KD LamX PySem.SeqAt SrtO Srt
def Ex (H H' : Hp) : Prop := ∀ b o, H b = some o → H' b = some o
theorem Ex.refl (H : Hp) : Ex H H := fun _ _ h => h
theorem Ex.trans {H H1 H2 : Hp} (a : Ex H H1) (b : Ex H1 H2) : Ex H H2 := fun c o h => b c o (a c o h)
theorem Ex.upd {H : Hp} {a : Addr} {o : HO} (n : H a = none) : Ex H (upd H a o) := fun b u e => by rw [upd_ne (ne_of_none e n)]; exact e
theorem Ex.rd {H H' : Hp} {a : Addr} {u : HO} (e : Ex H H') (h : Rd H a u) : Rd H' a u := h.elim (fun h => .inl (e _ _ h)) fun ⟨o, h⟩ => .inr ⟨o, e _ _ h⟩
mutual
theorem dp_ex {K : PySem.W.Frag} {H H' : Hp} (e : Ex H H') : ∀ {v : V} {d : PyData}, Dp K H v d → Dp K H' v d
  | _, _, .non => .non
  | _, _, .bl b => .bl b
  | _, _, .int i => .int i
  | _, _, .str x => .str x
  | _, _, .lst h t => .lst (h.elim (fun h => .inl (e.rd h)) .inr) (dpAll_ex e t)
  | _, _, .tup h t => .tup (h.elim (fun h => .inl (e.rd h)) .inr) (dpAll_ex e t)
theorem dpAll_ex {K : PySem.W.Frag} {H H' : Hp} (e : Ex H H') : ∀ {vs : List V} {ds : List PyData}, DpAll K H vs ds → DpAll K H' vs ds
  | _, _, .nil => .nil
  | _, _, .cons h t => .cons (dp_ex e h) (dpAll_ex e t)
end
def KeyCall (X : Cx) (f : Addr) (H : Hp) (kvs : List (List Key × V)) (kd : List Key × V → List PyData) : Prop :=
  ∀ x ∈ kvs, ∀ (t q : Addr) (H1 : Hp), Ex H H1 → H1 t = some (.tup [.ref q, x.2]) → H1 q = some (.tup (x.1.map kV)) → ∀ (pins : List (Addr × Obj)) (σ : L2.St) (s1 : Shared) (R : Value → Shared → Prop), Inv X pins σ H1 s1 →
    (∀ y u H2 s2, Inv X pins σ H2 s2 → Ex H1 H2 → RelV y u → Dp X.K H2 y (.tuple (kd x)) → R u s2) → wpAny (model X.prog X.w) X.A.in1.in1 (call (.ref f) [.ref t]) R (fun _ _ => False) s1
section
variable {X : Cx} {pins : List (Addr × Obj)} {σ : L2.St}
theorem lst_raw {H : Hp} {s : Shared} {a : Addr} {ys : List V} (I : Inv X pins σ H s) (h : H a = some (.lst ys)) : ys.length ≤ sizeLine ∧ ∃ (its : List Value) (n : Nat), Vals ys its ∧ s.heap.get? a = some (seqObj "list" its.toArray n) := I.hok a _ h
theorem lst_write {H : Hp} {s : Shared} {a : Addr} {ys zs : List V} {us vs : List Value} {n tk : Nat} (I : Inv X pins σ H s) (h : H a = some (.lst ys)) (hr : s.heap.get? a = some (seqObj "list" us.toArray n)) (hz : zs.length ≤ sizeLine) (rz : Vals zs vs) (g : Array Value → Array Value) (hg : g us.toArray = vs.toArray) :
    Inv X pins σ (upd H a (.lst zs)) { s with heap := s.heap.update a (Obj.mapSeq g), toks := tk } := by
  have e := get?_update_seq hr g
  rw [hg] at e
  exact I.write (t' := tk) (x := a) (e := a) (by rw [h]; exact True.intro) (.inl rfl) (fun b u hb q => (Heap.get?_update_ne _ _ _ _ hb).trans q) ⟨_, e⟩ ⟨hz, vs, _, rz, e⟩
theorem swo_rank {α : Type} (r : α → Int) : Swo fun p q : α => decide (r p < r q) :=
  ⟨fun x y h => by have h := of_decide_eq_true h; exact decide_eq_false (by omega), fun x y z h1 h2 => by have h1 := of_decide_eq_false h1; have h2 := of_decide_eq_false h2; exact decide_eq_false (by omega)⟩
def rankOf (as : List Addr) (kvs : List (List Key × V)) (ρ : List Key × V → Int) (v : Value) : Int :=
  match v with
  | .ref t => match (as.zip kvs).find? (fun z => decide (z.1 = t)) with
    | some z => ρ z.2
    | none => 0
  | _ => 0
theorem find_zip {as : List Addr} {kvs : List (List Key × V)} (nd : as.Nodup) : ∀ {j : Nat} {t : Addr} {x : List Key × V}, as[j]? = some t → kvs[j]? = some x → (as.zip kvs).find? (fun z => decide (z.1 = t)) = some (t, x) := by
  induction as generalizing kvs with
  | nil => intro j t x h; simp at h
  | cons b as ih =>
    intro j t x h1 h2
    rw [List.nodup_cons] at nd
    cases kvs with
    | nil => simp at h2
    | cons y kvs =>
      cases j with
      | zero =>
        simp only [List.getElem?_cons_zero, Option.some.injEq] at h1 h2
        subst h1 h2
        simp
      | succ j =>
        simp only [List.getElem?_cons_succ] at h1 h2
        have hne : ¬ b = t := fun z => nd.1 (by rw [z]; exact List.mem_of_getElem? h1)
        rw [List.zip_cons_cons, List.find?_cons_of_neg (by simpa using hne)]
        exact ih nd.2 h1 h2
theorem rank_at {as : List Addr} {kvs : List (List Key × V)} {ρ : List Key × V → Int} (nd : as.Nodup) {j : Nat} {t : Addr} {x : List Key × V} (h1 : as[j]? = some t) (h2 : kvs[j]? = some x) : rankOf as kvs ρ (.ref t) = ρ x := by
  unfold rankOf
  simp only [find_zip nd h1 h2]
end
mutual
def pureD : PyData → Bool
  | .none => true
  | .bool _ => true
  | .int _ => true
  | .str _ => true
  | .tuple xs => pureL xs
  | _ => false
def pureL : List PyData → Bool
  | [] => true
  | x :: xs => pureD x && pureL xs
end
mutual
theorem dp_tups {K : PySem.W.Frag} {H H' : Hp} (e : ∀ b xs, Rd H b (.tup xs) → Rd H' b (.tup xs)) : ∀ {v : V} {d : PyData}, pureD d = true → Dp K H v d → Dp K H' v d
  | _, _, _, .non => .non
  | _, _, _, .bl b => .bl b
  | _, _, _, .int i => .int i
  | _, _, _, .str x => .str x
  | _, _, h, .lst _ _ => by unfold pureD at h; cases h
  | _, _, h, .tup a t => .tup (a.elim (fun a => .inl (e _ _ a)) .inr) (dpAll_tups e (by unfold pureD at h; exact h) t)
theorem dpAll_tups {K : PySem.W.Frag} {H H' : Hp} (e : ∀ b xs, Rd H b (.tup xs) → Rd H' b (.tup xs)) : ∀ {vs : List V} {ds : List PyData}, pureL ds = true → DpAll K H vs ds → DpAll K H' vs ds
  | _, _, _, .nil => .nil
  | _, _, h, .cons a t => by
    have h2 := h
    unfold pureL at h2
    rw [Bool.and_eq_true] at h2
    exact .cons (dp_tups e h2.1 a) (dpAll_tups e h2.2 t)
end
theorem kat_of {h : Heap} : ∀ its : List Value, (∀ u ∈ its, ∃ l r as, Reads h u (.tuple (.tuple l :: r)) as) → ∃ fs : List Value, PySem.W.KatTups h its fs ∧ fs.length = its.length ∧ ∀ v ∈ fs, ∃ (b : Addr) (o : Obj), v = .ref b ∧ h.get? b = some o ∧ o.cls = .type "tuple"
  | [], _ => ⟨[], PySem.W.KatTups.nil, rfl, fun v hv => by simp at hv⟩
  | u :: its, hr => by
    obtain ⟨fs, k1, k2, k3⟩ := kat_of its fun u' hu' => hr u' (List.mem_cons_of_mem _ hu')
    obtain ⟨l, r, as, q⟩ := hr u List.mem_cons_self
    cases q with
    | @tuple a o vs n _ as₁ h1 h2 h3 h4 =>
      generalize ev : vs.toList = vl at h4
      cases h4 with
      | @cons v0 vr _ _ as1 as2 r0 rr =>
        cases r0 with
        | @tuple b ob vs' n' _ as₂ g1 g2 g3 g4 =>
          refine ⟨.ref b :: fs, PySem.W.KatTups.cons h1 h2 h3 (by rw [← Array.getElem?_toList, ev]; rfl) k1, by rw [List.length_cons, List.length_cons, k2], fun v hv => ?_⟩
          rcases List.mem_cons.mp hv with e | hv
          · exact ⟨b, ob, e, g1, g2⟩
          · exact k3 v hv
section
variable {X : Cx} {pins : List (Addr × Obj)} {σ : L2.St}
theorem sort_body {f D : Addr} {H : Hp} {s : Shared} {h2 : Heap} {tk : Nat} {kvs : List (List Key × V)} {xs : List (List Key × Addr × Value)} {es : Array DictEntry} {as : List Addr} {kd : List Key × V → List PyData} {ρ : List Key × V → Int} {P : PySem.Fin → Shared → Prop} {E : Value → Shared → Prop}
    (I : Inv X pins σ H s) (hk : ∀ b o, s.heap.get? b = some o → h2.get? b = some o) (hD : h2.get? D = some (seqObj "list" (as.map Value.ref).toArray 0)) (hsD : s.heap.objs.size ≤ D)
    (rel : KT H kvs xs) (hes : es.toList = xs.map (entryOfKey (tupleKind (mixKind X.prog X.w)))) (hl : as.length = es.size) (hG : DT.Made es s.heap.objs.size h2 as) (hz : kvs.length ≤ sizeLine)
    (hsh : ∀ x ∈ kvs, shaped (.tuple (kd x)) = true) (hpu : ∀ x ∈ kvs, pureL (kd x) = true) (hft : ∀ x ∈ kvs, ∃ l r, kd x = .tuple l :: r) (hok : ∀ x ∈ kvs, ∀ y ∈ kvs, okL (kd x) (kd y) = true) (hρ : ∀ x ∈ kvs, ∀ y ∈ kvs, ltL (kd x) (kd y) = decide (ρ x < ρ y))
    (hu : X.A.units + 66 < cLine) (hcall : KeyCall X f H kvs kd)
    (q : ∀ (H' : Hp) (s' : Shared) (zs : List (Addr × (List Key × V))), Inv X pins σ H' s' → Ex H H' → H D = none → H' D = some (.lst (zs.map fun z => V.ref z.1)) → (zs.map (·.2)).Perm kvs → (zs.map (·.2)).Pairwise (fun x y => ¬ ρ y < ρ x) →
      (∀ z ∈ zs, ∃ q, H' z.1 = some (.tup [.ref q, z.2.2]) ∧ H' q = some (.tup (z.2.1.map kV))) → P (.done (.ret .none)) s') :
    wpAny (model X.prog X.w) X.A.in1.in1 (ksk_tree D (.ref f) false) P E { s with heap := h2, toks := tk } := by
  have l1 : kvs.length = xs.length := Paired.length rel
  have l2 : es.size = xs.length := size_of_entries hes
  have lak : as.length = kvs.length := by omega
  have nd : as.Nodup := List.Pairwise.imp (fun h => Nat.ne_of_lt h) hG.rise
  have szl : (as.map Value.ref).toArray.size = kvs.length := by rw [List.size_toArray, List.length_map, lak]
  have asz : (as.map Value.ref).length ≤ sizeLine := by rw [List.length_map]; omega
  have nD : H D = none := I.hok.fresh hsD
  have asD : ∀ b ∈ as, b ≠ D ∧ b < h2.objs.size := fun b hb => by
    obtain ⟨j, hj⟩ := List.mem_iff_getElem?.mp hb
    obtain ⟨_, _, e⟩ := hG.pairs j b hj
    refine ⟨fun z => ?_, Heap.lt_size e⟩
    rw [z, hD] at e
    exact absurd (Value.type.inj (congrArg Obj.cls (Option.some.inj e))) (by decide)
  unfold ksk_tree
  refine wpAny_bind (listItems_at hD rfl ?_)
  refine wpAny_bind (listUpdate_at hD rfl ?_ (by rw [szl]; exact hz) (Nat.zero_le _))
  obtain ⟨e1, ho1⟩ : ∃ e1, (h2.update D (Obj.mapSeq fun _ => (#[] : Array Value))).get? D = some (seqObj "list" #[] e1) := ⟨_, get?_update_seq hD fun _ => #[]⟩
  refine wpAny_bind (seqEpoch_at ho1 rfl ?_)
  refine wpAny_bind (wpAny_newTuple ?_ asz)
  refine wpAny_bind (wpAny_newList ?_ (Nat.zero_le _))
  refine wpAny_holding ?_
  generalize hh4 : (h2.update D (Obj.mapSeq fun _ => (#[] : Array Value))).push (seqObj "tuple" (as.map Value.ref).toArray 0) = h4
  have z4 : h4.objs.size = h2.objs.size + 1 := by rw [← hh4, size_push', Heap.size_update]
  have keep4 : ∀ b o, b ≠ D → h2.get? b = some o → h4.get? b = some o := fun b o hb e => by
    rw [← hh4]
    exact Heap.get?_push_of_some _ ((Heap.get?_update_ne _ _ _ _ hb).trans e)
  have hD4 : h4.get? D = some (seqObj "list" #[] e1) := by rw [← hh4]; exact Heap.get?_push_of_some _ ho1
  have I1 : Inv X pins σ (upd H h4.objs.size (.lst [])) { s with heap := h4.push (seqObj "list" #[] 0), toks := tk } :=
    I.laid (t' := tk) (fun b o e => Heap.get?_push_of_some _ (keep4 b o (fun z => by rw [z] at e; exact absurd (Heap.lt_size e) (Nat.not_lt.mpr hsD)) (hk b o e))) (by rw [z4]; exact Nat.le_succ_of_le (Nat.le_trans hsD (Nat.le_of_lt (Heap.lt_size hD))))
      ⟨Nat.zero_le _, [], 0, .nil, Heap.get?_push_size _ rfl⟩
  have hkn : H h4.objs.size = none := I.hok.fresh (by rw [z4]; exact Nat.le_succ_of_le (Nat.le_trans hsD (Nat.le_of_lt (Heap.lt_size hD))))
  have hDk : D ≠ h4.objs.size := by rw [z4]; exact Nat.ne_of_lt (Nat.lt_succ_of_lt (Heap.lt_size hD))
  have hG5 : DT.Made es s.heap.objs.size (h4.push (seqObj "list" #[] 0)) as := ⟨hG.rise, hG.above, fun j b hj => by
    obtain ⟨e, he, hg⟩ := hG.pairs j b hj
    exact ⟨e, he, Heap.get?_push_of_some _ (keep4 b _ (asD b (List.mem_of_getElem? hj)).1 hg)⟩⟩
  obtain ⟨H2, I2, g2, pp, off⟩ := made_tracked (h' := h4.push (seqObj "list" #[] 0)) (tk := tk) I rel hes hl hG5 I1 (Ex.upd hkn) fun b hb => by
    rw [upd_ne (by rw [z4]; exact Nat.ne_of_lt (Nat.lt_succ_of_lt (asD b hb).2))]
    exact I.hok.fresh (Nat.le_of_lt (hG.above b hb))
  have exH2 : Ex H H2 := (Ex.upd hkn).trans g2
  have hkS2 : H2 h4.objs.size = some (.lst []) := g2 _ _ upd_same
  have hD2 : H2 D = none := by rw [off D fun z => (asD D z).1 rfl, upd_ne hDk]; exact nD
  have fD : ∀ H', H' D = none → FpOk X pins H' D := fun H' n => I.fpOk hsD n
  have I3 : Inv X (pins ++ [(D, seqObj "list" #[] e1)]) σ H2 { s with heap := h4.push (seqObj "list" #[] 0), toks := tk } := I2.pins_of fun p hp => by
    rcases List.mem_append.mp hp with hp | hp
    · exact I2.pin p (List.mem_append_right _ hp)
    · rw [List.mem_singleton.mp hp]
      obtain ⟨_, f1, f2, _⟩ := fD H2 hD2
      exact ⟨Heap.get?_push_of_some _ hD4, hD2, f1, f2, fun v z => by cases z⟩
  have pget : ∀ {j : Nat} {t : Addr}, as[j]? = some t → ∃ x q, kvs[j]? = some x ∧ H2 t = some (.tup [.ref q, x.2]) ∧ H2 q = some (.tup (x.1.map kV)) := fun {j t} hj => by
    obtain ⟨x, hx, q, q1, q2⟩ := LiI.paired_get pp hj
    exact ⟨x, q, hx, q1, q2⟩
  unfold ksk_rest
  refine wpAny_bind (wpAny_rule ?_)
  first
    | rw [List.forIn_toArray]
    | (rw [← Array.forIn_toList]; simp only [List.toList_toArray])
  refine wpAny_bind (ksk_fold (fun i s' => ∃ (Hi : Hp) (ys : List V), Inv X (pins ++ [(D, seqObj "list" #[] e1)]) σ Hi s' ∧ (∀ b o, b ≠ h4.objs.size → H2 b = some o → Hi b = some o) ∧ Hi h4.objs.size = some (.lst ys) ∧ ys.length = i ∧
      ∀ (j : Nat) (y : V), ys[j]? = some y → ∃ x, kvs[j]? = some x ∧ Dp X.K Hi y (.tuple (kd x))) (as.map Value.ref) 0 _ ⟨H2, [], I3, fun b o _ e => e, hkS2, rfl, fun j y h => by simp at h⟩ ?step ?done)
  case step =>
    rintro j v s' hv ⟨Hi, ys, Ii, ei, hki, hlen, hdp⟩
    simp only [Nat.zero_add] at hlen ⊢
    rw [List.getElem?_map] at hv
    obtain ⟨t, ht, rfl⟩ := Option.map_eq_some_iff.mp hv
    obtain ⟨x, qa, hx, q1, q2⟩ := pget ht
    have nk : ∀ {b : Addr} {vs : List V}, H2 b = some (.tup vs) → b ≠ h4.objs.size := fun e z => by rw [z, hkS2] at e; cases e
    have hxm : x ∈ kvs := List.mem_of_getElem? hx
    refine wpAny_bind (wpAny_attempt (wpAny_mono (hcall x hxm t qa Hi (fun b o e => ei b o (fun z => by rw [z, hkn] at e; cases e) (exH2 b o e)) (ei _ _ (nk q1) q1) (ei _ _ (nk q2) q2) _ _ s'
      (fun u s'' => ∃ y H3, Inv X (pins ++ [(D, seqObj "list" #[] e1)]) σ H3 s'' ∧ Ex Hi H3 ∧ RelV y u ∧ Dp X.K H3 y (.tuple (kd x))) Ii fun y u H3 s2 J e3 ry dy => ⟨y, H3, J, e3, ry, dy⟩) (fun u s'' he => ?_) fun _ _ hF => hF.elim))
    obtain ⟨y, H3, J, e3, ry, dy⟩ := he
    have hk3 := e3 _ _ hki
    obtain ⟨hzy, its, n, ri, hraw⟩ := lst_raw J hk3
    have jl : j < as.length := (List.getElem?_eq_some_iff.mp ht).1
    have il : its.length = ys.length := ri.length.symm
    try dsimp only
    refine wpAny_bind (listUpdate_at hraw rfl ?_ (by rw [List.size_toArray]; omega) (by rw [Array.size_push, List.size_toArray]; omega))
    refine wpAny_pure ⟨rfl, _, ys ++ [y], lst_write (tk := s''.toks) J hk3 hraw (by rw [List.length_append, List.length_singleton]; omega) (ri.append (.cons ry .nil)) (·.push u) (by simp), fun b o hb e => ?_, upd_same, by rw [List.length_append, List.length_singleton]; omega, fun i z hz' => ?_⟩
    · rw [upd_ne hb]
      exact e3 _ _ (ei b o hb e)
    · have mono : ∀ {v : V} {x : List Key × V}, x ∈ kvs → Dp X.K H3 v (.tuple (kd x)) → Dp X.K (upd H3 h4.objs.size (.lst (ys ++ [y]))) v (.tuple (kd x)) := fun {v x} hm hd =>
        dp_tups (fun b vs r => r.elim (fun r => .inl (by rw [upd_ne (ne_of r hk3 (fun z => by cases z))]; exact r)) fun ⟨o, r⟩ => .inr ⟨o, by rw [upd_ne (ne_of r hk3 (fun z => by cases z))]; exact r⟩) (by unfold pureD; exact hpu x hm) hd
      by_cases hi : i < ys.length
      · rw [List.getElem?_append_left hi] at hz'
        obtain ⟨x', hx', hd'⟩ := hdp i z hz'
        exact ⟨x', hx', mono (List.mem_of_getElem? hx') (dp_ex e3 hd')⟩
      · rw [List.getElem?_append_right (by omega)] at hz'
        have e0 : i - ys.length = 0 := by
          have := (List.getElem?_eq_some_iff.mp hz').1
          simp at this
          omega
        rw [e0] at hz'
        have e4 : y = z := by simpa using hz'
        have e5 : i = j := by omega
        rw [← e4, e5]
        exact ⟨x, hx, mono hxm dy⟩
  case done =>
    rintro s' ⟨Hi, ys, Ii, ei, hki, hlen, hdp⟩
    rw [List.length_map, Nat.zero_add] at hlen
    obtain ⟨_, its, n, ri, hraw⟩ := lst_raw Ii hki
    have il : its.length = ys.length := ri.length.symm
    try dsimp only
    refine wpAny_bind (listItems_at hraw rfl ?_)
    have pairsL : (its.toArray.zip (as.map Value.ref).toArray).toList = its.zip (as.map Value.ref) := by
      first
        | simp
        | rfl
    have mem_at : ∀ p ∈ its.zip (as.map Value.ref), ∃ (j : Nat) (t : Addr) (x : List Key × V), p.2 = .ref t ∧ as[j]? = some t ∧ kvs[j]? = some x ∧ its[j]? = some p.1 := fun p hp => by
      obtain ⟨j, hj⟩ := List.mem_iff_getElem?.mp hp
      obtain ⟨j1, j2⟩ := List.getElem?_zip_eq_some.mp hj
      rw [List.getElem?_map] at j2
      obtain ⟨t, ht, e⟩ := Option.map_eq_some_iff.mp j2
      obtain ⟨x, _, hx, _⟩ := pget ht
      exact ⟨j, t, x, e.symm, ht, hx, j1⟩
    have tail : ∀ st' : SortSt, Srtd (fun p q : Keyed => decide (rankOf as kvs ρ p.2 < rankOf as kvs ρ q.2)) (arrOf st').toList → Stb (fun p q : Keyed => decide (rankOf as kvs ρ p.2 < rankOf as kvs ρ q.2)) (arrOf st').toList (its.zip (as.map Value.ref)) → failedOf st' = none →
        wpAny (model X.prog X.w) X.A.in1.in1 (ksk_tail D false e1 (.ref h4.objs.size) st') P E s' := by
      intro st' hs hb hf
      have out_perm : ((arrOf st').toList.map (·.2)).Perm (as.map Value.ref) := by
        have z := hb.perm.map (·.2)
        rw [List.map_snd_zip (by rw [List.length_map]; omega)] at z
        exact z
      have ezip : (as.zip kvs).map (fun z => Value.ref z.1) = as.map Value.ref := by
        rw [show (fun z : Addr × (List Key × V) => Value.ref z.1) = Value.ref ∘ Prod.fst from rfl, ← List.map_map, List.map_fst_zip (by omega)]
      obtain ⟨zs, pz, ez⟩ := perm_lift (fun z : Addr × (List Key × V) => Value.ref z.1) out_perm (as.zip kvs) ezip
      have zmem : ∀ z ∈ zs, ∃ j : Nat, as[j]? = some z.1 ∧ kvs[j]? = some z.2 := fun z hz => by
        obtain ⟨j, hj⟩ := List.mem_iff_getElem?.mp (pz.mem_iff.mp hz)
        exact ⟨j, List.getElem?_zip_eq_some.mp hj⟩
      have zlen : zs.length = kvs.length := by
        rw [pz.length_eq, List.length_zip]
        omega
      have osz : ((arrOf st').map (·.2)).size = kvs.length := by
        have z := out_perm.length_eq
        rw [List.length_map, Array.length_toList, List.length_map] at z
        rw [Array.size_map]
        omega
      have oeq : ((arrOf st').map (·.2)).toList = zs.map fun z => Value.ref z.1 := by rw [Array.toList_map, ← ez]
      have J1 := lst_write (tk := s'.toks) (zs := []) (vs := []) Ii hki hraw (Nat.zero_le _) .nil (fun _ => (#[] : Array Value)) rfl
      obtain ⟨pD, nD5, _⟩ := J1.pin (D, seqObj "list" #[] e1) (List.mem_append_right _ (List.mem_append_right _ (List.mem_singleton.mpr rfl)))
      unfold ksk_tail
      try dsimp only
      refine wpAny_bind (listUpdate_at hraw rfl ?_ (by rw [List.size_toArray]; omega) (Nat.zero_le _))
      refine wpAny_bind (wpAny_letGo ?_)
      refine wpAny_bind (seqEpoch_at pD rfl ?_)
      refine wpAny_bind (listUpdate_at pD rfl ?_ (Nat.zero_le _) (by simp only [Bool.false_eq_true, if_false]; rw [osz]; omega))
      rw [hf]
      simp only [bne_self_eq_false, Bool.false_eq_true, if_false]
      refine wpAny_pure ?_
      have J2 := J1.pins_of (pins' := pins) fun p hp => J1.pin p (List.mem_append_right _ (List.mem_append_left _ hp))
      have eD := get?_update_seq pD fun _ => (arrOf st').map (·.2)
      have dk : D ≠ h4.objs.size := hDk
      have J3 := J2.take (t' := s'.toks) (o := .lst (zs.map fun z => V.ref z.1)) (h' := (s'.heap.update h4.objs.size (Obj.mapSeq fun _ => (#[] : Array Value))).update D (Obj.mapSeq fun _ => (arrOf st').map (·.2))) (fun b u hb e => (Heap.get?_update_ne _ _ _ _ hb).trans e) (fD _ nD5)
        ⟨by rw [List.length_map]; omega, zs.map (fun z => Value.ref z.1), _, vals_maps (fun z : Addr × (List Key × V) => V.ref z.1) (fun z => Value.ref z.1) zs fun _ _ => rfl, by rw [← oeq, Array.toArray_toList]; exact eD⟩
      refine q _ _ zs J3 (fun b o e => ?_) nD upd_same ?_ ?_ fun z hz' => ?_
      · rw [upd_ne (ne_of_none e nD), upd_ne (ne_of_none e hkn)]
        exact ei b o (ne_of_none e hkn) (exH2 b o e)
      · have z := pz.map (·.2)
        rw [List.map_snd_zip (by omega)] at z
        exact z
      · have s1 : (zs.map fun z => Value.ref z.1).Pairwise (fun v u => decide (rankOf as kvs ρ u < rankOf as kvs ρ v) = false) := by
          rw [ez, List.pairwise_map]
          exact hs
        rw [List.pairwise_map] at s1 ⊢
        refine List.Pairwise.imp_of_mem (fun {x y} hx hy h => ?_) s1
        obtain ⟨j, j1, j2⟩ := zmem x hx
        obtain ⟨i, i1, i2⟩ := zmem y hy
        rw [rank_at nd j1 j2, rank_at nd i1 i2] at h
        exact of_decide_eq_false h
      · obtain ⟨j, j1, j2⟩ := zmem z hz'
        obtain ⟨x, qa, hx, q1, q2⟩ := pget j1
        have e : x = z.2 := Option.some.inj (hx.symm.trans j2)
        rw [e] at q1 q2
        have up : ∀ {b : Addr} {vs : List V}, H2 b = some (.tup vs) → (upd (upd Hi h4.objs.size (.lst [])) D (.lst (zs.map fun z => V.ref z.1))) b = some (.tup vs) := fun {b vs} h => by
          rw [upd_ne (fun z => by rw [z, hD2] at h; cases h), upd_ne (fun z => by rw [z, hkS2] at h; cases h)]
          exact ei _ _ (fun z => by rw [z, hkS2] at h; cases h) h
        exact ⟨qa, up q1, up q2⟩
    unfold ksk_end
    simp only [Bool.false_eq_true, if_false]
    by_cases h2s : (as.map Value.ref).toArray.size < 2
    · rw [if_pos h2s, if_pos h2s]
      refine wpAny_bind (wpAny_pure ?_)
      rw [StateT.run_pure]
      refine wpAny_bind (wpAny_pure ?_)
      try dsimp only
      refine tail (SortSt.mk' general' (its.toArray.zip (as.map Value.ref).toArray) #[] 7 none) ?_ ?_ rfl
      · show List.Pairwise _ (its.toArray.zip (as.map Value.ref).toArray).toList
        rw [pairsL]
        have ll : (its.zip (as.map Value.ref)).length < 2 := by
          rw [List.length_zip, List.length_map]
          rw [szl] at h2s
          omega
        match h : its.zip (as.map Value.ref), ll with
        | [], _ => exact List.Pairwise.nil
        | [v], _ => exact List.pairwise_singleton _ _
        | _ :: _ :: l, h3 => exact absurd h3 (by rw [List.length_cons, List.length_cons]; omega)
      · show Stb _ (its.toArray.zip (as.map Value.ref).toArray).toList _
        rw [pairsL]
        exact Stb.refl _
    · rw [if_neg h2s, if_neg h2s]
      have rd : ∀ {j : Nat} {u : Value}, its[j]? = some u → ∃ x as', kvs[j]? = some x ∧ Reads s'.heap u (.tuple (kd x)) as' := fun {j u} hj => by
        have jl : j < ys.length := by
          have := (List.getElem?_eq_some_iff.mp hj).1
          omega
        obtain ⟨x, hx, hd⟩ := hdp j ys[j] (List.getElem?_eq_getElem jl)
        obtain ⟨u', hu', ru⟩ := ri.get (List.getElem?_eq_getElem jl)
        have e : u' = u := Option.some.inj (hu'.symm.trans hj)
        rw [e] at ru
        obtain ⟨as', r⟩ := Dp.reads Ii _ _ _ hd ru
        exact ⟨x, as', hx, r⟩
      have cmp : Cmp X.prog X.w X.A.in1.in1 s' (tuples' false) (fun p => p ∈ its.zip (as.map Value.ref)) (fun p q : Keyed => decide (rankOf as kvs ρ p.2 < rankOf as kvs ρ q.2)) := by
        intro p q hp hq
        obtain ⟨j, t, x, e1, h1, h2, h3⟩ := mem_at p hp
        obtain ⟨i, t', x', e1', h1', h2', h3'⟩ := mem_at q hq
        obtain ⟨y, bs, hy, r⟩ := rd h3
        obtain ⟨y', bs', hy', r'⟩ := rd h3'
        have ey : y = x := Option.some.inj (hy.symm.trans h2)
        have ey' : y' = x' := Option.some.inj (hy'.symm.trans h2')
        rw [ey] at r
        rw [ey'] at r'
        have m := List.mem_of_getElem? h2
        have m' := List.mem_of_getElem? h2'
        refine keyLt_data r r' (canLay_of_shaped (hsh x m)) (canLay_of_shaped (hsh x' m')) (hok x m x' m') (room_of_shaped (hsh x m) (by show X.A.units + 1 + 1 + 64 < cLine; omega)) ⟨rfl, ?_⟩
        show ltL (kd x) (kd x') = decide (rankOf as kvs ρ p.2 < rankOf as kvs ρ q.2)
        rw [e1, e1', rank_at nd h1 h2, rank_at nd h1' h2', hρ x m x' m']
      have kk : ∀ (R : SortKind → Shared → Prop), R (tuples' false) s' → wpAny (model X.prog X.w) X.A.in1.in1 (keyKind' its.toArray) R E s' := by
        intro R hR
        obtain ⟨fs, k1, k2, k3⟩ := kat_of (h := s'.heap) its fun u hu' => by
          obtain ⟨j, hj⟩ := List.mem_iff_getElem?.mp hu'
          obtain ⟨x, as', hx, r⟩ := rd hj
          obtain ⟨l, r', e⟩ := hft x (List.mem_of_getElem? hx)
          rw [e] at r
          exact ⟨l, r', as', r⟩
        refine PySem.W.kat_kind (T := .type "tuple") k1 (by rw [szl] at h2s; omega) (fun v hv => ?_) (by decide) (by
          have z : (Value.type "tuple" != Value.type "tuple") = false := by decide
          rw [z]
          exact hR)
        obtain ⟨b, o, rfl, ho, hc⟩ := k3 v hv
        rw [← hc]
        exact (PySem.W.Looks.ld ho).andThen .now
      refine wpAny_bind (kk _ ?_)
      refine wpAny_bind (wpAny_mono (wpS_sortO (st0 := SortSt.mk' (tuples' false) (its.toArray.zip (as.map Value.ref).toArray) #[] 7 none)
        (Q := fun _ st' => Srtd (fun p q : Keyed => decide (rankOf as kvs ρ p.2 < rankOf as kvs ρ q.2)) (arrOf st').toList ∧ Stb (fun p q : Keyed => decide (rankOf as kvs ρ p.2 < rankOf as kvs ρ q.2)) (arrOf st').toList (its.zip (as.map Value.ref)) ∧ failedOf st' = none) (swo_rank fun p : Keyed => rankOf as kvs ρ p.2) cmp rfl
        (fun p hp => by
          have hp : p ∈ (its.toArray.zip (as.map Value.ref).toArray).toList := hp
          rw [pairsL] at hp
          exact hp) rfl rfl fun st' a1 a2 a3 => ⟨a1, by
            have a2 : Stb _ (arrOf st').toList (its.toArray.zip (as.map Value.ref).toArray).toList := a2
            rw [pairsL] at a2
            exact a2, a3⟩) ?_ fun _ _ e => e)
      rintro ⟨⟨⟩, st'⟩ s'' ⟨rfl, a1, a2, a3⟩
      try dsimp only
      exact tail st' a1 a2 a3
end
end KS
set_option Elab.async false
set_option linter.all false
set_option maxRecDepth 100000
set_option maxHeartbeats 2000000
namespace TL
open PySem PySem.Spec PyProof.Rows L2 KB KC KD LamX
def Beh (P : Program) (w : World) (K : PySem.W.Frag) (mg : Str → Option Value) (base : Heap) (k : Nat) (f c' : Addr) (q : Str) (body : Expr) (scope : Scope) (N : List Str) (H : Hp) (Q : VK) (E1 : XK) : Prop :=
  ∀ E : XK, (∀ cls d H', E1 cls d H' → E cls d H') → ∀ (A : Around) (outer : List Env) (s : Shared), Room k (A.deeper (envOfC q scope s.heap.objs.size f (.ref c'))) →
    ∃ t, PE (cxOf (L2.CX P w) P w K mg base N q scope f (.ref c') A outer s H E) body t ∧ t (start N []) H Q
def LamAt (P : Program) (w : World) (K : PySem.W.Frag) (mg : Str → Option Value) (base : Heap) (k : Nat) (f : Addr) (H : Hp) (Q : VK) (E1 : XK) : Prop :=
  ∃ (c' : Addr) (q : Str) (params : Arguments) (body : Expr) (scope : Scope) (N : List Str), H f = some (LamO f q params body scope c') ∧ H c' = some (CodeO c' q) ∧ FnScope N [] scope ∧
    (∀ pm ctv, bindArgs (PySem.W.kla_fn "<lambda>" q params body scope [] pm (.ref c') ctv) ⟨[], []⟩ = pure []) ∧ Beh P w K mg base k f c' q body scope N H Q E1
section
variable {X : Cx}
theorem pe_callLam {k i : Nat} {a : Str} {E : L2.St → XK} {p1 p2 : Pos} (hr : Room (k + 1) X.A) (hx : ∀ σ, PassesAt (L2.CX X.prog X.w) X σ (E σ)) (hN : X.N[i]? = some a) (hv : Vis X.env.scope a) (hd : (a == ("__debug__" : Str)) = false := by decide) (hcd : (a == ("__classdict__" : Str)) = false := by decide) :
    PE X (.Call (.Name a p1) [] [] p2) (fun σ H Q => ∃ f, σ[i]? = some (some (.ref f)) ∧ LamAt X.prog X.w X.K X.mg X.base k f H Q (E σ)) := by
  refine ⟨fun pins s σ H Q I hw => ?_⟩
  obtain ⟨f, hs, c', q, params, body, scope, N, hf, hc, S, hb, beh⟩ := hw
  have nm := (pe_var (pos := p1) (i := i) hN hv hd hcd).run pins s σ H (fun v H1 => v = .ref f ∧ H1 = H) I ⟨_, hs, rfl, rfl⟩
  refine wpAny_Call_Name_kw (thn nm fun u s1 hu => ?_)
  obtain ⟨v, H1, I1, rv, ev, eH⟩ := hu
  subst ev
  subst eH
  have eu : u = Value.ref f := rv
  subst eu
  obtain ⟨⟨pm, ctv, of1⟩, _, _⟩ := I1.hok f _ hf
  refine PySem.W.callWith_F0 ⟨_, _, _, _, of1⟩ ?_
  have run := lam_run (CX := L2.CX X.prog X.w) (Q := Q) (E := E σ) (vs := []) (us := []) (args := ⟨[], []⟩) (ps := []) S hr I1.env0 hf hc (fun pm ctv => .of_eq (hb pm ctv)) .nil rfl (fun hr' => beh (E σ) (fun _ _ _ z => z) _ _ _ hr')
  refine wpAny_call (codeAny_mono run fun r s2 hq => ?_)
  match r, hq with
  | .error e, hq => exact hx σ pins H1 s1 e s2 I1 hq
  | .ok (.ret u), hq => exact I1.after hq
  | .ok .next, hq => exact False.elim hq
  | .ok .brk, hq => exact False.elim hq
  | .ok .cont, hq => exact False.elim hq
end
theorem LamAt.mono {P : Program} {w : World} {K : PySem.W.Frag} {mg : Str → Option Value} {base : Heap} {k : Nat} {f : Addr} {H : Hp} {Q : VK} {E1 E2 : XK} (h : LamAt P w K mg base k f H Q E1) (e : ∀ cls d H', E1 cls d H' → E2 cls d H') : LamAt P w K mg base k f H Q E2 := by
  obtain ⟨c', q, params, body, scope, N, hf, hc, S, hb, beh⟩ := h
  exact ⟨c', q, params, body, scope, N, hf, hc, S, hb, fun E he => beh E fun cls d H' z => he cls d H' (e cls d H' z)⟩
@[irreducible] def spToldV (P : Program) (w : World) (K : PySem.W.Frag) (mg : Str → Option Value) (base : Heap) (k : Nat) (CR : Addr) (ret : Str) : Sp := fun vs H Q _ => ∃ f, vs = [.ref f] ∧
  LamAt P w K mg base k f H Q (fun cls _ H' => ∃ b, PySem.W.exmOne K cls (.ref CR) = some b ∧ (b = true → Q (.str ret) H') ∧ (b = false → False))
section
variable {P : Program} {w : World} {K : PySem.W.Frag} {mg : Str → Option Value} {base : Heap}
theorem ok_toldV {x a e ret : Str} {pg : Arguments} {sg : Scope} {Ng : List Str} {f CR : Addr} {fd : FuncData} {j k : Nat} {p1 p2 p3 p4 p5 p6 p7 p8 : Pos}
    (F : FunD K x x pg [.Try [.Return (some (.Call (.Name a p1) [] [] p2)) p3] [.ExceptHandler (some (.Name e p4)) none [.Return (some (.Constant (.str ret) j p5)) p6] p7] [] [] p8] sg [] [] f fd) (S : FnScope Ng [a] sg) (hN : Ng[0]? = some a) (hva : Vis sg a)
    (h0 : ∀ f : Addr, (L2.start Ng [V.ref f])[0]? = some (some (V.ref f))) (hge : sg.names.lookup e = some .globalImplicit) (hme : mg e = some (.ref CR)) (hde : (e == ("__debug__" : Str)) = false) (hd : (a == ("__debug__" : Str)) = false) (hcd : (a == ("__classdict__" : Str)) = false) :
    FnOk P w K mg base CX0 (k + 2) f fd [a] (spToldV P w K mg base k CR ret) := by
  refine F.ok S (fun vs H Q E h => ?_) (fun cdv A outer s H vs Q E hr h => ?_)
  · unfold spToldV at h
    obtain ⟨_, rfl, _⟩ := h; rfl
  · unfold spToldV at h
    obtain ⟨fl, rfl, hl⟩ := h
    have hgl : Gl (cxOf CX0 P w K mg base Ng x sg f cdv A outer s H E).nox e := hge
    refine ⟨_, PSs.nox <| pss_one (ps_try_only (c := .ref CR) (tb := fun W => tRet fun σ H Q => ∃ fz, σ[0]? = some (some (V.ref fz)) ∧ LamAt P w K mg base k fz H Q (WE W σ)) rfl rfl ⟨hgl, hde, .inl hme⟩ L2.takes0
      (fun W pn xe tk _ => pss_one (ps_ret (pe_callLam (k := k) (i := 0) (E := fun σ => WE W σ) hr (fun σ => passAt tk σ) hN hva hd hcd))) (fun a oe cls d pn _ _ => pss_one (ps_ret pe_str))), ?_⟩
    exact ⟨fl, h0 fl, hl.mono fun cls d H' ⟨b, e1, e2, e3⟩ => ⟨b, e1, fun hb a _ => e2 hb, fun hb => e3 hb⟩⟩
end
end TL
set_option linter.all false
namespace Q1
abbrev Sp2 := Int × Int
structure M (g : Int) (ts : List Int) (s : Sp2) : Prop where
  m1 : s.1 ∈ ts
  m2 : ∀ u ∈ ts, ¬ (s.1 - g < u ∧ u < s.1)
  m3 : s.2 - g ∈ ts
  m4 : ∀ u ∈ ts, ¬ (s.2 - g < u ∧ u < s.2)
  m5 : ∀ x, s.1 ≤ x → x < s.2 - g → ∃ u ∈ ts, x < u ∧ u < x + g
  m6 : s.1 + g ≤ s.2
theorem M.apart {g : Int} {ts : List Int} {a b : Sp2} (hg : 0 < g) (ha : M g ts a) (hb : M g ts b) (h : a.1 ≤ b.1) : a = b ∨ a.2 ≤ b.1 := by
  by_cases e : a.2 ≤ b.1
  · exact .inr e
  · left
    have e1 : a.1 = b.1 := by
      by_cases e2 : b.1 ≤ a.2 - g
      · by_cases e3 : a.1 < b.1
        · exfalso
          by_cases e4 : a.1 ≤ b.1 - g
          · obtain ⟨u, hu, h1, h2⟩ := ha.m5 (b.1 - g) e4 (by omega)
            exact hb.m2 u hu ⟨h1, by omega⟩
          · exact hb.m2 a.1 ha.m1 ⟨by omega, e3⟩
        · omega
      · exact absurd ⟨(by omega : a.2 - g < b.1), (by omega : b.1 < a.2)⟩ (ha.m4 b.1 hb.m1)
    have e2 : a.2 = b.2 := by
      have l1 := ha.m6
      have l2 := hb.m6
      rcases Int.lt_trichotomy a.2 b.2 with h1 | h1 | h1
      · obtain ⟨u, hu, h3, h4⟩ := hb.m5 (a.2 - g) (by omega) (by omega)
        exact absurd ⟨h3, by omega⟩ (ha.m4 u hu)
      · exact h1
      · obtain ⟨u, hu, h3, h4⟩ := ha.m5 (b.2 - g) (by omega) (by omega)
        exact absurd ⟨h3, by omega⟩ (hb.m4 u hu)
    exact Prod.ext e1 e2
theorem M.congr {g : Int} {ts us : List Int} (h : ∀ x, x ∈ ts ↔ x ∈ us) {s : Sp2} (m : M g ts s) : M g us s :=
  ⟨(h _).mp m.m1, fun u hu => m.m2 u ((h _).mpr hu), (h _).mp m.m3, fun u hu => m.m4 u ((h _).mpr hu), fun x h1 h2 => by
    obtain ⟨u, hu, h3⟩ := m.m5 x h1 h2
    exact ⟨u, (h _).mp hu, h3⟩, m.m6⟩
structure Spans (g : Int) (ts : List Int) (S : List Sp2) : Prop where
  mem : ∀ s, s ∈ S ↔ M g ts s
  cover : ∀ u ∈ ts, ∃ s ∈ S, s.1 ≤ u ∧ u + g ≤ s.2
  asc : S.Pairwise fun a b => a.2 ≤ b.1
theorem Spans.congr {g : Int} {ts us : List Int} (h : ∀ x, x ∈ ts ↔ x ∈ us) {S : List Sp2} (m : Spans g ts S) : Spans g us S :=
  ⟨fun s => ⟨fun z => ((m.mem s).mp z).congr h, fun z => (m.mem s).mpr (z.congr fun x => (h x).symm)⟩, fun u hu => m.cover u ((h u).mpr hu), m.asc⟩
theorem asc_eq {g : Int} (hg : 0 < g) : ∀ {A B : List Sp2}, (∀ s ∈ A, s.1 + g ≤ s.2) → A.Pairwise (fun a b => a.2 ≤ b.1) → B.Pairwise (fun a b => a.2 ≤ b.1) → (∀ s, s ∈ A ↔ s ∈ B) → A = B
  | [], [], _, _, _, _ => rfl
  | [], b :: B, _, _, _, h => absurd ((h b).mpr List.mem_cons_self) (by simp)
  | a :: A, [], _, _, _, h => absurd ((h a).mp List.mem_cons_self) (by simp)
  | a :: A, b :: B, w, pa, pb, h => by
    have wB : ∀ s ∈ b :: B, s.1 + g ≤ s.2 := fun s hs => w s ((h s).mpr hs)
    rw [List.pairwise_cons] at pa pb
    have wa := w a List.mem_cons_self
    have wb := wB b List.mem_cons_self
    have e : a = b := by
      rcases List.mem_cons.mp ((h a).mp List.mem_cons_self) with z | z
      · exact z
      rcases List.mem_cons.mp ((h b).mpr List.mem_cons_self) with y | y
      · exact y.symm
      have h1 := pb.1 a z
      have h2 := pa.1 b y
      omega
    subst e
    have na : ∀ {C : List Sp2}, (∀ x ∈ C, a.2 ≤ x.1) → a ∉ C := fun hc hm => by
      have := hc a hm
      omega
    rw [asc_eq hg (fun s hs => w s (List.mem_cons_of_mem _ hs)) pa.2 pb.2 fun s => ?_]
    constructor
    · intro hs
      rcases List.mem_cons.mp ((h s).mp (List.mem_cons_of_mem _ hs)) with z | z
      · exact absurd (z ▸ hs) (na pa.1)
      · exact z
    · intro hs
      rcases List.mem_cons.mp ((h s).mpr (List.mem_cons_of_mem _ hs)) with z | z
      · exact absurd (z ▸ hs) (na pb.1)
      · exact z
theorem Spans.uniq {g : Int} (hg : 0 < g) {ts : List Int} {A B : List Sp2} (a : Spans g ts A) (b : Spans g ts B) : A = B :=
  asc_eq hg (fun s hs => ((a.mem s).mp hs).m6) a.asc b.asc fun s => (a.mem s).trans (b.mem s).symm
def ov (g t : Int) (s : Sp2) : Bool := decide (s.1 < t + g) && decide (t < s.2)
def inner (g t : Int) (S : List Sp2) : List Sp2 := S.filter (ov g t)
def others (g t : Int) (S : List Sp2) : List Sp2 := S.filter fun s => decide (s ∉ inner g t S)
theorem ov_iff {g t : Int} {s : Sp2} : ov g t s = true ↔ s.1 < t + g ∧ t < s.2 := by
  unfold ov
  simp
theorem mem_inner {g t : Int} {S : List Sp2} {s : Sp2} : s ∈ inner g t S ↔ s ∈ S ∧ s.1 < t + g ∧ t < s.2 := by
  unfold inner
  rw [List.mem_filter, ov_iff]
theorem mem_others {g t : Int} {S : List Sp2} {s : Sp2} : s ∈ others g t S ↔ s ∈ S ∧ ¬ (s.1 < t + g ∧ t < s.2) := by
  unfold others
  rw [List.mem_filter, decide_eq_true_eq, mem_inner]
  constructor
  · rintro ⟨h1, h2⟩; exact ⟨h1, fun h => h2 ⟨h1, h⟩⟩
  · rintro ⟨h1, h2⟩; exact ⟨h1, fun h => h2 h.2⟩
structure Joint (g t : Int) (S : List Sp2) (b e : Int) : Prop where
  b1 : b = t ∨ ∃ s ∈ inner g t S, b = s.1
  b2 : b ≤ t
  b3 : ∀ s ∈ inner g t S, b ≤ s.1
  e1 : e = t + g ∨ ∃ s ∈ inner g t S, e = s.2
  e2 : t + g ≤ e
  e3 : ∀ s ∈ inner g t S, s.2 ≤ e
section
variable {g t b e : Int} {ts : List Int} {S : List Sp2}
theorem joint_M (hg : 0 < g) (H : Spans g ts S) (J : Joint g t S b e) : M g (t :: ts) (b, e) := by
  have cov := H.cover
  refine ⟨?_, fun u hu => ?_, ?_, fun u hu => ?_, fun x h1 h2 => ?_, ?_⟩
  · rcases J.b1 with h | ⟨s, hs, h⟩
    · show b ∈ t :: ts
      rw [h]; exact List.mem_cons_self
    · show b ∈ t :: ts
      rw [h]
      exact List.mem_cons_of_mem _ ((H.mem s).mp (mem_inner.mp hs).1).m1
  · show ¬ (b - g < u ∧ u < b)
    rintro ⟨h1, h2⟩
    have hb := J.b2
    rcases List.mem_cons.mp hu with rfl | hu
    · omega
    · rcases J.b1 with h | ⟨s, hs, h⟩
      · obtain ⟨s', hs', h3, h4⟩ := cov u hu
        have := J.b3 s' (mem_inner.mpr ⟨hs', by omega, by omega⟩)
        omega
      · exact ((H.mem s).mp (mem_inner.mp hs).1).m2 u hu ⟨by omega, by omega⟩
  · show e - g ∈ t :: ts
    rcases J.e1 with h | ⟨s, hs, h⟩
    · have : e - g = t := by omega
      rw [this]; exact List.mem_cons_self
    · rw [h]
      exact List.mem_cons_of_mem _ ((H.mem s).mp (mem_inner.mp hs).1).m3
  · show ¬ (e - g < u ∧ u < e)
    rintro ⟨h1, h2⟩
    have he := J.e2
    rcases List.mem_cons.mp hu with rfl | hu
    · omega
    · rcases J.e1 with h | ⟨s, hs, h⟩
      · obtain ⟨s', hs', h3, h4⟩ := cov u hu
        have := J.e3 s' (mem_inner.mpr ⟨hs', by omega, by omega⟩)
        omega
      · exact ((H.mem s).mp (mem_inner.mp hs).1).m4 u hu ⟨by omega, by omega⟩
  · have h1 : b ≤ x := h1
    have h2 : x < e - g := h2
    show ∃ u ∈ t :: ts, x < u ∧ u < x + g
    by_cases hx : x < t
    · -- ahead of t: in the inner span that begins at b
      by_cases hx2 : t < x + g
      · exact ⟨t, List.mem_cons_self, hx, hx2⟩
      · rcases J.b1 with h | ⟨s, hs, h⟩
        · omega
        · obtain ⟨hs1, hs2, hs3⟩ := mem_inner.mp hs
          have m := (H.mem s).mp hs1
          obtain ⟨u, hu, h3⟩ := m.m5 x (by omega) (by omega)
          exact ⟨u, List.mem_cons_of_mem _ hu, h3⟩
    · rcases J.e1 with h | ⟨s, hs, h⟩
      · omega
      · obtain ⟨hs1, hs2, hs3⟩ := mem_inner.mp hs
        have m := (H.mem s).mp hs1
        by_cases hx3 : s.1 ≤ x
        · obtain ⟨u, hu, h3⟩ := m.m5 x hx3 (by omega)
          exact ⟨u, List.mem_cons_of_mem _ hu, h3⟩
        · exact ⟨s.1, List.mem_cons_of_mem _ m.m1, by omega, by omega⟩
  · have := J.b2
    have := J.e2
    show b + g ≤ e
    omega
theorem others_M (hg : 0 < g) (H : Spans g ts S) {s : Sp2} (h : s ∈ others g t S) : M g (t :: ts) s := by
  obtain ⟨h1, h2⟩ := mem_others.mp h
  have m := (H.mem s).mp h1
  have l := m.m6
  refine ⟨List.mem_cons_of_mem _ m.m1, fun u hu => ?_, List.mem_cons_of_mem _ m.m3, fun u hu => ?_, fun x h3 h4 => ?_, m.m6⟩
  · rcases List.mem_cons.mp hu with rfl | hu
    · omega
    · exact m.m2 u hu
  · rcases List.mem_cons.mp hu with rfl | hu
    · omega
    · exact m.m4 u hu
  · obtain ⟨u, hu, h5⟩ := m.m5 x h3 h4
    exact ⟨u, List.mem_cons_of_mem _ hu, h5⟩
theorem joint_mem (hg : 0 < g) (H : Spans g ts S) (J : Joint g t S b e) (s : Sp2) : s ∈ others g t S ++ [(b, e)] ↔ M g (t :: ts) s := by
  have mb := joint_M hg H J
  have lb := J.b2
  have le := J.e2
  rw [List.mem_append, List.mem_singleton]
  constructor
  · rintro (h | rfl)
    · exact others_M hg H h
    · exact mb
  · intro m
    have ls := m.m6
    have ap : s = (b, e) ∨ s.2 ≤ b ∨ e ≤ s.1 := by
      rcases Int.le_total s.1 b with h | h
      · rcases m.apart hg mb h with z | z
        · exact .inl z
        · exact .inr (.inl z)
      · rcases mb.apart hg m h with z | z
        · exact .inl z.symm
        · exact .inr (.inr z)
    rcases ap with z | ap
    · exact .inr z
    · left
      have notT : ∀ u, u ∈ t :: ts → s.1 ≤ u → u < s.2 → u ∈ ts := fun u hu h1 h2 => by
        rcases List.mem_cons.mp hu with rfl | hu
        · exfalso; omega
        · exact hu
      refine mem_others.mpr ⟨(H.mem s).mpr ⟨notT _ m.m1 (by omega) (by omega), fun u hu => m.m2 u (List.mem_cons_of_mem _ hu), notT _ m.m3 (by omega) (by omega), fun u hu => m.m4 u (List.mem_cons_of_mem _ hu), fun x h1 h2 => ?_, m.m6⟩, by omega⟩
      obtain ⟨u, hu, h3, h4⟩ := m.m5 x h1 h2
      exact ⟨u, notT u hu (by omega) (by omega), h3, h4⟩
theorem joint_cover (H : Spans g ts S) (J : Joint g t S b e) : ∀ u ∈ t :: ts, ∃ s ∈ others g t S ++ [(b, e)], s.1 ≤ u ∧ u + g ≤ s.2 := by
  intro u hu
  have lb := J.b2
  have le := J.e2
  have hm : (b, e) ∈ others g t S ++ [(b, e)] := List.mem_append.mpr (.inr (List.mem_singleton.mpr rfl))
  rcases List.mem_cons.mp hu with rfl | hu
  · exact ⟨(b, e), hm, lb, le⟩
  · obtain ⟨s, hs, h1, h2⟩ := H.cover u hu
    by_cases h : s.1 < t + g ∧ t < s.2
    · have hi := mem_inner.mpr ⟨hs, h⟩
      have := J.b3 s hi
      have := J.e3 s hi
      exact ⟨(b, e), hm, by show b ≤ u; omega, by show u + g ≤ e; omega⟩
    · exact ⟨s, List.mem_append.mpr (.inl (mem_others.mpr ⟨hs, h⟩)), h1, h2⟩
theorem asc_nodup (hg : 0 < g) : ∀ {A : List Sp2}, (∀ s ∈ A, s.1 + g ≤ s.2) → A.Pairwise (fun a b => a.2 ≤ b.1) → A.Nodup
  | [], _, _ => List.nodup_nil
  | a :: A, w, p => by
    rw [List.pairwise_cons] at p
    refine List.nodup_cons.mpr ⟨fun h => ?_, asc_nodup hg (fun s hs => w s (List.mem_cons_of_mem _ hs)) p.2⟩
    have := p.1 a h
    have := w a List.mem_cons_self
    omega
theorem joint_nodup (hg : 0 < g) (H : Spans g ts S) (J : Joint g t S b e) : (others g t S ++ [(b, e)]).Nodup := by
  have nS := asc_nodup hg (fun s hs => ((H.mem s).mp hs).m6) H.asc
  have lb := J.b2
  have le := J.e2
  refine List.nodup_append.mpr ⟨nS.filter _, by simp, fun x hx y hy => ?_⟩
  rw [List.mem_singleton] at hy
  subst hy
  rintro rfl
  have := (mem_others.mp hx).2
  exact this ⟨by show b < t + g; omega, by show t < e; omega⟩
def lt2 (a b : Sp2) : Bool := decide (a.1 < b.1) || (decide (a.1 = b.1) && decide (a.2 < b.2))
theorem asc_of_sorted (hg : 0 < g) {A : List Sp2} (hm : ∀ s ∈ A, M g ts s) (nd : A.Nodup) (so : A.Pairwise fun a b => lt2 b a = false) : A.Pairwise fun a b => a.2 ≤ b.1 := by
  induction A with
  | nil => exact .nil
  | cons a A ih =>
    rw [List.pairwise_cons] at so
    rw [List.nodup_cons] at nd
    refine List.pairwise_cons.mpr ⟨fun x hx => ?_, ih (fun s hs => hm s (List.mem_cons_of_mem _ hs)) nd.2 so.2⟩
    have h1 := so.1 x hx
    unfold lt2 at h1
    rw [Bool.or_eq_false_iff, decide_eq_false_iff_not] at h1
    rcases (hm a List.mem_cons_self).apart hg (hm x (List.mem_cons_of_mem _ hx)) (by omega) with z | z
    · exact absurd (z ▸ hx) nd.1
    · exact z
theorem joined_spans (hg : 0 < g) (H : Spans g ts S) (J : Joint g t S b e) {A : List Sp2} (pm : A.Perm (others g t S ++ [(b, e)])) (so : A.Pairwise fun a b => lt2 b a = false) : Spans g (t :: ts) A := by
  have hm : ∀ s, s ∈ A ↔ M g (t :: ts) s := fun s => (pm.mem_iff).trans (joint_mem hg H J s)
  refine ⟨hm, fun u hu => ?_, asc_of_sorted hg (fun s hs => (hm s).mp hs) (pm.nodup_iff.mpr (joint_nodup hg H J)) so⟩
  obtain ⟨s, hs, h⟩ := joint_cover H J u hu
  exact ⟨s, pm.mem_iff.mpr hs, h⟩
theorem taken_eq (hg : 0 < g) (H : Spans g ts S) {A : List Sp2} (pm : A.Perm (inner g t S)) (so : A.Pairwise fun a b => lt2 b a = false) : A = inner g t S := by
  have hi : ∀ s ∈ inner g t S, M g ts s := fun s hs => (H.mem s).mp (mem_inner.mp hs).1
  have ai : (inner g t S).Pairwise fun a b => a.2 ≤ b.1 := H.asc.filter _
  have nd : (inner g t S).Nodup := (asc_nodup hg (fun s hs => ((H.mem s).mp hs).m6) H.asc).filter _
  have hA : ∀ s ∈ A, M g ts s := fun s hs => hi s (pm.mem_iff.mp hs)
  exact asc_eq hg (fun s hs => (hA s hs).m6) (asc_of_sorted hg hA (pm.nodup_iff.mpr nd) so) ai fun s => pm.mem_iff
theorem taken_law (hg : 0 < g) (H : Spans g ts S) (J : Joint g t S b e) {A : List Sp2} (pm : A.Perm (others g t S ++ [(b, e)])) : S.filter (fun s => decide (s ∉ A) || decide (s = (b, e))) = inner g t S := by
  unfold inner
  refine List.filter_congr fun s hs => ?_
  have lb := J.b2
  have le := J.e2
  have hA : s ∈ A ↔ s ∈ others g t S ∨ s = (b, e) := by rw [pm.mem_iff, List.mem_append, List.mem_singleton]
  rw [Bool.eq_iff_iff, ov_iff, Bool.or_eq_true, decide_eq_true_eq, decide_eq_true_eq, hA, mem_others]
  constructor
  · rintro (h | rfl)
    · by_cases z : s.1 < t + g ∧ t < s.2
      · exact z
      · exact absurd (.inl ⟨hs, z⟩) h
    · exact ⟨by show b < t + g; omega, by show t < e; omega⟩
  · intro h
    by_cases z : s = (b, e)
    · exact .inr z
    · left
      rintro (y | y)
      · exact y.2 h
      · exact z y
end
def lsStep (g : Int) (acc : List Sp2) (t : Int) : List Sp2 :=
  match acc.getLast? with
  | some l => if t < l.2 then acc.dropLast ++ [(l.1, t + g)] else acc ++ [(t, t + g)]
  | none => [(t, t + g)]
theorem spans_nil {g : Int} : Spans g [] [] := ⟨fun s => ⟨fun h => by simp at h, fun m => absurd m.m1 (by simp)⟩, fun u hu => absurd hu (by simp), .nil⟩
theorem ls_spans {g t : Int} (hg : 0 < g) {ts : List Int} {S : List Sp2} (H : Spans g ts S) (ht : ∀ u ∈ ts, u ≤ t) : Spans g (t :: ts) (lsStep g S t) := by
  have hs1 : ∀ s ∈ S, s.1 ≤ t := fun s hs => ht _ ((H.mem s).mp hs).m1
  have hs2 : ∀ s ∈ S, s.2 ≤ t + g := fun s hs => by have := ht _ ((H.mem s).mp hs).m3; omega
  rcases List.eq_nil_or_concat S with rfl | ⟨init, l, rfl⟩
  · have J : Joint g t [] t (t + g) := ⟨.inl rfl, Int.le_refl _, fun s hs => absurd hs (by simp [inner]), .inl rfl, Int.le_refl _, fun s hs => absurd hs (by simp [inner])⟩
    exact joined_spans hg H J (A := [(t, t + g)]) (List.Perm.refl _) (by simp)
  · rw [List.concat_eq_append] at H hs1 hs2 ⊢
    have asc := H.asc
    rw [List.pairwise_append] at asc
    have hl := hs1 l (by simp)
    have hl2 := hs2 l (by simp)
    have ml := (H.mem l).mp (by simp)
    have noi : ∀ s ∈ init, s.2 ≤ t := fun s hs => by have := asc.2.2 s hs l (by simp); omega
    have w : ∀ s ∈ init ++ [l], s.1 + g ≤ s.2 := fun s hs => ((H.mem s).mp hs).m6
    unfold lsStep
    rw [List.getLast?_concat]
    show Spans g (t :: ts) (if t < l.2 then _ else _)
    by_cases h : t < l.2
    · rw [if_pos h, List.dropLast_concat]
      have hin : ∀ s, s ∈ inner g t (init ++ [l]) ↔ s = l := fun s => by
        rw [mem_inner]
        constructor
        · rintro ⟨h1, h2, h3⟩
          rcases List.mem_append.mp h1 with z | z
          · have := noi s z; omega
          · exact List.mem_singleton.mp z
        · rintro rfl
          exact ⟨by simp, by omega, h⟩
      have J : Joint g t (init ++ [l]) l.1 (t + g) := ⟨.inr ⟨l, (hin l).mpr rfl, rfl⟩, hl, fun s hs => by rw [(hin s).mp hs]; exact Int.le_refl _, .inl rfl, Int.le_refl _, fun s hs => by rw [(hin s).mp hs]; exact hl2⟩
      have eo : others g t (init ++ [l]) = init := by
        unfold others
        rw [List.filter_append, List.filter_eq_self.mpr fun s hs => ?_]
        · rw [List.filter_cons_of_neg (by simpa using (hin l).mpr rfl)]
          simp
        · rw [decide_eq_true_eq, hin]
          rintro rfl
          have h1 := noi s hs
          omega
      refine joined_spans hg H J (by rw [eo]) ?_
      refine List.pairwise_append.mpr ⟨asc.1.imp_of_mem fun {a b} ha hb hab => ?_, by simp, fun a ha b hb => ?_⟩
      · have := w a (by simp [ha])
        unfold lt2
        simp
        omega
      · rw [List.mem_singleton] at hb
        subst hb
        have h1 := asc.2.2 a ha l (by simp)
        have := w a (by simp [ha])
        unfold lt2
        simp
        omega
    · rw [if_neg h]
      have hin : ∀ s, s ∉ inner g t (init ++ [l]) := fun s hs => by
        obtain ⟨h1, h2, h3⟩ := mem_inner.mp hs
        rcases List.mem_append.mp h1 with z | z
        · have := noi s z; omega
        · rw [List.mem_singleton.mp z] at h3
          exact h h3
      have J : Joint g t (init ++ [l]) t (t + g) := ⟨.inl rfl, Int.le_refl _, fun s hs => absurd hs (hin s), .inl rfl, Int.le_refl _, fun s hs => absurd hs (hin s)⟩
      have eo : others g t (init ++ [l]) = init ++ [l] := by
        unfold others
        exact List.filter_eq_self.mpr fun s _ => by rw [decide_eq_true_eq]; exact hin s
      refine joined_spans hg H J (by rw [eo]) ?_
      refine List.pairwise_append.mpr ⟨H.asc.imp_of_mem fun {a b} ha hb hab => ?_, by simp, fun a ha b hb => ?_⟩
      · have := w a ha
        unfold lt2
        simp
        omega
      · rw [List.mem_singleton] at hb
        subst hb
        have h1 := hs1 a ha
        have h2 := hs2 a ha
        have := w a ha
        have h3 : a.2 ≤ t := by
          rcases List.mem_append.mp ha with z | z
          · exact noi a z
          · rw [List.mem_singleton.mp z]; omega
        unfold lt2
        simp
        omega
def lawSp (g : Int) (ts : List Int) : List Sp2 := ts.foldl (lsStep g) []
theorem lawSp_spans {g : Int} (hg : 0 < g) {ts : List Int} (so : ts.Pairwise (· ≤ ·)) : Spans g ts (lawSp g ts) := by
  have go : ∀ (r p : List Int) (S : List Sp2), Spans g p S → (∀ u ∈ p, ∀ v ∈ r, u ≤ v) → r.Pairwise (· ≤ ·) → Spans g (p ++ r) (r.foldl (lsStep g) S) := by
    intro r
    induction r with
    | nil => intro p S h _ _; simpa using h
    | cons t r ih =>
      intro p S h hp hr
      rw [List.pairwise_cons] at hr
      have h1 := ls_spans hg h fun u hu => hp u hu t List.mem_cons_self
      have h2 := ih (p ++ [t]) (lsStep g S t) (h1.congr fun x => by simp [or_comm]) (fun u hu v hv => ?_) hr.2
      · simpa using h2
      · rcases List.mem_append.mp hu with z | z
        · exact hp u z v (List.mem_cons_of_mem _ hv)
        · rw [List.mem_singleton.mp z]; exact hr.1 v hv
  exact go ts [] [] spans_nil (by simp) so
end Q1
set_option Elab.async false
set_option linter.all false
set_option maxRecDepth 100000
set_option maxHeartbeats 4000000
namespace SrtU
open PySem PyProof.Rows Srt SrtO
section
variable {prog : Program} {w : World} {A : Around} {E : Value → Shared → Prop} {s : Shared}
theorem collect_tup {l : Addr} {vs : List Value} {Q : List Value → Shared → Prop} (hl : s.heap.IsTuple l vs.toArray)
    (h : Q vs { s with heap := (s.heap.push (seqObj "list" #[] 0)).update s.heap.objs.size (Obj.mapSeq (· ++ vs.toArray)) }) (hsz : vs.length ≤ sizeLine) :
    wpAny (model prog w) A (collect (.ref l)) Q E s := by
  obtain ⟨o, ho, hc, n, hd⟩ := id hl
  unfold collect
  refine wpAny_bind (wpAny_runValue (codeAny_builtin entry_proto_collect' ?_))
  show wpAny _ _ (do again (.builtin "list.__iadd__" ⟨[← newList [], .ref l], []⟩)) _ _ s
  refine wpAny_bind (wpAny_newList (wpAny_pure ⟨Code.quiet_builtin _ (by decide +kernel), codeAny_builtin entry_list_iadd' ?_⟩))
  show wpAny _ _ (Builtin.List.listExtendWith (.ref s.heap.objs.size) (.ref l) (.ref s.heap.objs.size)) _ _ { s with heap := s.heap.push (seqObj "list" #[] 0) }
  unfold Builtin.List.listExtendWith
  have ho' : (s.heap.push (seqObj "list" #[] 0)).get? l = some o := Heap.get?_push_of_some _ ho
  refine wpAny_bind (wpAny_typeOf (T := "tuple") ⟨o, ho', hc⟩ ?_)
  have ht : (Value.type "tuple" == Value.type "tuple") = true := by rfl
  rw [if_pos (by rw [ht]; simp)]
  refine wpAny_bind (listItems_at ho' hd ?_)
  refine wpAny_bind (listItems_at (xs := #[]) (n := 0) (Heap.get?_push_size _ rfl) rfl ?_)
  rw [if_neg (by simp)]
  refine wpAny_bind (listUpdate_at (xs := #[]) (n := 0) (Heap.get?_push_size _ rfl) rfl ?_ (Nat.zero_le _) (by show (#[] ++ vs.toArray).size ≤ sizeLine + 1; simp only [Array.size_append, List.size_toArray, List.length_nil]; omega))
  refine wpAny_pure ?_
  show wpAny (model prog w) A (do
      let o ← load s.heap.objs.size
      match o.data with
      | .seq xs _ => pure xs.toList
      | _ => unsupported "internal:collect") Q E { s with heap := (s.heap.push (seqObj "list" #[] 0)).update s.heap.objs.size (Obj.mapSeq (· ++ vs.toArray)) }
  refine wpAny_bind (wpAny_load (get?_update_seq (Heap.get?_push_size _ rfl) _) ?_)
  show wpAny _ _ (pure ((#[] : Array Value) ++ vs.toArray).toList) Q E _
  rw [show ((#[] : Array Value) ++ vs.toArray).toList = vs by simp]
  exact wpAny_pure h
theorem sorted_ordT {l : Addr} {vs : List Value} {ltv : Value → Value → Bool} {Q : Value → Shared → Prop} (O : Swo ltv) (hl : s.heap.IsTuple l vs.toArray) (hz : vs.length ≤ sizeLine)
    (hS : 2 ≤ vs.length → ∀ (h₁ : Heap) (a : Addr), h₁.get? a = some (seqObj "list" vs.toArray 0) → (∀ b o, s.heap.get? b = some o → b ≠ a ∧ h₁.get? b = some o) → SortableO prog w A.in1.in1 { s with heap := h₁ } a vs ltv)
    (h : ∀ out : List Value, Srtd ltv out → Stb ltv out vs → Q (.ref (s.heap.objs.size + 1)) { s with heap := sortedAll s.heap vs out.toArray }) :
    wpAny (model prog w) A (call (.builtin "sorted") [.ref l]) Q E s := by
  refine Calls.call_function_entry kind_sorted plain_sorted entry_sorted (args_sorted1 _) ?_
  unfold Builtin.«sorted»
  refine wpAny_bind (m := checkCount "sorted" 1 1 _) (wpAny_pure ?_)
  refine wpAny_bind (collect_tup hl ?_ hz)
  refine wpAny_bind (wpAny_newList ?_ hz)
  have hsz : ((s.heap.push (seqObj "list" #[] 0)).update s.heap.objs.size (Obj.mapSeq (· ++ vs.toArray))).objs.size = s.heap.objs.size + 1 := by
    rw [Heap.size_update, size_push']
  have hoL : (((s.heap.push (seqObj "list" #[] 0)).update s.heap.objs.size (Obj.mapSeq (· ++ vs.toArray))).push (seqObj "list" vs.toArray 0)).get? (s.heap.objs.size + 1) = some (seqObj "list" vs.toArray 0) := by
    rw [← hsz]; exact Heap.get?_push_size _ rfl
  have keep : ∀ b o, s.heap.get? b = some o → b ≠ s.heap.objs.size + 1 ∧ (((s.heap.push (seqObj "list" #[] 0)).update s.heap.objs.size (Obj.mapSeq (· ++ vs.toArray))).push (seqObj "list" vs.toArray 0)).get? b = some o := fun b o q => by
    have hlt : b < s.heap.objs.size := Heap.lt_size q
    refine ⟨Nat.ne_of_lt (Nat.lt_succ_of_lt hlt), Heap.get?_push_of_some _ ?_⟩
    rw [Heap.get?_update_ne _ _ _ _ (Nat.ne_of_lt hlt)]
    exact Heap.get?_push_of_some _ q
  show wpAny _ _ _ _ _ { s with heap := ((s.heap.push (seqObj "list" #[] 0)).update s.heap.objs.size (Obj.mapSeq (· ++ vs.toArray))).push (seqObj "list" vs.toArray 0) }
  rw [hsz]
  refine wpAny_bind (wpAny_holding (wpAny_call_entry slot_list_sort ⟨_, hoL, rfl⟩ entry_list_sort (list_sort_ord O hoL hz (fun h2 => hS h2 _ _ hoL keep) fun out hs hb => ⟨_, rfl, ?_⟩) (args_list_sort _)))
  exact wpAny_pure ⟨_, rfl, h out hs hb⟩
theorem sorted_pairsT {l : Addr} {vs : List Value} {k : Value → Int × Int} {Q : Value → Shared → Prop} (hl : s.heap.IsTuple l vs.toArray) (hz : vs.length ≤ sizeLine) (hp : ∀ v ∈ vs, IsPair s.heap v (k v).1 (k v).2)
    (h : ∀ (h' : Heap) (d : Addr) (out : List Value), Srtd (fun v u => lexB (k v) (k u)) out → Stb (fun v u => lexB (k v) (k u)) out vs → (∀ b o, s.heap.get? b = some o → h'.get? b = some o) → s.heap.objs.size ≤ d → (∃ n, h'.get? d = some (seqObj "list" out.toArray n)) → Q (.ref d) { s with heap := h' }) :
    wpAny (model prog w) A (call (.builtin "sorted") [.ref l]) Q E s := by
  refine sorted_ordT (swo_lex k) hl hz (fun h2 h₁ a ha kk => ?_) fun out hs hb => ?_
  · refine pairs_sortableO (s := { s with heap := h₁ }) (by omega) (fun v hm => (hp v hm).keeps fun b o e _ => (kk b o e).2) fun o e => ?_
    have e' : some o = some (seqObj "list" vs.toArray 0) := e.symm.trans ha
    cases e'
    intro c
    exact absurd (Value.type.inj c) (by decide)
  · exact h _ _ out hs hb (fun b o e => sortedAll_old e) (Nat.le_succ _) (sortedAll_at s.heap vs out.toArray)
end
end SrtU
namespace R8
open PySem PySem.Spec PyProof.Rows L2 KB KC KS Q1
def pD (p : Sp2) : PyData := .tuple [.int p.1, .int p.2]
def Ps (H : Hp) (us : List Addr) (S : List Sp2) : Prop := Paired (fun (t : Addr) (p : Sp2) => H t = some (.tup [.int p.1, .int p.2])) us S
theorem paired_mono {α β : Type} {R R' : α → β → Prop} (f : ∀ a b, R a b → R' a b) : ∀ {l : List α} {m : List β}, Paired R l m → Paired R' l m
  | _, _, .nil => .nil
  | _, _, .cons h t => .cons (f _ _ h) (paired_mono f t)
theorem paired_app {α β : Type} {R : α → β → Prop} : ∀ {l l' : List α} {m m' : List β}, Paired R l m → Paired R l' m' → Paired R (l ++ l') (m ++ m')
  | _, _, _, _, .nil, h => h
  | _, _, _, _, .cons h t, h' => .cons h (paired_app t h')
theorem Ps.ex {H H' : Hp} {us : List Addr} {S : List Sp2} (p : Ps H us S) (e : ∀ b xs, H b = some (.tup xs) → H' b = some (.tup xs)) : Ps H' us S := paired_mono (fun a b h => e a _ h) p
theorem Ps.dp {K : PySem.W.Frag} {H : Hp} : ∀ {us : List Addr} {S : List Sp2}, Ps H us S → DpAll K H (us.map V.ref) (S.map pD)
  | _, _, .nil => .nil
  | _, _, .cons h t => .cons (.tup (SqT.of h) (.cons (.int _) (.cons (.int _) .nil))) (Ps.dp t)
theorem Ps.at {H : Hp} : ∀ {us : List Addr} {S : List Sp2}, Ps H us S → ∀ {i : Nat} {t : Addr}, us[i]? = some t → ∃ p, S[i]? = some p ∧ H t = some (.tup [.int p.1, .int p.2])
  | _, _, .nil, i, t, h => by simp at h
  | _, _, .cons (a := a) (b := b) h r, i, t, e => by
    cases i with
    | zero => cases e; exact ⟨b, rfl, h⟩
    | succ i => exact Ps.at r (i := i) e
theorem Ps.at2 {H : Hp} : ∀ {us : List Addr} {S : List Sp2}, Ps H us S → ∀ {i : Nat} {p : Sp2}, S[i]? = some p → ∃ t, us[i]? = some t ∧ H t = some (.tup [.int p.1, .int p.2])
  | _, _, .nil, i, t, h => by simp at h
  | _, _, .cons (a := a) (b := b) h r, i, t, e => by
    cases i with
    | zero => cases e; exact ⟨a, rfl, h⟩
    | succ i => exact Ps.at2 r (i := i) e
def kH (H : Hp) : V → Int × Int
  | .ref t => match H t with
    | some (.tup [.int i, .int j]) => (i, j)
    | _ => (0, 0)
  | _ => (0, 0)
theorem kH_at {H : Hp} {t : Addr} {p : Sp2} (h : H t = some (.tup [.int p.1, .int p.2])) : kH H (.ref t) = p := by
  unfold kH
  simp only [h]
theorem Ps.kH {H : Hp} : ∀ {us : List Addr} {S : List Sp2}, Ps H us S → (us.map V.ref).map (kH H) = S
  | _, _, .nil => rfl
  | _, _, .cons h t => by rw [List.map_cons, List.map_cons, kH_at h, Ps.kH t]
theorem eqv_pD (a b : Sp2) : PyData.eqv (pD a) (pD b) = decide (a = b) := by
  obtain ⟨a1, a2⟩ := a
  obtain ⟨b1, b2⟩ := b
  unfold pD
  simp only [PyData.eqv, PyData.eqvAll, Bool.and_true, Prod.mk.injEq]
  rw [Bool.eq_iff_iff]
  simp
theorem any_pD (S : List Sp2) (p : Sp2) : ((S.map pD).any fun z => PyData.eqv z (pD p)) = decide (p ∈ S) := by
  rw [Bool.eq_iff_iff, List.any_eq_true, decide_eq_true_eq]
  constructor
  · rintro ⟨z, hz, h⟩
    obtain ⟨q, hq, rfl⟩ := List.mem_map.mp hz
    rw [eqv_pD, decide_eq_true_eq] at h
    exact h ▸ hq
  · intro h
    exact ⟨pD p, List.mem_map.mpr ⟨p, h, rfl⟩, by rw [eqv_pD]; exact decide_eq_true rfl⟩
theorem shaped_pD (p : Sp2) : SeqAt.shaped (pD p) = true := by
  unfold SeqAt.shaped pD
  simp [PyData.canLay0, PyData.canLayAll0, PyData.depth, PyData.depthAll]
theorem lay_pD : ∀ S : List Sp2, PyData.canLayAll0 (S.map pD) = true
  | [] => by simp [PyData.canLayAll0]
  | p :: S => by
    rw [List.map_cons]
    unfold PyData.canLayAll0
    rw [lay_pD S]
    simp [pD, PyData.canLay0, PyData.canLayAll0]
def rInP (neg : Bool) : R2 := fun x y H Q => ∃ (t a : Addr) (p : Sp2) (us : List Addr) (S : List Sp2), x = .ref t ∧ y = .ref a ∧ H t = some (.tup [.int p.1, .int p.2]) ∧ H a = some (.tup (us.map V.ref)) ∧ Ps H us S ∧ Q (.bl (if neg then !decide (p ∈ S) else decide (p ∈ S))) H
section
variable {X : Cx}
theorem op_inP (hu : X.A.units + 65 < cLine) : OpR X (compareOp .In) (rInP false) := by
  intro pins s σ H x y v u Q I rx ry h
  obtain ⟨t, a, p, us, S, rfl, rfl, ht, ha, hp, q⟩ := h
  obtain ⟨as, r1⟩ := Dp.reads I (pD p) (.ref t) v (.tup (SqT.of ht) (.cons (.int _) (.cons (.int _) .nil))) rx
  obtain ⟨bs, r2⟩ := Dp.reads I (.tuple (S.map pD)) (.ref a) u (.tup (SqT.of ha) hp.dp) ry
  refine SeqAt.in_tuple_reads r2 r1 (lay_pD S) (SeqAt.canLay_of_shaped (shaped_pD p)) (room_in_shaped (shaped_pD p) hu) ⟨.bl _, H, I, rfl, ?_⟩
  rw [any_pD]
  exact q
theorem op_notInP (hu : X.A.units + 65 < cLine) : OpR X (compareOp .NotIn) (rInP true) := by
  intro pins s σ H x y v u Q I rx ry h
  obtain ⟨t, a, p, us, S, rfl, rfl, ht, ha, hp, q⟩ := h
  obtain ⟨as, r1⟩ := Dp.reads I (pD p) (.ref t) v (.tup (SqT.of ht) (.cons (.int _) (.cons (.int _) .nil))) rx
  obtain ⟨bs, r2⟩ := Dp.reads I (.tuple (S.map pD)) (.ref a) u (.tup (SqT.of ha) hp.dp) ry
  refine SeqAt.notIn_tuple_reads r2 r1 (lay_pD S) (SeqAt.canLay_of_shaped (shaped_pD p)) (room_in_shaped (shaped_pD p) hu) ⟨.bl _, H, I, rfl, ?_⟩
  rw [any_pD]
  exact q
end
theorem refs_ex : ∀ {l : List V}, (∀ v ∈ l, ∃ t, v = V.ref t) → ∃ us : List Addr, l = us.map V.ref
  | [], _ => ⟨[], rfl⟩
  | v :: l, h => by
    obtain ⟨t, rfl⟩ := h v List.mem_cons_self
    obtain ⟨us, rfl⟩ := refs_ex fun v hv => h v (List.mem_cons_of_mem _ hv)
    exact ⟨t :: us, rfl⟩
theorem ps_of {H : Hp} : ∀ {us : List Addr}, (∀ t ∈ us, ∃ p : Sp2, H t = some (.tup [.int p.1, .int p.2])) → Ps H us ((us.map V.ref).map (kH H))
  | [], _ => .nil
  | t :: us, h => by
    obtain ⟨p, hp⟩ := h t List.mem_cons_self
    refine .cons ?_ (ps_of fun u hu => h u (List.mem_cons_of_mem _ hu))
    rw [kH_at hp]
    exact hp
theorem Ps.mem {H : Hp} : ∀ {us : List Addr} {S : List Sp2}, Ps H us S → ∀ t ∈ us, ∃ p : Sp2, H t = some (.tup [.int p.1, .int p.2])
  | _, _, .nil, t, h => by simp at h
  | _, _, .cons (b := b) h r, t, ht => by
    rcases List.mem_cons.mp ht with rfl | ht
    · exact ⟨b, h⟩
    · exact Ps.mem r t ht
theorem lexB_lt2 {a b : Sp2} (h : SrtO.lexB a b = false) : lt2 a b = false := by
  have := SrtO.lexB_no.mp h
  unfold lt2
  rw [Bool.or_eq_false_iff, Bool.and_eq_false_iff, decide_eq_false_iff_not, decide_eq_false_iff_not, decide_eq_false_iff_not]
  omega
theorem sort_out {H : Hp} {us : List Addr} {S : List Sp2} {ys : List V} (hp : Ps H us S) (so : SrtO.Srtd (ltP (kH H)) ys) (st : SrtO.Stb (ltP (kH H)) ys (us.map V.ref)) :
    ∃ (us' : List Addr) (S' : List Sp2), ys = us'.map V.ref ∧ Ps H us' S' ∧ S'.Perm S ∧ S'.Pairwise (fun a b => lt2 b a = false) := by
  have pm := st.perm
  obtain ⟨us', rfl⟩ := refs_ex (l := ys) fun v hv => by
    obtain ⟨t, _, e⟩ := List.mem_map.mp (pm.mem_iff.mp hv)
    exact ⟨t, e.symm⟩
  refine ⟨us', (us'.map V.ref).map (kH H), rfl, ps_of fun t ht => ?_, ?_, ?_⟩
  · have := pm.mem_iff.mp (List.mem_map.mpr ⟨t, ht, rfl⟩)
    obtain ⟨t', ht', e⟩ := List.mem_map.mp this
    cases e
    exact hp.mem t ht'
  · rw [← hp.kH]
    exact pm.map _
  · refine List.pairwise_map.mpr (so.imp fun {a b} h => lexB_lt2 h)
def rSortPL : List V → Hp → VK → Prop := fun vs H Q => ∃ (a : Addr) (us : List Addr) (S : List Sp2), vs = [.ref a] ∧ (H a = some (.lst (us.map V.ref)) ∨ H a = some (.tup (us.map V.ref))) ∧ Ps H us S ∧
  ∀ (q : Addr) (us' : List Addr) (S' : List Sp2), H q = none → Ps H us' S' → S'.Perm S → S'.Pairwise (fun a b => lt2 b a = false) → Q (.ref q) (upd H q (.lst (us'.map V.ref)))
section
variable {X : Cx}
theorem cr_sortPL : CallR X (.builtin "sorted") rSortPL := by
  intro pins s σ H vs us0 Q I r h
  obtain ⟨a, us, S, rfl, ha | ha, hp, q⟩ := h
  · refine cr_sortedPO pins s σ H _ us0 Q I r ⟨a, us.map V.ref, kH H, rfl, SqL.of ha, fun x hx => ?_, fun ys p so st hn => ?_⟩
    · obtain ⟨t, ht, rfl⟩ := List.mem_map.mp hx
      obtain ⟨p, h⟩ := hp.mem t ht
      exact ⟨t, rfl, by rw [kH_at h]; exact h⟩
    · obtain ⟨us', S', rfl, h1, h2, h3⟩ := sort_out hp so st
      exact q p us' S' hn h1 h2 h3
  · obtain ⟨its, rv, hl, hz⟩ := I.tuple (SqT.of ha)
    obtain ⟨u, rfl, ru⟩ := vals1 r
    obtain rfl : u = Value.ref a := ru
    obtain ⟨e1, e2⟩ := refs_back rv fun x m => by
      obtain ⟨t, _, e⟩ := List.mem_map.mp m
      exact ⟨t, e.symm⟩
    refine SrtU.sorted_pairsT (k := fun u => kH H (backV u)) hl (by rw [← rv.length]; exact hz) (fun v hv => ?_) fun h' d out h1 h2 kp hd hn => ?_
    · obtain ⟨t, rfl⟩ := e2 v hv
      have hm : V.ref t ∈ us.map V.ref := by rw [e1]; exact List.mem_map.mpr ⟨_, hv, rfl⟩
      obtain ⟨t', ht', e⟩ := List.mem_map.mp hm
      cases e
      obtain ⟨p, hpt⟩ := hp.mem t ht'
      obtain ⟨_, its2, r2, o, ho, hc, n, hd⟩ := I.hok _ _ hpt
      obtain ⟨u1, u2, rfl, ri, rj⟩ := vals2 r2
      obtain ⟨t1, rfl⟩ := ri
      obtain ⟨t2, rfl⟩ := rj
      have e : kH H (backV (.ref t)) = p := kH_at hpt
      rw [e]
      exact ⟨t, o, t1, t2, n, rfl, ho, hc, hd⟩
    · have h3 : ∀ u ∈ out, ∃ a, u = Value.ref a := fun u hu => e2 u (h2.perm.mem_iff.mp hu)
      obtain ⟨n, hn⟩ := hn
      have hb : SrtO.Stb (ltP (kH H)) (out.map backV) (us.map V.ref) := by
        rw [e1]
        exact SrtO.Stb.map (ltP_swo (kH H)) backV h2
      obtain ⟨us', S', e, k1, k2, k3⟩ := sort_out hp (SrtO.srtd_map h1) hb
      have hq := q d us' S' (I.hok.fresh hd) k1 k2 k3
      rw [← e] at hq
      refine ⟨.ref d, upd H d (.lst (out.map backV)), I.laid (t' := s.toks) kp hd ⟨?_, out, n, vals_back h3, hn⟩, rfl, hq⟩
      rw [hb.len]
      exact hz
end
def minDef : List Int → Int → Int
  | [], d => d
  | n :: ns, _ => W.minOf n ns
theorem minOf_spec : ∀ (ns : List Int) (n : Int), W.minOf n ns ∈ n :: ns ∧ ∀ y ∈ n :: ns, W.minOf n ns ≤ y
  | [], n => ⟨List.mem_cons_self, fun y hy => by rw [List.mem_singleton.mp hy]; exact Int.le_refl _⟩
  | m :: ns, n => by
    have e : W.minOf n (m :: ns) = W.minOf (if m < n then m else n) ns := by
      unfold W.minOf
      rw [List.foldl_cons]
      have : (W.DatumOrd.lt m n = true) = (m < n) := by
        show (decide (m < n) = true) = _
        simp
      simp only [this]
    obtain ⟨h1, h2⟩ := minOf_spec ns (if m < n then m else n)
    rw [e]
    refine ⟨?_, fun y hy => ?_⟩
    · rcases List.mem_cons.mp h1 with h | h
      · rw [h]
        split
        · simp
        · simp
      · simp [h]
    · have h0 := h2 _ List.mem_cons_self
      rcases List.mem_cons.mp hy with e | hy
      · generalize W.minOf (if m < n then m else n) ns = z at h0
        split at h0 <;> omega
      rcases List.mem_cons.mp hy with e | hy
      · generalize W.minOf (if m < n then m else n) ns = z at h0
        split at h0 <;> omega
      · exact h2 y (List.mem_cons_of_mem _ hy)
theorem minDef_eq {ns : List Int} {d m : Int} (h : m ∈ ns) (hm : ∀ y ∈ ns, m ≤ y) : minDef ns d = m := by
  cases ns with
  | nil => simp at h
  | cons n ns =>
    obtain ⟨h1, h2⟩ := minOf_spec ns n
    show W.minOf n ns = m
    exact Int.le_antisymm (h2 m h) (hm _ h1)
def rMinDef (K : PySem.W.Frag) : List V → List V → Hp → VK → Prop := fun vs zs H Q => ∃ (a : Addr) (ns : List Int) (d : Int), vs = [.ref a] ∧ zs = [.int d] ∧ SqL K H a (ns.map V.int) ∧ Q (.int (minDef ns d)) H
theorem dp_ints {K : PySem.W.Frag} {H : Hp} : ∀ ns : List Int, DpAll K H (ns.map V.int) (ns.map PyData.int)
  | [] => .nil
  | n :: ns => .cons (.int _) (dp_ints ns)
theorem cr_minDef {X : Cx} (hc : X.calm = true) (hu : X.A.units + 66 < cLine) : CallRK X (.builtin "min") [Str.ofString "default"] (rMinDef X.K) := by
  intro pins s σ H xs zs us ws Q I r rz h
  obtain ⟨a, ns, d, rfl, rfl, ha, q⟩ := h
  obtain rfl := Vals.ref1 r
  obtain ⟨u, rfl, t, rfl⟩ := vals1 rz
  obtain ⟨its, rv, hl, hz⟩ := I.list ha
  obtain ⟨as, ra⟩ := Dp.readsAll I (ns.map PyData.int) _ its (dp_ints ns) rv
  show wpAny _ _ (call (.builtin "min") [.ref a] [(Str.ofString "default", .int d t)]) _ _ s
  refine W.min_list_datum_default (α := Int) (xs := ns) (I.ok.hd hc) hl.isList ⟨as, ra⟩ (by show X.A.units + 1 + 0 < cLine; omega) (fun e h' tk hk => ?_) fun y ys i v h' tk e hv hh hk => ?_
  · subst e
    exact ⟨.int d, H, I.kept (t' := tk) hk, ⟨t, rfl⟩, q⟩
  · subst e
    obtain ⟨bs, rb⟩ := hh
    have : ∃ t, v = Value.int (W.minOf y ys) t := by
      cases rb
      exact ⟨_, rfl⟩
    obtain ⟨t2, rfl⟩ := this
    exact ⟨.int _, H, I.kept (t' := tk) hk, ⟨t2, rfl⟩, q⟩
end R8
set_option linter.all false
namespace Q6
abbrev Ent := Int × Int
abbrev Lg := List Ent
def endN (c : Lg) (t : Int) : Nat → Int × Nat
  | 0 => (0, 0)
  | k + 1 => match c[k]? with
    | some e => if e.1 ≤ t then (e.1, k + 1) else endN c t k
    | none => endN c t k
def endOf (c : Lg) (t : Int) : Int × Nat := endN c t c.length
theorem endN_spec (c : Lg) (t : Int) : ∀ k, k ≤ c.length → (endN c t k = (0, 0) ∧ ∀ (i : Nat) (e : Ent), i < k → c[i]? = some e → t < e.1) ∨
    ∃ (i : Nat) (e : Ent), i < k ∧ c[i]? = some e ∧ e.1 ≤ t ∧ endN c t k = (e.1, i + 1) ∧ ∀ (j : Nat) (e' : Ent), i < j → j < k → c[j]? = some e' → t < e'.1
  | 0, _ => .inl ⟨rfl, fun i e h => absurd h (Nat.not_lt_zero _)⟩
  | k + 1, hk => by
    obtain ⟨e, he⟩ : ∃ e, c[k]? = some e := ⟨_, List.getElem?_eq_getElem (by omega)⟩
    by_cases h : e.1 ≤ t
    · right
      refine ⟨k, e, Nat.lt_succ_self k, he, h, ?_, fun j e' h1 h2 => by omega⟩
      unfold endN
      rw [he]
      show (if e.1 ≤ t then _ else _) = _
      rw [if_pos h]
    · have e1 : endN c t (k + 1) = endN c t k := by
        conv => lhs; unfold endN
        rw [he]
        show (if e.1 ≤ t then _ else _) = _
        rw [if_neg h]
      have last : ∀ e', c[k]? = some e' → t < e'.1 := fun e' h' => by
        rw [he] at h'
        cases h'
        omega
      rw [e1]
      rcases endN_spec c t k (by omega) with ⟨h1, h2⟩ | ⟨i, e2, h1, h2, h3, h4, h5⟩
      · refine .inl ⟨h1, fun i e' hi h' => ?_⟩
        by_cases z : i = k
        · subst z; exact last e' h'
        · exact h2 i e' (by omega) h'
      · refine .inr ⟨i, e2, by omega, h2, h3, h4, fun j e' hj hk' h' => ?_⟩
        by_cases z : j = k
        · subst z; exact last e' h'
        · exact h5 j e' hj (by omega) h'
theorem endOf_spec (c : Lg) (t : Int) : (endOf c t = (0, 0) ∧ ∀ (i : Nat) (e : Ent), c[i]? = some e → t < e.1) ∨
    ∃ (i : Nat) (e : Ent), c[i]? = some e ∧ e.1 ≤ t ∧ endOf c t = (e.1, i + 1) ∧ ∀ (j : Nat) (e' : Ent), i < j → c[j]? = some e' → t < e'.1 := by
  have lt : ∀ {i : Nat} {e : Ent}, c[i]? = some e → i < c.length := fun h => (List.getElem?_eq_some_iff.mp h).1
  rcases endN_spec c t c.length (Nat.le_refl _) with ⟨h1, h2⟩ | ⟨i, e, h1, h2, h3, h4, h5⟩
  · exact .inl ⟨h1, fun i e h => h2 i e (lt h) h⟩
  · exact .inr ⟨i, e, h2, h3, h4, fun j e' hj h => h5 j e' hj (lt h) h⟩
structure Tm (T : Int) (c : Lg) : Prop where
  lo : ∀ e ∈ c, 1 ≤ e.1
  hi : ∀ e ∈ c, e.1 ≤ T
  so : c.Pairwise fun a b => a.1 ≤ b.1
theorem Tm.pre {T : Int} {c d : Lg} (h : Tm T d) (p : c <+: d) : Tm T c :=
  ⟨fun e he => h.lo e (p.subset he), fun e he => h.hi e (p.subset he), h.so.sublist p.sublist⟩
theorem Tm.mono {T U : Int} {c : Lg} (h : Tm T c) (l : T ≤ U) : Tm U c := ⟨h.lo, fun e he => Int.le_trans (h.hi e he) l, h.so⟩
theorem Tm.le {T : Int} {c : Lg} (h : Tm T c) {i j : Nat} {a b : Ent} (hij : i ≤ j) (ha : c[i]? = some a) (hb : c[j]? = some b) : a.1 ≤ b.1 := by
  rcases Nat.lt_or_eq_of_le hij with l | rfl
  · obtain ⟨hi, e1⟩ := List.getElem?_eq_some_iff.mp ha
    obtain ⟨hj, e2⟩ := List.getElem?_eq_some_iff.mp hb
    have := List.pairwise_iff_getElem.mp h.so i j hi hj l
    rw [e1, e2] at this
    exact this
  · rw [ha] at hb
    cases hb
    exact Int.le_refl _
def Cons (G : Int → Lg) (c : Lg) : Prop := ∀ (i : Nat) (e : Ent), c[i]? = some e → c.take (i + 1) <+: G e.1
theorem Cons.pre {G : Int → Lg} {c d : Lg} (h : Cons G d) (p : c <+: d) : Cons G c := fun i e he => by
  obtain ⟨r, rfl⟩ := p
  have hi : i < c.length := (List.getElem?_eq_some_iff.mp he).1
  have := h i e (by rw [List.getElem?_append_left hi]; exact he)
  rw [List.take_append_of_le_length (by omega)] at this
  exact this
theorem pre_eq {a b d : Lg} (ha : a <+: d) (hb : b <+: d) (h : a.length ≤ b.length) : a <+: b := List.prefix_of_prefix_length_le ha hb h
def Found (f l : Lg) (tm : Int) (mine theirs : Nat) : Prop := (∃ s, endOf f s = (tm, mine)) ∧ endOf l tm = (tm, theirs)
theorem found_pre {G : Int → Lg} {f l : Lg} {T : Int} (cf : Cons G f) (cl : Cons G l) (tf : Tm T f) (tl : Tm T l) {tm : Int} {mine theirs : Nat} (h : Found f l tm mine theirs) : f.take (min mine theirs) <+: l ∧ min mine theirs ≤ f.length := by
  obtain ⟨⟨s, hs⟩, hl⟩ := h
  rcases endOf_spec f s with ⟨h1, _⟩ | ⟨i, e, h1, h2, h3, h4⟩
  · rw [h1] at hs
    cases hs
    simp
  · rw [h3] at hs
    injection hs with e1 e2
    subst e1 e2
    rcases endOf_spec l e.1 with ⟨k1, k2⟩ | ⟨j, e', k1, k2, k3, k4⟩
    · rw [k1] at hl
      injection hl with z1 z2
      have := tf.lo e (List.mem_of_getElem? h1)
      omega
    · rw [k3] at hl
      injection hl with z1 z2
      subst z2
      have hi : i < f.length := (List.getElem?_eq_some_iff.mp h1).1
      have hj : j < l.length := (List.getElem?_eq_some_iff.mp k1).1
      have p1 := cf i e h1
      have p2 := cl j e' k1
      rw [z1] at p2
      refine ⟨?_, by omega⟩
      by_cases c : i ≤ j
      · rw [Nat.min_eq_left (by omega)]
        exact (pre_eq p1 p2 (by rw [List.length_take, List.length_take]; omega)).trans (List.take_prefix _ _)
      · rw [Nat.min_eq_right (by omega)]
        have p3 : f.take (j + 1) <+: G e.1 := (List.take_prefix_take_left (by omega)).trans p1
        exact (pre_eq p3 p2 (by rw [List.length_take, List.length_take]; omega)).trans (List.take_prefix _ _)
theorem last_of {c : Lg} (h : c ≠ []) : ∃ e, c[c.length - 1]? = some e := ⟨_, List.getElem?_eq_getElem (by have := List.length_pos_iff.mpr h; omega)⟩
theorem endOf_all {c : Lg} {T t : Int} (tc : Tm T c) (h : c ≠ []) {e : Ent} (he : c[c.length - 1]? = some e) (ht : e.1 ≤ t) : endOf c t = (e.1, c.length) := by
  have hp := List.length_pos_iff.mpr h
  rcases endOf_spec c t with ⟨_, h2⟩ | ⟨i, e', h1, h2, h3, h4⟩
  · have := h2 _ _ he
    omega
  · have hi : i < c.length := (List.getElem?_eq_some_iff.mp h1).1
    by_cases z : i = c.length - 1
    · rw [z] at h1 h3
      rw [he] at h1
      cases h1
      rw [h3]
      congr 1
      omega
    · have := h4 _ _ (by omega) he
      omega
theorem endOf_nil (t : Int) : endOf [] t = (0, 0) := rfl
theorem endOf_le (c : Lg) {t : Int} (ht : 0 ≤ t) : (endOf c t).1 ≤ t := by
  rcases endOf_spec c t with ⟨h, _⟩ | ⟨i, e, _, h2, h3, _⟩
  · rw [h]; exact ht
  · rw [h3]; exact h2
theorem endOf_nn {c : Lg} {T t : Int} (tc : Tm T c) : 0 ≤ (endOf c t).1 := by
  rcases endOf_spec c t with ⟨h, _⟩ | ⟨i, e, h1, h2, h3, _⟩
  · rw [h]; exact Int.le_refl 0
  · rw [h3]
    have := tc.lo e (List.mem_of_getElem? h1)
    show 0 ≤ e.1
    omega
theorem endOf_ge {c : Lg} {T t : Int} (tc : Tm T c) {i : Nat} {e : Ent} (h : c[i]? = some e) (ht : e.1 ≤ t) : i + 1 ≤ (endOf c t).2 ∧ e.1 ≤ (endOf c t).1 := by
  rcases endOf_spec c t with ⟨_, h2⟩ | ⟨j, e', h1, h2, h3, h4⟩
  · have := h2 i e h
    omega
  · have hij : i ≤ j := by
      by_cases z : i ≤ j
      · exact z
      · have := h4 i e (by omega) h
        omega
    rw [h3]
    exact ⟨by show i + 1 ≤ j + 1; omega, tc.le hij h h1⟩
theorem endOf_len (c : Lg) (t : Int) : (endOf c t).2 ≤ c.length := by
  rcases endOf_spec c t with ⟨h, _⟩ | ⟨i, e, h1, h2, h3, _⟩
  · rw [h]; exact Nat.zero_le _
  · rw [h3]
    exact (List.getElem?_eq_some_iff.mp h1).1
def Past (f l : Lg) (m : Nat) (s : Int) : Prop := ∀ e, f[m - 1]? = some e → 0 < m → l[m - 1]? = some e ∧ e.1 ≤ s
theorem Past.step {f l : Lg} {T : Int} {m : Nat} {s : Int} (tf : Tm T f) (tl : Tm T l) (h : Past f l m s) : Past f l m (endOf l (endOf f s).1).1 := fun e he hm => by
  obtain ⟨h1, h2⟩ := h e he hm
  exact ⟨h1, (endOf_ge tl h1 (endOf_ge tf he h2).2).2⟩
theorem Past.keeps {f l : Lg} {T : Int} {m : Nat} {s : Int} (tf : Tm T f) (tl : Tm T l) (h : Past f l m s) (hm : m ≤ f.length) {tm : Int} {mine theirs : Nat} (h1 : endOf f s = (tm, mine)) (h2 : endOf l tm = (tm, theirs)) : m ≤ min mine theirs := by
  cases m with
  | zero => exact Nat.zero_le _
  | succ k =>
    obtain ⟨e, he⟩ : ∃ e, f[k]? = some e := ⟨_, List.getElem?_eq_getElem (by omega)⟩
    obtain ⟨h3, h4⟩ := h e (by simpa using he) (Nat.succ_pos _)
    have h3' : l[k]? = some e := by simpa using h3
    have a := endOf_ge tf he h4
    rw [h1] at a
    have b := endOf_ge tl h3' a.2
    rw [h2] at b
    have a1 : k + 1 ≤ mine := a.1
    have b1 : k + 1 ≤ theirs := b.1
    omega
theorem past_start {f l d : Lg} {T : Int} {m : Nat} (pf : f <+: d) (pl : l <+: d) (tf : Tm T f) (hf : m ≤ f.length) (hl : m ≤ l.length) {s : Int} (hs : T ≤ s) : Past f l m s := fun e he hm => by
  refine ⟨?_, Int.le_trans (tf.hi e (List.mem_of_getElem? he)) hs⟩
  obtain ⟨r, hr⟩ := pf
  obtain ⟨q, hq⟩ := pl
  have h1 : d[m - 1]? = some e := by rw [← hr, List.getElem?_append_left (by omega)]; exact he
  rw [← hq, List.getElem?_append_left (by omega)] at h1
  exact h1
structure Rp (α : Type) where
  lg : α → Lg
  firm : α → Nat
  up : α → Bool
  leader : Option α
  time : Int
  keep : List α
def set {α β : Type} [DecidableEq α] (f : α → β) (a : α) (b : β) : α → β := fun x => if x = a then b else f x
theorem set_same {α β : Type} [DecidableEq α] {f : α → β} {a : α} {b : β} : set f a b a = b := if_pos rfl
theorem set_ne {α β : Type} [DecidableEq α] {f : α → β} {a x : α} {b : β} (h : x ≠ a) : set f a b x = f x := if_neg h
def rows (c : Lg) : List Int := c.map (·.2)
section
variable {α : Type} [DecidableEq α]
structure Ok (names : List α) (s : Rp α) (G : Int → Lg) (kept : List Int) (count : Nat) : Prop where
  c : ∀ n ∈ names, Cons G (s.lg n)
  cg : Cons G (G s.time)
  tm : ∀ n ∈ names, Tm s.time (s.lg n)
  tg : Tm s.time (G s.time)
  t1 : 1 ≤ s.time
  kn : ∀ n ∈ s.keep, n ∈ names
  kd : s.keep.Nodup
  k0 : s.keep ≠ []
  kp : ∀ n ∈ s.keep, s.lg n <+: G s.time
  ld : ∀ l, s.leader = some l → l ∈ s.keep ∧ s.up l = true ∧ s.lg l = G s.time ∧ s.firm l = kept.length
  kk : ∀ n ∈ s.keep, kept.length ≤ (s.lg n).length
  kv : kept = rows ((G s.time).take kept.length)
  fm : ∀ n ∈ names, s.firm n ≤ kept.length ∧ s.firm n ≤ (s.lg n).length ∧ rows ((s.lg n).take (s.firm n)) = kept.take (s.firm n)
  ct : (G s.time).length ≤ count
variable {names : List α} {s : Rp α} {G : Int → Lg} {kept : List Int} {count : Nat}
theorem rows_take (c : Lg) (k : Nat) : rows (c.take k) = (rows c).take k := List.map_take
theorem pre_take {c d : Lg} (p : c <+: d) {k : Nat} (h : k ≤ c.length) : c.take k = d.take k := by
  obtain ⟨r, rfl⟩ := p
  rw [List.take_append_of_le_length h]
theorem Ok.klen (o : Ok names s G kept count) : kept.length ≤ (G s.time).length := by
  obtain ⟨n, hn⟩ := List.exists_mem_of_ne_nil _ o.k0
  exact Nat.le_trans (o.kk n hn) (o.kp n hn).length_le
theorem Ok.refirm (o : Ok names s G kept count) {l : α} (hl : s.leader = some l) {mn : Nat} (hm : ∀ n ∈ s.keep, mn ≤ (s.lg n).length) :
    Ok names { s with firm := set s.firm l (max kept.length mn) } G (rows ((G s.time).take (max kept.length mn))) count ∧ kept <+: rows ((G s.time).take (max kept.length mn)) ∧ (rows ((G s.time).take (max kept.length mn))).length = max kept.length mn := by
  obtain ⟨l1, l2, l3, l4⟩ := o.ld l hl
  have hlen : max kept.length mn ≤ (G s.time).length := by
    have a := o.klen
    have b := hm l l1
    rw [l3] at b
    omega
  have hl2 : (rows ((G s.time).take (max kept.length mn))).length = max kept.length mn := by
    unfold rows
    rw [List.length_map, List.length_take]
    omega
  have pre : kept <+: rows ((G s.time).take (max kept.length mn)) := by
    have := o.kv
    rw [this, rows_take, rows_take]
    exact List.take_prefix_take_left (by rw [← rows_take, ← this]; exact Nat.le_max_left _ _)
  refine ⟨⟨o.c, o.cg, o.tm, o.tg, o.t1, o.kn, o.kd, o.k0, o.kp, fun m hm' => ?_, fun n hn => ?_, ?_, fun n hn => ?_, o.ct⟩, pre, hl2⟩
  · have : m = l := by
      have h : s.leader = some m := hm'
      rw [hl] at h
      exact (Option.some.inj h).symm
    subst this
    refine ⟨l1, l2, l3, ?_⟩
    show set s.firm m _ m = _
    rw [set_same, hl2]
  · rw [hl2]
    have a := o.kk n hn
    have b := hm n hn
    show max kept.length mn ≤ (s.lg n).length
    omega
  · rw [hl2]
  · show set s.firm l (max kept.length mn) n ≤ _ ∧ set s.firm l (max kept.length mn) n ≤ (s.lg n).length ∧ rows ((s.lg n).take (set s.firm l (max kept.length mn) n)) = (rows ((G s.time).take (max kept.length mn))).take (set s.firm l (max kept.length mn) n)
    by_cases e : n = l
    · subst e
      rw [set_same, hl2, l3]
      refine ⟨Nat.le_refl _, hlen, ?_⟩
      rw [rows_take, List.take_take, Nat.min_self]
    · rw [set_ne e]
      obtain ⟨f1, f2, f3⟩ := o.fm n hn
      refine ⟨by rw [hl2]; omega, f2, ?_⟩
      rw [f3]
      obtain ⟨r, hr⟩ := pre
      rw [← hr, List.take_append_of_le_length f1]
theorem Ok.setFirm (o : Ok names s G kept count) {n : α} {x : Nat} (hn : s.leader ≠ some n) (h1 : x ≤ kept.length) (h2 : x ≤ (s.lg n).length) (h3 : s.lg n <+: G s.time) : Ok names { s with firm := set s.firm n x } G kept count := by
  refine ⟨o.c, o.cg, o.tm, o.tg, o.t1, o.kn, o.kd, o.k0, o.kp, fun m hm => ?_, o.kk, o.kv, fun m hm => ?_, o.ct⟩
  · have e : m ≠ n := fun z => hn (z ▸ hm)
    obtain ⟨l1, l2, l3, l4⟩ := o.ld m hm
    refine ⟨l1, l2, l3, ?_⟩
    show set s.firm n x m = _
    rw [set_ne e, l4]
  · show set s.firm n x m ≤ _ ∧ set s.firm n x m ≤ (s.lg m).length ∧ rows ((s.lg m).take (set s.firm n x m)) = kept.take (set s.firm n x m)
    by_cases e : m = n
    · subst e
      rw [set_same]
      refine ⟨h1, h2, ?_⟩
      rw [pre_take h3 h2]
      conv => rhs; rw [o.kv]
      rw [rows_take, rows_take, List.take_take, Nat.min_eq_left h1]
    · rw [set_ne e]
      exact o.fm m hm
theorem Cons.setG {G : Int → Lg} {c : Lg} {t : Int} {d : Lg} (h : Cons G c) (p : G t <+: d) : Cons (set G t d) c := fun i e he => by
  have := h i e he
  by_cases z : e.1 = t
  · rw [z, set_same]
    rw [z] at this
    exact this.trans p
  · rw [set_ne z]
    exact this
theorem cons_snoc {G : Int → Lg} {c : Lg} {t x : Int} (h : Cons (set G t (c ++ [(t, x)])) c) : Cons (set G t (c ++ [(t, x)])) (c ++ [(t, x)]) := fun i e he => by
  by_cases hi : i < c.length
  · rw [List.getElem?_append_left hi] at he
    have := h i e he
    rw [List.take_append_of_le_length (by omega)]
    exact this
  · have hi2 : i = c.length := by
      have := (List.getElem?_eq_some_iff.mp he).1
      rw [List.length_append] at this
      simp at this
      omega
    subst hi2
    rw [List.getElem?_append_right (Nat.le_refl _), Nat.sub_self] at he
    cases he
    rw [set_same]
    exact List.take_prefix _ _
theorem Tm.snoc {t x : Int} {c : Lg} (h : Tm t c) (ht : 1 ≤ t) : Tm t (c ++ [(t, x)]) := by
  refine ⟨fun e he => ?_, fun e he => ?_, List.pairwise_append.mpr ⟨h.so, by simp, fun a ha b hb => ?_⟩⟩
  · rcases List.mem_append.mp he with z | z
    · exact h.lo e z
    · rw [List.mem_singleton.mp z]; exact ht
  · rcases List.mem_append.mp he with z | z
    · exact h.hi e z
    · rw [List.mem_singleton.mp z]; exact Int.le_refl _
  · rw [List.mem_singleton.mp hb]; exact h.hi a ha
theorem Ok.append (o : Ok names s G kept count) {l : α} (hl : s.leader = some l) (x : Int) :
    Ok names { s with lg := set s.lg l (s.lg l ++ [(s.time, x)]) } (set G s.time (s.lg l ++ [(s.time, x)])) kept (count + 1) := by
  obtain ⟨l1, l2, l3, l4⟩ := o.ld l hl
  have lp : G s.time <+: s.lg l ++ [(s.time, x)] := by rw [l3]; exact List.prefix_append _ _
  have gs : set G s.time (s.lg l ++ [(s.time, x)]) s.time = s.lg l ++ [(s.time, x)] := set_same
  have kl := o.klen
  refine ⟨fun n hn => ?_, ?_, fun n hn => ?_, ?_, o.t1, o.kn, o.kd, o.k0, fun n hn => ?_, fun m hm => ?_, fun n hn => ?_, ?_, fun n hn => ?_, ?_⟩
  · show Cons _ (set s.lg l _ n)
    by_cases e : n = l
    · subst e
      rw [set_same]
      exact cons_snoc ((o.c n hn).setG lp)
    · rw [set_ne e]
      exact (o.c n hn).setG lp
  · show Cons _ (set G s.time _ s.time)
    rw [set_same]
    exact cons_snoc ((o.c l (o.kn l l1)).setG lp)
  · show Tm s.time (set s.lg l _ n)
    by_cases e : n = l
    · subst e
      rw [set_same]
      exact (o.tm n hn).snoc o.t1
    · rw [set_ne e]
      exact o.tm n hn
  · show Tm s.time (set G s.time _ s.time)
    rw [set_same]
    exact (o.tm l (o.kn l l1)).snoc o.t1
  · show set s.lg l _ n <+: set G s.time _ s.time
    rw [gs]
    by_cases e : n = l
    · subst e
      rw [set_same]
      exact List.prefix_refl _
    · rw [set_ne e]
      exact (o.kp n hn).trans lp
  · have : m = l := by
      have h : s.leader = some m := hm
      rw [hl] at h
      exact (Option.some.inj h).symm
    subst this
    refine ⟨l1, l2, ?_, l4⟩
    show set s.lg m _ m = set G s.time _ s.time
    rw [set_same, gs]
  · show kept.length ≤ (set s.lg l _ n).length
    have := o.kk n hn
    by_cases e : n = l
    · subst e
      rw [set_same, List.length_append]
      omega
    · rw [set_ne e]
      exact this
  · show kept = rows ((set G s.time _ s.time).take kept.length)
    rw [gs, List.take_append_of_le_length (by rw [l3]; exact kl), l3]
    exact o.kv
  · obtain ⟨f1, f2, f3⟩ := o.fm n hn
    show s.firm n ≤ kept.length ∧ s.firm n ≤ (set s.lg l _ n).length ∧ rows ((set s.lg l _ n).take (s.firm n)) = kept.take (s.firm n)
    by_cases e : n = l
    · subst e
      rw [set_same, List.length_append, List.take_append_of_le_length f2]
      exact ⟨f1, by omega, f3⟩
    · rw [set_ne e]
      exact ⟨f1, f2, f3⟩
  · show (set G s.time _ s.time).length ≤ count + 1
    rw [gs, List.length_append]
    have := o.ct
    rw [← l3] at this
    simp
    exact this
theorem Ok.pull (o : Ok names s G kept count) {l n : α} (hl : s.leader = some l) (hn : n ∈ names) (hnl : n ≠ l) {c : Lg} (hc : c <+: s.lg l) (hk : n ∈ s.keep → kept.length ≤ c.length) {x : Nat} (hx1 : x ≤ kept.length) (hx2 : x ≤ c.length)
    {keep : List α} (h1 : ∀ m ∈ keep, m ∈ s.keep ∨ (m = n ∧ c = s.lg l)) (h2 : keep.Nodup) (h3 : ∀ m ∈ s.keep, m ∈ keep) : Ok names { s with lg := set s.lg n c, keep := keep, firm := set s.firm n x } G kept count := by
  obtain ⟨l1, l2, l3, l4⟩ := o.ld l hl
  have cp : c <+: G s.time := by rw [← l3]; exact hc
  have kl := o.klen
  have kc : ∀ m ∈ keep, kept.length ≤ (set s.lg n c m).length := fun m hm => by
    rcases h1 m hm with h | ⟨rfl, e⟩
    · by_cases e : m = n
      · subst e
        rw [set_same]
        exact hk h
      · rw [set_ne e]
        exact o.kk m h
    · rw [set_same, e, l3]
      exact kl
  refine ⟨fun m hm => ?_, o.cg, fun m hm => ?_, o.tg, o.t1, fun m hm => ?_, h2, fun z => ?_, fun m hm => ?_, fun m hm => ?_, kc, o.kv, fun m hm => ?_, o.ct⟩
  · show Cons G (set s.lg n c m)
    by_cases e : m = n
    · rw [e, set_same]
      exact o.cg.pre cp
    · rw [set_ne e]
      exact o.c m hm
  · show Tm s.time (set s.lg n c m)
    by_cases e : m = n
    · rw [e, set_same]
      exact o.tg.pre cp
    · rw [set_ne e]
      exact o.tm m hm
  · rcases h1 m hm with h | ⟨rfl, _⟩
    · exact o.kn m h
    · exact hn
  · have := h3 l l1
    rw [show keep = [] from z] at this
    cases this
  · show set s.lg n c m <+: G s.time
    by_cases e : m = n
    · rw [e, set_same]
      exact cp
    · rw [set_ne e]
      rcases h1 m hm with h | ⟨h, _⟩
      · exact o.kp m h
      · exact absurd h e
  · have : m = l := by
      have h : s.leader = some m := hm
      rw [hl] at h
      exact (Option.some.inj h).symm
    subst this
    refine ⟨h3 m l1, l2, ?_, ?_⟩
    · show set s.lg n c m = _
      rw [set_ne hnl.symm]
      exact l3
    · show set s.firm n x m = _
      rw [set_ne hnl.symm]
      exact l4
  · show set s.firm n x m ≤ _ ∧ set s.firm n x m ≤ (set s.lg n c m).length ∧ rows ((set s.lg n c m).take (set s.firm n x m)) = kept.take (set s.firm n x m)
    by_cases e : m = n
    · subst e
      rw [set_same, set_same]
      refine ⟨hx1, hx2, ?_⟩
      rw [pre_take cp hx2]
      conv => rhs; rw [o.kv]
      rw [rows_take, rows_take, List.take_take, Nat.min_eq_left hx1]
    · rw [set_ne e, set_ne e]
      exact o.fm m hm
theorem Ok.fewer (o : Ok names s G kept count) {keep : List α} {up : α → Bool} {ld : Option α} (h1 : ∀ m ∈ keep, m ∈ s.keep) (h2 : keep.Nodup) (h3 : keep ≠ []) (h4 : ∀ l, ld = some l → s.leader = some l ∧ l ∈ keep ∧ up l = true) :
    Ok names { s with keep := keep, up := up, leader := ld } G kept count :=
  ⟨o.c, o.cg, o.tm, o.tg, o.t1, fun m hm => o.kn m (h1 m hm), h2, h3, fun m hm => o.kp m (h1 m hm), fun m hm => by
    obtain ⟨a, b, c⟩ := h4 m hm
    obtain ⟨l1, l2, l3, l4⟩ := o.ld m a
    exact ⟨b, c, l3, l4⟩, fun m hm => o.kk m (h1 m hm), o.kv, o.fm, o.ct⟩
theorem Ok.elect (o : Ok names s G kept count) {l : α} {able : List α} (hl : l ∈ able) (ha : ∀ m ∈ able, m ∈ s.keep) (hn : able.Nodup) (hu : s.up l = true) {cutL : α → Lg}
    (hc : ∀ m ∈ able, cutL m <+: s.lg l ∧ kept.length ≤ (cutL m).length ∧ cutL m <+: s.lg m) (hcl : cutL l = s.lg l) :
    Ok names { s with lg := fun m => if m ∈ able then cutL m else s.lg m, keep := able, leader := some l, time := s.time + 1, firm := set s.firm l kept.length } (set G (s.time + 1) (s.lg l)) kept count := by
  have lk := ha l hl
  have lp := o.kp l lk
  have tl := o.tm l (o.kn l lk)
  have gs : set G (s.time + 1) (s.lg l) (s.time + 1) = s.lg l := set_same
  have old : ∀ {c : Lg}, Tm s.time c → Cons G c → Cons (set G (s.time + 1) (s.lg l)) c := fun {c} t h i e he => by
    have h1 := t.hi e (List.mem_of_getElem? he)
    rw [set_ne (by omega)]
    exact h i e he
  have lgm : ∀ m, (if m ∈ able then cutL m else s.lg m) <+: s.lg m := fun m => by
    by_cases z : m ∈ able
    · rw [if_pos z]; exact (hc m z).2.2
    · rw [if_neg z]; exact List.prefix_refl _
  have kvl : kept = rows ((s.lg l).take kept.length) := by
    rw [pre_take lp (o.kk l lk)]
    exact o.kv
  refine ⟨fun m hm => ?_, ?_, fun m hm => ?_, ?_, by show 1 ≤ s.time + 1; have := o.t1; omega, fun m hm => o.kn m (ha m hm), hn, fun z => ?_, fun m hm => ?_, fun m hm => ?_, fun m hm => ?_, ?_, fun m hm => ?_, ?_⟩
  · exact old ((o.tm m hm).pre (lgm m)) ((o.c m hm).pre (lgm m))
  · show Cons _ (set G (s.time + 1) (s.lg l) (s.time + 1))
    rw [gs]
    exact old tl (o.c l (o.kn l lk))
  · exact ((o.tm m hm).pre (lgm m)).mono (by show s.time ≤ s.time + 1; omega)
  · show Tm (s.time + 1) (set G (s.time + 1) (s.lg l) (s.time + 1))
    rw [gs]
    exact tl.mono (by omega)
  · rw [show able = [] from z] at hl
    cases hl
  · show (if m ∈ able then cutL m else s.lg m) <+: set G (s.time + 1) (s.lg l) (s.time + 1)
    rw [gs, if_pos (show m ∈ able from hm)]
    exact (hc m hm).1
  · have : l = m := Option.some.inj (show some l = some m from hm)
    subst this
    refine ⟨hl, hu, ?_, ?_⟩
    · show (if l ∈ able then cutL l else s.lg l) = set G (s.time + 1) (s.lg l) (s.time + 1)
      rw [gs, if_pos hl, hcl]
    · show set s.firm l _ l = _
      rw [set_same]
  · show kept.length ≤ (if m ∈ able then cutL m else s.lg m).length
    rw [if_pos (show m ∈ able from hm)]
    exact (hc m hm).2.1
  · show kept = rows ((set G (s.time + 1) (s.lg l) (s.time + 1)).take kept.length)
    rw [gs]
    exact kvl
  · show set s.firm l kept.length m ≤ _ ∧ set s.firm l kept.length m ≤ (if m ∈ able then cutL m else s.lg m).length ∧ rows ((if m ∈ able then cutL m else s.lg m).take (set s.firm l kept.length m)) = kept.take (set s.firm l kept.length m)
    by_cases e : m = l
    · subst e
      rw [set_same, if_pos hl, hcl]
      refine ⟨Nat.le_refl _, o.kk m lk, ?_⟩
      rw [← kvl, List.take_length]
    · rw [set_ne e]
      obtain ⟨f1, f2, f3⟩ := o.fm m hm
      by_cases z : m ∈ able
      · rw [if_pos z]
        have h5 := (hc m z).2.1
        refine ⟨f1, by omega, ?_⟩
        rw [pre_take (hc m z).2.2 (by omega)]
        exact f3
      · rw [if_neg z]
        exact ⟨f1, f2, f3⟩
  · show (set G (s.time + 1) (s.lg l) (s.time + 1)).length ≤ count
    rw [gs]
    exact Nat.le_trans lp.length_le o.ct
end
end Q6
set_option Elab.async false
set_option linter.all false
set_option maxRecDepth 100000
set_option maxHeartbeats 4000000
namespace K6
open PySem PySem.Spec PyProof.Rows L2 KB KC
def top (i : Nat) : Stmt := PySem.Challenge.pw_streamstack_k16_copies_that_lose_nothing.main.body.getD i (.Pass ⟨0, 0, 0, 0⟩)
abbrev sCopy : Stmt := top 5
abbrev sRep : Stmt := top 6
abbrev sDice : Stmt := top 8
abbrev sRoll : Stmt := top 9
abbrev sRounds : Stmt := top 10
abbrev sTold : Stmt := top 11
abbrev sFirm : Stmt := top 12
abbrev sStates : Stmt := top 13
abbrev sDeed : Stmt := top 14
abbrev sLaw : Stmt := top 15
abbrev sCM (j : Nat) : Stmt := inClass sCopy j
abbrev sRM (j : Nat) : Stmt := inClass sRep j
abbrev FnP (K : PySem.W.Frag) (x q : Str) (st : Stmt) (dvs : List V) (f : Addr) (fd : FuncData) : Prop := FunD K x q (defArgs st) (defBody st) (defScope st) dvs [] f fd
def rIxD : R2 := fun x y H Q => ∃ p xs i v, x = .ref p ∧ y = .int i ∧ H p = some (.lst xs) ∧ atI xs i = some v ∧ Q v H
theorem ix_listD {X : Cx} : IxR X rIxD := by
  intro value slice pins s σ H x y v u Q I rx ry h hs
  obtain ⟨p, xs, i, z, e1, e2, hq, he, q⟩ := h
  exact ix_list value slice pins s σ H x y v u Q I rx ry ⟨p, xs, i, z, e1, e2, SqL.of hq, he, q⟩ hs
theorem sc_int {a b : Int} : scal (.int a) (.int b) = true := rfl
theorem at3_0 {a b c : V} : atI [a, b, c] 0 = some a := rfl
theorem at3_1 {a b c : V} : atI [a, b, c] 1 = some b := rfl
theorem at3_2 {a b c : V} : atI [a, b, c] 2 = some c := rfl
theorem at2_0 {a b : V} : atI [a, b] 0 = some a := rfl
theorem at2_1 {a b : V} : atI [a, b] 1 = some b := rfl
theorem ix3_0 : ixN (0 + 1 + 1 + 1) 0 = some 0 := rfl
theorem ix3_1 : ixN (0 + 1 + 1 + 1) 1 = some 1 := rfl
theorem ix3_2 : ixN (0 + 1 + 1 + 1) 2 = some 2 := rfl
theorem upd2 {H : Hp} {a : Addr} {o o' : HO} : upd (upd H a o) a o' = upd H a o' := by
  funext b
  by_cases e : b = a
  · subst e; rw [upd_same, upd_same]
  · rw [upd_ne e, upd_ne e, upd_ne e]
structure TxtL (mg : Str → Option Value) : Prop where
  abs : mg "abs" = none
  int : mg "int" = none
  range : mg "range" = none
  dict : mg "dict" = none
  list : mg "list" = none
  tuple : mg "tuple" = none
  len : mg "len" = none
  sorted : mg "sorted" = none
  max : mg "max" = none
  min : mg "min" = none
  rev : mg "reversed" = none
def IsDice (H : Hp) (d : Addr) : Prop := ∃ a b k : Int, H d = some (.lst [.int a, .int b, .int k])
def ExD (d : Addr) (H H' : Hp) : Prop := ∀ b o, b ≠ d → H b = some o → H' b = some o
def spDice : Sp := fun vs H Q _ => ∃ c : Int, vs = [.int c] ∧ ∀ p a b k, H p = none → Q (.ref p) (upd H p (.lst [.int a, .int b, .int k]))
@[irreducible] def spRoll : Sp := fun vs H Q _ => ∃ (d : Addr) (m : Int), vs = [.ref d, .int m] ∧ IsDice H d ∧ 0 < m ∧ m ≤ 100000000 ∧
  ∀ (r : Int) a b k, 0 ≤ r → r < m → Q (.int r) (upd H d (.lst [.int a, .int b, .int k]))
section
variable {P : Program} {w : World} {K : PySem.W.Frag} {mg : Str → Option Value} {base : Heap} {f : Addr} {fd : FuncData}
theorem scDice : FnScope ["cell"] ["cell"] (defScope sDice) := ⟨rfl, rfl, rfl, by decide +kernel, rfl, by decide +kernel, by decide +kernel⟩
theorem ok_dice (F : FnP K "_law_dice" "_law_dice" sDice [] f fd) (T : TxtL mg) : FnOk P w K mg base CX0 1 f fd ["cell"] spDice := by
  refine F.ok scDice (fun vs H Q E h => ?_) (fun cdv A outer s H vs Q E hr h => ?_)
  · obtain ⟨c, rfl, _⟩ := h; rfl
  · obtain ⟨c, rfl, k⟩ := h
    refine ⟨_, PSs.nox <| pss_cons (ps_if (pt_chain op_lt op_lt (pe_op op_sub pe_int pe_int) (pv 0) pe_int)
        (pss_one (ps_ret (pe_lst (pa_cons (pe_callB call_abs (by rfl) T.abs (by decide +kernel) (pa_cons (pv 0) pa_nil)) (pa_cons pe_int (pa_cons pe_int pa_nil)))))) pss_nil)
      (pss_one (ps_ret (pe_lst (pa_cons (pv 0) (pa_cons (pe_op op_add pe_int (pe_op op_mod (pe_callTy call_int1 (by rfl) T.int (by decide +kernel) (pa_cons (pv 0) pa_nil)) pe_int))
        (pa_cons (pe_callTy call_int1 (by rfl) T.int (by decide +kernel) (pa_cons (pe_cmpR op_ge (pv 0) (pe_op op_pow pe_int pe_int) (nomark _)) pa_nil)) pa_nil)))))), ?_⟩
    simp only [tSeq, tIfS, tIf, tTest, tChain, tOp, tC, tVar, tRet, tLst, tTup, tCons, tCB, tNil, tAsg, gName, tCall, tDrop, tOr, tAnd, tNot, gSub, rI0, rI, tNext, L2.start, List.set_cons_zero, List.set_cons_succ, List.map, List.replicate, List.length, List.append_nil, List.getElem?_cons_zero, List.getElem?_cons_succ, List.cons_append, List.nil_append, Option.some.injEq, exists_eq_left', exists_eq_left, exists_and_left, V.int.injEq, V.ref.injEq, List.cons.injEq, and_true, true_and, V.bl.injEq, reduceCtorEq, false_and, and_false, exists_false, or_false, false_or, HO.lst.injEq]
    have hs : 0 + 1 + 1 + 1 ≤ sizeLine := by decide
    have hp : CPow 10 18 := by unfold CPow; decide
    have h9 : (0 : Int) < 1009 := by decide
    split
    · split
      · exact ⟨hs, fun p e => k p _ _ _ e⟩
      · exact ⟨h9, hp, hs, fun p e => k p _ _ _ e⟩
    · rw [if_neg (fun z => z)]
      exact ⟨h9, hp, hs, fun p e => k p _ _ _ e⟩
theorem scRoll : FnScope ["dice", "many", "found"] ["dice", "many"] (defScope sRoll) := ⟨rfl, rfl, rfl, by decide +kernel, rfl, by decide +kernel, by decide +kernel⟩
theorem ok_roll (F : FnP K "_law_roll" "_law_roll" sRoll [] f fd) (T : TxtL mg) : FnOk P w K mg base CX0 1 f fd ["dice", "many"] spRoll := by
  refine F.ok scRoll (fun vs H Q E h => ?_) (fun cdv A outer s H vs Q E hr h => ?_)
  · unfold spRoll at h
    obtain ⟨d, m, rfl, _⟩ := h; rfl
  · unfold spRoll at h
    obtain ⟨d, m, rfl, ⟨a, b, k, hd⟩, h0, h1, q⟩ := h
    refine ⟨_, PSs.nox <| pss_cons (ps_if (PW.pt (pw_or (pt_cmpR op_eq (pe_ix ix_listD (pv 0) pe_int (fun _ _ => rfl)) pe_int (nomark _)) (pw_or1 (PW.pt (pw_and (pt_cmpR op_eq (pe_ix ix_listD (pv 0) pe_int (fun _ _ => rfl)) pe_int (nomark _)) (pw_and1 (pt_cmpR op_gt (pe_ix ix_listD (pv 0) pe_int (fun _ _ => rfl)) pe_int (nomark _))))))))
        (pss_cons (ps_set (i := 2) scRoll.nd rfl (Or.inl rfl) (pe_op op_mod (pe_callTy call_int1 (by rfl) T.int (by decide +kernel) (pa_cons (pe_ix ix_listD (pv 0) pe_int (fun _ _ => rfl)) pa_nil)) (pv 1)))
          (pss_cons (ps_asg (pe_op op_fdiv (pe_ix ix_listD (pv 0) pe_int (fun _ _ => rfl)) (pv 1)) (pg_sub (pv 0) pe_int set_list)) (pss_one (ps_ret (pv 2))))) pss_nil)
      (pss_cons (ps_asg pe_int (pg_sub (pv 0) pe_int set_list))
      (pss_cons (ps_if (pt_cmpR op_gt (pv 1) pe_int (nomark _)) pss_never pss_nil)
      (pss_cons (ps_asg (pe_op op_mod (pe_callTy call_int1 (by rfl) T.int (by decide +kernel) (pa_cons (pe_op op_add (pe_op op_add (pe_op op_mul (pe_ix ix_listD (pv 0) pe_int (fun _ _ => rfl)) pe_int) (pe_op op_mul (pe_ix ix_listD (pv 0) pe_int (fun _ _ => rfl)) pe_int)) pe_int) pa_nil)) pe_int) (pg_sub (pv 0) pe_int set_list))
      (pss_cons (ps_asg (pe_op op_add (pe_ix ix_listD (pv 0) pe_int (fun _ _ => rfl)) pe_int) (pg_sub (pv 0) pe_int set_list))
      (pss_one (ps_ret (pe_op op_mod (pe_callTy call_int1 (by rfl) T.int (by decide +kernel) (pa_cons (pe_op op_fdiv (pe_ix ix_listD (pv 0) pe_int (fun _ _ => rfl)) pe_int) pa_nil)) (pv 1)))))))), ?_⟩
    have hm : decide ((100000000 : Int) < m) = false := decide_eq_false (by omega)
    simp only [tSeq, tIfS, tIf, tTest, tChain, tOp, tC, tVar, tRet, tLst, tTup, tCons, tCB, tNil, tAsg, gName, tCall, tDrop, tOr, tAnd, tNot, gSub, rI0, rI, tNext, L2.start, List.set_cons_zero, List.set_cons_succ, List.map, List.replicate, List.length, List.append_nil, List.getElem?_cons_zero, List.getElem?_cons_succ, List.cons_append, List.nil_append, Option.some.injEq, exists_eq_left', exists_eq_left, exists_and_left, V.int.injEq, V.ref.injEq, List.cons.injEq, and_true, true_and, V.bl.injEq, reduceCtorEq, false_and, and_false, exists_false, or_false, false_or, HO.lst.injEq, rIxD, rSetL, rEq, sc_int, hd, upd_same, upd2, at3_0, at3_1, at3_2, ix3_0, ix3_1, ix3_2, hm, if_true, if_false, Bool.false_eq_true]
    have g0 : (0 : Int) < 2147483647 := by decide
    have gm : ∀ x : Int, CMul x 48271 := fun x => .inr ⟨by decide, by decide⟩
    have gn : ∀ x : Int, CMul x 69621 := fun x => .inr ⟨by decide, by decide⟩
    have gd : ∀ x : Int, CDiv x 7 := fun x => ⟨by decide, by decide⟩
    have gq : ∀ x : Int, CDiv x m := fun x => ⟨h0, by omega⟩
    have lo : ∀ x : Int, 0 ≤ x % m := fun x => Int.emod_nonneg _ (by omega)
    have hi : ∀ x : Int, x % m < m := fun x => Int.emod_lt_of_pos _ h0
    split
    · exact ⟨h0, gq _, q _ _ _ _ (lo _) (hi _)⟩
    · split
      · split
        · exact ⟨h0, gq _, q _ _ _ _ (lo _) (hi _)⟩
        · exact ⟨gm _, gn _, g0, gd _, h0, q _ _ _ _ (lo _) (hi _)⟩
      · exact ⟨gm _, gn _, g0, gd _, h0, q _ _ _ _ (lo _) (hi _)⟩
end
end K6
set_option Elab.async false
set_option linter.all false
set_option maxRecDepth 100000
set_option maxHeartbeats 4000000
namespace K6
open PySem PySem.Spec PyProof.Rows L2 KB KC KS
@[irreducible] def spRounds (K : PySem.W.Frag) : Sp := fun vs H Q _ => ∃ (s : Addr) (ns : List Int), vs = [.ref s, .int 1] ∧ SqL K H s (ns.map V.int) ∧ ∀ H' p d, Ex H H' → H' p = some (.lst [.ref d]) → IsDice H' d → Q (.ref p) H'
theorem IsDice.upd_ne {H : Hp} {d a : Addr} {o : HO} (h : IsDice H d) (n : H a = none) : IsDice (upd H a o) d := by
  obtain ⟨x, y, z, e⟩ := h
  exact ⟨x, y, z, by rw [L2.upd_ne (ne_of_none e n)]; exact e⟩
theorem Ex.on {H H1 : Hp} {a : Addr} {o : HO} (e : Ex H H1) (n : H a = none) : Ex H (upd H1 a o) := fun b u h => by rw [L2.upd_ne (ne_of_none h n)]; exact e b u h
section
variable {P : Program} {w : World} {K : PySem.W.Frag} {mg : Str → Option Value} {base : Heap} {f fD : Addr} {fd fdD : FuncData}
theorem scRounds : FnScope ["script", "most", "cells", "cell"] ["script", "most"] (defScope sRounds) := ⟨rfl, rfl, rfl, by decide +kernel, rfl, by decide +kernel, by decide +kernel⟩
theorem ok_rounds (F : FnP K "_law_rounds" "_law_rounds" sRounds [] f fd) (T : TxtL mg) (FD : FnP K "_law_dice" "_law_dice" sDice [] fD fdD) (gD : mg "_law_dice" = some (.ref fD)) :
    FnOk P w K mg base CX0 2 f fd ["script", "most"] (spRounds K) := by
  have GD : FnOk P w K mg base CX0 1 fD fdD ["cell"] spDice := ok_dice FD T
  have bD : Binds K fdD ["cell"] [] := FD.bindsN fun _ _ _ _ _ _ us hl => match us, hl with | [_], _ => rfl
  refine F.ok scRounds (fun vs H Q E h => ?_) (fun cdv A outer s H vs Q E hr h => ?_)
  · unfold spRounds at h
    obtain ⟨c, d, rfl, _⟩ := h; rfl
  · unfold spRounds at h
    obtain ⟨a, ns, rfl, hS, q⟩ := h
    refine ⟨_, PSs.nox <| pss_cons (ps_set (i := 2) scRounds.nd rfl (Or.inl rfl) (pe_slice sl_list (pv 0) po_none (po_some (pv 1))))
      (pss_cons (ps_if (pt_cmpR (op_eqD hr.units) (pv 2) (pe_lst pa_nil) (nomark _)) (pss_one (ps_set (i := 2) scRounds.nd rfl (Or.inl rfl) (pe_lst (pa_cons pe_int pa_nil)))) pss_nil)
      (pss_one (ps_ret (pe_lc (own := [("cell", 3)]) (g := gName 3) (tt := tYes) rfl scRounds.nd (pi_list (pv 2)) (blkOk_by (N := ["script", "most", "cells", "cell"]) (sc := defScope sRounds) (by decide +kernel))
        (fun _ _ _ _ _ => pg_name (i := 3) scRounds.nd rfl (Or.inl rfl)) (fun _ _ _ _ _ => pts_nil)
        (fun _ _ _ _ _ => pe_call GD hr rfl gD FD.kp bD .nil pass0 (pa_cons (pv 3) pa_nil)))))), ?_⟩
    have fin : ∀ (c : Addr) (n : Int) (H1 : Hp), Ex H H1 → H1 c = some (.lst [.int n]) →
        (tRet (tLc (iList K (tVar 2)) (gName 3) tYes (tCall spDice [] E0 (tCons (tVar 3) tNil)) [3])) { nx := fun _ H' => Q .non H', rt := Q } [some (.ref a), some (.int 1), some (.ref c), none] H1 := by
      intro c n H1 e1 hc
      refine ⟨_, rfl, c, rfl, ⟨_, SqL.of hc⟩, fun D hD => lc_list (xs := [V.int n])
        (fun i H2 => Ex H1 H2 ∧ ((i = 0 ∧ H2 D = some (.lst [])) ∨ (i = 1 ∧ ∃ d, H2 D = some (.lst [.ref d]) ∧ IsDice H2 d))) ?_ ?_ ?_ ?_⟩
      · exact ⟨Ex.upd hD, .inl ⟨rfl, upd_same⟩⟩
      · rintro i H2 _ ⟨e2, _⟩
        exact SqL.of (e2 c _ hc)
      · rintro i x H2 hx ⟨e2, h2⟩
        rcases h2 with ⟨rfl, h2⟩ | ⟨rfl, _⟩
        · cases hx
          refine ⟨rfl, ?_⟩
          refine ⟨_, rfl, n, rfl, fun p x y z hp => ⟨[], ?_, (by decide), ?_⟩⟩
          · rw [L2.upd_ne (ne_of_none h2 hp)]; exact h2
          · refine ⟨Ex.on (e2.trans (Ex.upd hp)) hD, .inr ⟨rfl, p, upd_same, x, y, z, ?_⟩⟩
            rw [L2.upd_ne (fun e => by rw [e, h2] at hp; cases hp), upd_same]
        · cases hx
      · rintro H2 ⟨e2, h2⟩
        rcases h2 with ⟨h, _⟩ | ⟨_, d, h2, h3⟩
        · cases h
        · exact q H2 D d (e1.trans e2) h2 h3
    refine ⟨_, rfl, _, rfl, 1, rfl, a, _, rfl, hS, fun p hp => ?_⟩
    cases ns with
    | nil =>
      refine ⟨_, rfl, (by decide), fun p2 hp2 => ⟨.list [], .list [], .lst (.inl (.inl ?_)) .nil, .lst (.inl (.inl upd_same)) .nil, rfl, rfl, true, rfl, ?_⟩⟩
      · rw [L2.upd_ne (ne_of_none upd_same hp2)]; exact upd_same
      · refine ⟨(by decide), fun p3 hp3 => fin p3 0 _ ?_ upd_same⟩
        exact ((Ex.upd hp).trans (Ex.upd hp2)).trans (Ex.upd hp3)
    | cons n r =>
      have e : cutV ((n :: r).map V.int) none (some 1) = [V.int n] := by
        unfold cutV HT.sIx
        simp
      rw [e] at *
      refine ⟨_, rfl, (by decide), fun p2 hp2 => ⟨.list [.int n], .list [], .lst (.inl (.inl ?_)) (.cons (.int _) .nil), .lst (.inl (.inl upd_same)) .nil, rfl, rfl, false, rfl, ?_⟩⟩
      · rw [L2.upd_ne (ne_of_none upd_same hp2)]; exact upd_same
      · refine fin p n _ ((Ex.upd hp).trans (Ex.upd hp2)) ?_
        rw [L2.upd_ne (ne_of_none upd_same hp2)]; exact upd_same
end
end K6
set_option Elab.async false
set_option linter.all false
set_option maxRecDepth 100000
set_option maxHeartbeats 4000000
namespace K6
open PySem PySem.Spec PyProof.Rows L2 KB KC KS LamX R8 Q6
theorem ifT {c A B : Prop} [Decidable c] (h : c) (a : A) : if c then A else B := by rw [if_pos h]; exact a
theorem ifF {c A B : Prop} [Decidable c] (h : ¬ c) (b : B) : if c then A else B := by rw [if_neg h]; exact b
theorem paired_snoc' {α β : Type} {R : α → β → Prop} {l : List α} {m : List β} {a : α} {b : β} (p : Paired R l m) (h : R a b) : Paired R (l ++ [a]) (m ++ [b]) := paired_app p (.cons h .nil)
theorem paired_len {α β : Type} {R : α → β → Prop} : ∀ {l : List α} {m : List β}, Paired R l m → l.length = m.length
  | _, _, .nil => rfl
  | _, _, .cons _ t => by rw [List.length_cons, List.length_cons, paired_len t]
def KT' (H H' : Hp) : Prop := ∀ b xs, H b = some (.tup xs) → H' b = some (.tup xs)
theorem lcG {J : It} {n : Nat} {G : Hp → Prop} {Y : Nat → Hp → V → Hp → Prop} (w : Walk J n G Y) {α : Type} (R : Hp → V → α → Prop) (out : Nat → Option α) (stab : ∀ H H' v a, KT' H H' → R H v a → R H' v a)
    {g : TG} {tt : TT} {te : TE} {vs : List Nat} {σ : L2.St} {HL : Hp} {D : Addr} {Qd : Hp → Prop} (hD : HL D = none) (hz : n ≤ 1000000) (hG : ∀ H, Ex HL H → G H) (hY : ∀ i H x H1, i < n → Ex HL H → Y i H x H1 → Ex H H1)
    (turn : ∀ (i : Nat) (x : V) (H H1 : Hp) (R0 : V → Hp → Prop) (N0 : Hp → Prop), i < n → Ex HL H → Y i H x H1 → (out i = none → ∀ H2, Ex H1 H2 → N0 H2) → (∀ a, out i = some a → ∀ H2 y, Ex H1 H2 → R H2 y a → R0 y H2) →
      g x (wipe σ vs) H1 fun σ2 H2 => wipe σ2 vs = wipe σ vs ∧ tt σ2 H2 fun b H3 => if b = true then te σ2 H3 R0 else N0 H3)
    (fin : ∀ H xs, Ex HL H → H D = some (.lst xs) → Paired (R H) xs ((List.range n).filterMap out) → Qd H) :
    ∃ W : Nat → Nat → Hp → Prop, (∃ m, W 0 m (upd HL D (.lst []))) ∧ ∀ i m H, W i m H →
      (J.stop i H ∧ Qd H) ∨ (J.go i H ∧ ∃ Nx : Hp → Prop, (∀ H', Nx H' → ∃ m', m' < m ∧ W (i + 1) m' H') ∧ ∀ x H', J.yld i H x H' → g x (wipe σ vs) H' fun σ2 H2 => wipe σ2 vs = wipe σ vs ∧ tt σ2 H2 fun b H3 =>
        if b = true then te σ2 H3 fun y H4 => ∃ acc, H4 D = some (.lst acc) ∧ acc.length < sizeLine ∧ Nx (upd H4 D (.lst (acc ++ [y]))) else Nx H3) := by
  refine lc_it w (fun i H => Ex HL H ∧ ∃ xs, H D = some (.lst xs) ∧ Paired (R H) xs ((List.range i).filterMap out)) ⟨Ex.upd hD, [], upd_same, .nil⟩ (fun i H _ h => hG H h.1) ?_ fun H ⟨e, xs, hx, hp⟩ => fin H xs e hx hp
  rintro i x H H1 hi ⟨e, xs, hx, hp⟩ hy
  have e1 := hY i H x H1 hi e hy
  have hs : (List.range (i + 1)).filterMap out = (List.range i).filterMap out ++ (out i).toList := by
    rw [List.range_succ, List.filterMap_append]
    cases h : out i <;> simp [h]
  refine turn i x H H1 _ _ hi e hy (fun hn H2 e2 => ?_) fun a ha H2 y e2 hr => ?_
  · refine ⟨(e.trans e1).trans e2, xs, e2 _ _ (e1 _ _ hx), ?_⟩
    rw [hs, hn]
    simpa using paired_mono (fun v b h => stab _ _ v b (fun b' xs' h' => e2 _ _ (e1 _ _ h')) h) hp
  · have hx2 := e2 _ _ (e1 _ _ hx)
    have kt : KT' H2 (upd H2 D (.lst (xs ++ [y]))) := fun b ys h => by
      rw [L2.upd_ne (fun z => by rw [z, hx2] at h; cases h)]; exact h
    refine ⟨xs, hx2, ?_, Ex.on ((e.trans e1).trans e2) hD, xs ++ [y], upd_same, ?_⟩
    · have l1 := paired_len hp
      have l2 := List.length_filterMap_le out (List.range i)
      rw [List.length_range] at l2
      have : sizeLine = 16777216 := rfl
      omega
    · rw [hs, ha]
      exact paired_snoc' (paired_mono (fun v b h => stab _ _ v b (fun b' xs' h' => kt _ _ (e2 _ _ (e1 _ _ h'))) h) hp) (stab _ _ _ _ kt hr)
def RInt : Hp → V → Int → Prop := fun _ v a => v = .int a
def RStr : Hp → V → Str → Prop := fun _ v a => v = .str a
theorem RInt.stab : ∀ H H' v a, KT' H H' → RInt H v a → RInt H' v a := fun _ _ _ _ _ h => h
theorem RStr.stab : ∀ H H' v a, KT' H H' → RStr H v a → RStr H' v a := fun _ _ _ _ _ h => h
theorem rint_map {H : Hp} : ∀ {xs : List V} {ns : List Int}, Paired (RInt H) xs ns → xs = ns.map V.int
  | _, _, .nil => rfl
  | _, _, .cons h t => by rw [List.map_cons, ← rint_map t]; rw [show _ = _ from h]
theorem rstr_map {H : Hp} : ∀ {xs : List V} {ns : List Str}, Paired (RStr H) xs ns → xs = ns.map V.str
  | _, _, .nil => rfl
  | _, _, .cons h t => by rw [List.map_cons, ← rstr_map t]; rw [show _ = _ from h]
theorem range_fm {α β : Type} (f : α → Option β) : ∀ xs : List α, (List.range xs.length).filterMap (fun i => xs[i]?.bind f) = xs.filterMap f := by
  intro xs
  induction xs with
  | nil => rfl
  | cons a xs ih =>
    rw [List.length_cons, List.range_succ_eq_map, List.filterMap_cons, List.filterMap_map]
    have e : ((fun i => ((a :: xs)[i]?).bind f) ∘ Nat.succ) = fun i => xs[i]?.bind f := by
      funext i
      simp
    rw [e, ih]
    simp [List.filterMap_cons]
theorem yat_ex {xs : List V} {i : Nat} {H H1 : Hp} {x : V} (h : YAt xs i H x H1) : Ex H H1 := by
  obtain ⟨rfl, _⟩ := h
  exact Ex.refl _
theorem yfn_ex {f : Nat → V} {i : Nat} {H H1 : Hp} {x : V} (h : YFn f i H x H1) : Ex H H1 := by
  obtain ⟨rfl, _⟩ := h
  exact Ex.refl _
theorem pf {X : Cx} (i : Nat) {f x : Str} {p1 p2 : Pos} (hN : X.N[i]? = some x := by rfl) (hv : Vis X.env.scope x := by first | exact .inl rfl | exact .inr (.inl rfl) | exact .inr (.inr rfl) | exact .inr rfl) (hd : (x == ("__debug__" : Str)) = false := by decide) (hcd : (x == ("__classdict__" : Str)) = false := by decide)
    (hb : attributeBase (.Name x p1) f X.env (eval (.Name x p1) X.env) = eval (.Name x p1) X.env := by rfl) : PE X (.Attribute (.Name x p1) f p2) (tFld X.K (tVar i) f) :=
  pe_fld (pe_var (i := i) hN hv hd hcd) hb
def veB : List Value := [.type "ValueError", .type "Exception", .type "BaseException", .type "object"]
structure TxtX (K : PySem.W.Frag) (mg : Str → Option Value) (CE : Addr) : Prop where
  g : mg "LogError" = some (.ref CE)
  x : PySem.W.excIn K CE veB "ValueError.__new__" = true
  k : PySem.W.keepIn K (.ref CE) = true
  b : PySem.W.subIn K (.ref CE) (.type "BaseException") = some true
  t : PySem.W.typeIn K (.ref CE) = some (.type "type")
  e : PySem.W.exmOne K (.ref CE) (.ref CE) = some true
def rIxP : R2 := fun x y H Q => ∃ p xs i v, x = .ref p ∧ y = .int i ∧ H p = some (.tup xs) ∧ atI xs i = some v ∧ Q v H
theorem ix_tupD {X : Cx} : IxR X rIxP := by
  intro value slice pins s σ H x y v u Q I rx ry h hs
  obtain ⟨p, xs, i, z, e1, e2, hq, he, q⟩ := h
  exact ix_tup value slice pins s σ H x y v u Q I rx ry ⟨p, xs, i, z, e1, e2, SqT.of hq, he, q⟩ hs
theorem filt_fm {α : Type} (f : α → Bool) (xs : List α) : xs.filterMap (fun p => if f p = true then some p else none) = xs.filter f := by
  induction xs with
  | nil => rfl
  | cons a xs ih => cases h : f a <;> simp [h, ih]
theorem map_fm {α β : Type} (f : α → β) (xs : List α) : xs.filterMap (fun p => some (f p)) = xs.map f := by
  induction xs with
  | nil => rfl
  | cons a xs ih => simp
theorem at0 {a b : V} : atI [a, b] 0 = some a := rfl
theorem at1 {a b : V} : atI [a, b] 1 = some b := rfl
theorem wipe_set {σ : L2.St} {i : Nat} {x : Option V} : wipe ((wipe σ [i]).set i x) [i] = wipe σ [i] := by
  show ((σ.set i none).set i x).set i none = σ.set i none
  rw [List.set_set, List.set_set]
end K6
set_option Elab.async false
set_option linter.all false
set_option maxRecDepth 100000
set_option maxHeartbeats 4000000
namespace K6
open PySem PySem.Spec PyProof.Rows L2 KB KC KS LamX R8 Q6
structure TxtC (K : PySem.W.Frag) (mg : Str → Option Value) (C : Addr) : Prop where
  cl : Cls K C
  nR : NoAttr K C "records"
  nF : NoAttr K C "firm"
  nU : NoAttr K C "is_up"
  gC : mg "Copy" = some (.ref C)
abbrev cF (l : Addr) (f : Int) (u : Bool) : List (Str × V) := [("records", .ref l), ("firm", .int f), ("is_up", .bl u)]
theorem cF_m {l : Addr} {f : Int} {u : Bool} {m : Str} (h1 : (m == ("records" : Str)) = false) (h2 : (m == ("firm" : Str)) = false) (h3 : (m == ("is_up" : Str)) = false) : (cF l f u).lookup m = none := by
  simp only [List.lookup, h1, h2, h3]
def Ts (H : Hp) (us : List Addr) (c : Lg) : Prop := Paired (fun (t : Addr) (e : Ent) => ∃ v, H t = some (.tup [.int e.1, v])) us c
theorem Ts.at2 {H : Hp} : ∀ {us : List Addr} {c : Lg}, Ts H us c → ∀ {i : Nat} {e : Ent}, c[i]? = some e → ∃ t v, us[i]? = some t ∧ H t = some (.tup [.int e.1, v])
  | _, _, .nil, i, e, h => by simp at h
  | _, _, .cons (a := a) (b := b) ⟨v, h⟩ r, i, e, h2 => by
    cases i with
    | zero => cases h2; exact ⟨a, v, rfl, h⟩
    | succ i => exact Ts.at2 r (i := i) h2
@[irreducible] def spCInit (C : Addr) : Sp := fun vs H Q _ => ∃ (p dx : Addr), vs = [.ref p] ∧ H p = some (.ins C dx []) ∧ ∀ H' l, (∀ b o, b ≠ p → H b = some o → H' b = some o) → H l = none → H' p = some (.ins C dx (cF l 0 true)) → H' l = some (.lst []) → Q .non H'
@[irreducible] def spEnd (C : Addr) : Sp := fun vs H Q _ => ∃ (a dx l : Addr) (f t : Int) (u : Bool) (us : List Addr) (c : Lg), vs = [.ref a, .int t] ∧ H a = some (.ins C dx (cF l f u)) ∧ H l = some (.lst (us.map V.ref)) ∧ Ts H us c ∧ c.length ≤ 1000 ∧
  ∀ H' q, Ex H H' → H' q = some (.tup [.int (endOf c t).1, .int ((endOf c t).2 : Nat)]) → Q (.ref q) H'
section
variable {P : Program} {w : World} {K : PySem.W.Frag} {mg : Str → Option Value} {base : Heap} {C CE f : Addr} {fd : FuncData}
theorem scCI : FnScope ["self"] ["self"] (defScope (sCM 0)) := ⟨rfl, rfl, rfl, by decide +kernel, rfl, by decide +kernel, by decide +kernel⟩
theorem ok_cinit (F : FnP K "__init__" "Copy.__init__" (sCM 0) [] f fd) (B : TxtC K mg C) : FnOk P w K mg base CX0 1 f fd ["self"] (spCInit C) := by
  refine F.ok scCI (fun vs H Q E h => ?_) (fun cdv A outer s H vs Q E hr h => ?_)
  · unfold spCInit at h
    obtain ⟨_, _, rfl, _⟩ := h; rfl
  · unfold spCInit at h
    obtain ⟨p, dx, rfl, hp, fin⟩ := h
    refine ⟨_, PSs.nox <| pss_cons (ps_fld (pv 0) (pe_lst pa_nil) rfl) (pss_cons (ps_fld (pv 0) pe_int rfl) (pss_one (ps_fld (pv 0) pe_bl rfl))), ?_⟩
    refine ⟨(by show 0 ≤ sizeLine; decide), fun l hl => ?_⟩
    have nlp : l ≠ p := fun z => by rw [z, hp] at hl; cases hl
    refine ⟨_, rfl, p, C, dx, [], rfl, by rw [L2.upd_ne nlp.symm]; exact hp, B.cl, B.nR, by decide, _, rfl, p, C, dx, [("records", .ref l)], rfl, upd_same, B.cl, B.nF, (by show 1 < 1000; decide), _, rfl, p, C, dx, [("records", .ref l), ("firm", .int 0)], rfl, upd_same, B.cl, B.nU, (by show 2 < 1000; decide), ?_⟩
    refine fin _ l (fun b o n h => ?_) hl upd_same ?_
    · rw [L2.upd_ne n, L2.upd_ne n, L2.upd_ne n, L2.upd_ne (ne_of_none h hl)]
      exact h
    · rw [L2.upd_ne nlp, L2.upd_ne nlp, L2.upd_ne nlp, upd_same]
abbrev nEd : List Str := ["self", "time", "place"]
theorem scEd : FnScope nEd ["self", "time"] (defScope (sCM 1)) := ⟨rfl, rfl, rfl, by decide +kernel, rfl, by decide +kernel, by decide +kernel⟩
theorem endN_step {c : Lg} {t : Int} {k : Nat} {e : Ent} (h : c[k]? = some e) : endN c t (k + 1) = if e.1 ≤ t then (e.1, k + 1) else endN c t k := by
  conv => lhs; unfold endN
  rw [h]
theorem ok_end (F : FnP K "end_of" "Copy.end_of" (sCM 1) [] f fd) (B : TxtC K mg C) (T : TxtL mg) : FnOk P w K mg base CX0 1 f fd ["self", "time"] (spEnd C) := by
  refine F.ok scEd (fun vs H Q E h => ?_) (fun cdv A outer s H vs Q E hr h => ?_)
  · unfold spEnd at h
    obtain ⟨_, _, _, _, _, _, _, _, rfl, _⟩ := h; rfl
  · unfold spEnd at h
    obtain ⟨a, dx, l, fi, t, u, us, c, rfl, ha, hl, ts, hlen, fin⟩ := h
    refine ⟨_, PSs.nox <| pss_cons (ps_for PassesOwn.never rfl (pi_revR (by rfl) T.rev (prg_1 (by rfl) T.range (pe_callB call_len_seq (by rfl) T.len PySem.boot_len (pa_cons (pf 0) pa_nil)))) (pg_name (i := 2) scEd.nd rfl (Or.inl rfl))
        (pss_one (ps_if (pt_cmpR op_le (pe_ix ix_tupD (pe_ix ix_listD (pf 0) (pv 2) (fun _ _ => rfl)) pe_int (fun _ _ => rfl)) (pv 1) (nomark _))
          (pss_one (ps_ret (pe_tup (pa_cons (pe_ix ix_tupD (pe_ix ix_listD (pf 0) (pv 2) (fun _ _ => rfl)) pe_int (fun _ _ => rfl)) (pa_cons (pe_op op_add (pv 2) pe_int) pa_nil))))) pss_nil)))
      (pss_one (ps_ret (pe_tup (pa_cons pe_int (pa_cons pe_int pa_nil))))), ?_⟩
    have hul := paired_len ts
    have two : 2 ≤ sizeLine := by decide
    refine ⟨_, rfl, a, C, dx, _, _, rfl, ha, B.cl, B.nR, rfl, l, _, rfl, .inl (SqL.of hl), _, rfl, by omega, by omega, by omega, by rw [List.length_map]; omega, ?_⟩
    have hn : (((us.map V.ref).length : Int) - 0).toNat = c.length := by rw [List.length_map, hul]; omega
    rw [hn]
    refine for_rangeC (n := c.length) (fun i σ H2 => (∃ v, σ = [some (.ref a), some (.int t), v]) ∧ H2 = H ∧ i ≤ c.length ∧ endOf c t = endN c t (c.length - i)) ⟨⟨_, rfl⟩, rfl, Nat.zero_le _, rfl⟩ ?_ ?_
    · rintro i σ H2 hi ⟨⟨v, rfl⟩, rfl, _, he⟩
      have hk : c.length - i = (c.length - (i + 1)) + 1 := by omega
      obtain ⟨e, hce⟩ : ∃ e, c[c.length - (i + 1)]? = some e := ⟨_, List.getElem?_eq_getElem (by omega)⟩
      obtain ⟨te, v', hte, hT⟩ := ts.at2 hce
      rw [hk, endN_step hce] at he
      have hp : (0 : Int) + ((c.length : Nat) : Int) - 1 + (i : Int) * -1 = ((c.length - (i + 1) : Nat) : Int) := by omega
      have hat : atI (us.map V.ref) ((0 : Int) + ((c.length : Nat) : Int) - 1 + (i : Int) * -1) = some (.ref te) := by
        rw [hp]
        exact atI_nat (by rw [List.getElem?_map, hte]; rfl)
      have at0' : atI [V.int e.1, v'] 0 = some (.int e.1) := rfl
      refine ⟨_, rfl, a, C, dx, _, _, rfl, ha, B.cl, B.nR, rfl, _, rfl, l, _, _, _, rfl, rfl, hl, hat, te, _, 0, _, rfl, rfl, hT, at0', _, rfl, _, _, rfl, rfl, _, rfl, ?_⟩
      by_cases cc : e.1 ≤ t
      · rw [decide_eq_true cc]
        rw [if_pos cc] at he
        refine iteT ⟨_, rfl, a, C, dx, _, _, rfl, ha, B.cl, B.nR, rfl, _, rfl, l, _, _, _, rfl, rfl, hl, hat, te, _, 0, _, rfl, rfl, hT, at0', _, rfl, _, _, rfl, rfl, two, fun q hq => ?_⟩
        refine fin _ q (Ex.upd hq) ?_
        rw [upd_same, he, hp]
        rfl
      · rw [decide_eq_false cc]
        rw [if_neg cc] at he
        exact iteF ⟨⟨_, rfl⟩, rfl, by omega, he⟩
    · rintro σ H2 ⟨⟨v, rfl⟩, rfl, _, he⟩
      rw [Nat.sub_self] at he
      refine ⟨two, fun q hq => fin _ q (Ex.upd hq) ?_⟩
      rw [upd_same, he]
      rfl
end
end K6
set_option Elab.async false
set_option linter.all false
set_option maxRecDepth 100000
set_option maxHeartbeats 4000000
namespace K6
open PySem PySem.Spec PyProof.Rows L2 KB KC KS LamX R8 Q6
def Es (H : Hp) (us : List Addr) (c : Lg) : Prop := Paired (fun (t : Addr) (e : Ent) => ∃ r, H t = some (.tup [.int e.1, .ref r]) ∧ H r = some (.tup [.str "row", .int e.2])) us c
theorem Es.ts {H : Hp} {us : List Addr} {c : Lg} (h : Es H us c) : Ts H us c := paired_mono (fun _ _ ⟨r, h, _⟩ => ⟨_, h⟩) h
theorem Es.kt {H H' : Hp} {us : List Addr} {c : Lg} (h : Es H us c) (k : KT' H H') : Es H' us c := paired_mono (fun _ _ ⟨r, h1, h2⟩ => ⟨r, k _ _ h1, k _ _ h2⟩) h
structure CopyAt (C : Addr) (H : Hp) (a l : Addr) (c : Lg) (f : Nat) (u : Bool) : Prop where
  o : ∃ dx, H a = some (.ins C dx (cF l (f : Nat) u))
  r : ∃ us, H l = some (.lst (us.map V.ref)) ∧ Es H us c
theorem CopyAt.keep {C : Addr} {H H' : Hp} {a l : Addr} {c : Lg} {f : Nat} {u : Bool} (x : CopyAt C H a l c f u) (k : KT' H H') (ha : ∀ o, H a = some o → H' a = some o) (hl : ∀ o, H l = some o → H' l = some o) : CopyAt C H' a l c f u := by
  obtain ⟨⟨dx, h1⟩, us, h2, h3⟩ := x
  exact ⟨⟨dx, ha _ h1⟩, us, hl _ h2, h3.kt k⟩
abbrev gF (dc : Addr) (ld : V) (T : Int) (kl : Addr) (least : Int) : List (Str × V) := [("copies", .ref dc), ("leader", ld), ("time", .int T), ("keeping", .ref kl), ("least", .int least)]
theorem gF_m {dc kl : Addr} {ld : V} {T least : Int} {m : Str} (h1 : (m == ("copies" : Str)) = false) (h2 : (m == ("leader" : Str)) = false) (h3 : (m == ("time" : Str)) = false) (h4 : (m == ("keeping" : Str)) = false) (h5 : (m == ("least" : Str)) = false) : (gF dc ld T kl least).lookup m = none := by
  simp only [List.lookup, h1, h2, h3, h4, h5]
def ldV : Option Str → V
  | some l => .str l
  | none => .non
theorem ldV_non (o : Option Str) : decide (ldV o = V.non) = o.isNone := by
  cases o with
  | none => rfl
  | some l => exact decide_eq_false fun z => nomatch (show V.str l = V.non from z)
def dcK (names : List Str) (ca : Str → Addr) : List (Key × V) := names.map fun n => (Sum.inr n, V.ref (ca n))
theorem valV_dc {names : List Str} {ca : Str → Addr} (n : Str) : valV (dcK names ca) (Sum.inr n) = if n ∈ names then some (.ref (ca n)) else none := by
  unfold valV dcK
  rw [List.find?_map]
  have e : ((fun kv : Key × V => decide (kv.1 = Sum.inr n)) ∘ fun p : Str => (Sum.inr p, V.ref (ca p))) = fun p => decide (p = n) := by
    funext p
    simp
  rw [e]
  induction names with
  | nil => rfl
  | cons a r ih =>
    rw [List.find?_cons]
    by_cases h : a = n
    · subst h
      simp
    · have h' : ¬ n = a := fun z => h z.symm
      simp only [h, decide_false, List.mem_cons, h', false_or]
      exact ih
structure Grp (CR CC : Addr) (names : List Str) (least : Int) (g dc kl : Addr) (ca la : Str → Addr) (s : Rp Str) (H : Hp) : Prop where
  o : ∃ dx, H g = some (.ins CR dx (gF dc (ldV s.leader) s.time kl least))
  d : H dc = some (.dK (dcK names ca))
  k : H kl = some (.lst (s.keep.map V.str))
  cp : ∀ n ∈ names, CopyAt CC H (ca n) (la n) (s.lg n) (s.firm n) (s.up n)
  ic : ∀ n ∈ names, ∀ m ∈ names, ca n = ca m → n = m
  il : ∀ n ∈ names, ∀ m ∈ names, la n = la m → n = m
  ig : ∀ n ∈ names, ca n ≠ g
  ik : ∀ n ∈ names, la n ≠ kl
  kn : ∀ n ∈ s.keep, n ∈ names
  ln : ∀ l, s.leader = some l → l ∈ names
  k9 : s.keep.length ≤ 9
  n9 : names.length ≤ 9
  lt : ∀ n ∈ names, (s.lg n).length ≤ 900
  ns : ∀ n ∈ names, n.length ≤ 900 ∧ PyData.strOk n = true
section
variable {CR CC : Addr} {names : List Str} {least : Int} {g dc kl : Addr} {ca la : Str → Addr} {s : Rp Str} {H H' : Hp}
theorem Grp.get (x : Grp CR CC names least g dc kl ca la s H) {n : Str} (h : n ∈ names) : DGet H dc (.str n) (some (.ref (ca n))) := by
  have := DGet.k (k := Sum.inr n) x.d
  rw [valV_dc, if_pos h] at this
  exact this
theorem Grp.get0 (x : Grp CR CC names least g dc kl ca la s H) (n : Str) : DGet H dc (.str n) (if n ∈ names then some (.ref (ca n)) else none) := by
  have := DGet.k (k := Sum.inr n) x.d
  rw [valV_dc] at this
  exact this
theorem Grp.ex (x : Grp CR CC names least g dc kl ca la s H) (e : Ex H H') : Grp CR CC names least g dc kl ca la s H' :=
  ⟨let ⟨dx, h⟩ := x.o; ⟨dx, e _ _ h⟩, e _ _ x.d, e _ _ x.k, fun n hn => (x.cp n hn).keep (fun b xs h => e _ _ h) (fun o h => e _ _ h) (fun o h => e _ _ h), x.ic, x.il, x.ig, x.ik, x.kn, x.ln, x.k9, x.n9, x.lt, x.ns⟩
theorem Grp.setC (x : Grp CR CC names least g dc kl ca la s H) {n : Str} (hn : n ∈ names) {dx : Addr} {l : Addr} {c : Lg} {f : Nat} {u : Bool} {us : List Addr} (hl : H l = some (.lst (us.map V.ref))) (he : Es H us c) (hd : l = la n ∨ (∀ m ∈ names, la m ≠ l) ∧ l ≠ kl) (hc : c.length ≤ 900) :
    Grp CR CC names least g dc kl ca (Q6.set la n l) { s with lg := Q6.set s.lg n c, firm := Q6.set s.firm n f, up := Q6.set s.up n u } (upd H (ca n) (.ins CC dx (cF l (f : Nat) u))) := by
  obtain ⟨dg, ho⟩ := x.o
  obtain ⟨dxn, hcn⟩ := (x.cp n hn).o
  have kt : KT' H (upd H (ca n) (.ins CC dx (cF l (f : Nat) u))) := fun b xs h => by rw [L2.upd_ne (ne_of h hcn (fun z => nomatch z))]; exact h
  have nl : ∀ {b : Addr} {xs : List V}, H b = some (.lst xs) → (upd H (ca n) (.ins CC dx (cF l (f : Nat) u))) b = some (.lst xs) := fun h => by rw [L2.upd_ne (ne_of h hcn (fun z => nomatch z))]; exact h
  have inj : ∀ m ∈ names, m ≠ n → Q6.set la n l m ≠ l := fun m hm e z => by
    rw [set_ne e] at z
    rcases hd with h | ⟨h, _⟩
    · exact e (x.il m hm n hn (z.trans h))
    · exact h m hm z
  refine ⟨⟨dg, by rw [L2.upd_ne (x.ig n hn).symm]; exact ho⟩, by rw [L2.upd_ne (ne_of x.d hcn (fun z => nomatch z))]; exact x.d, nl x.k, fun m hm => ?_, x.ic, fun a ha b hb e => ?_, x.ig, fun m hm => ?_, x.kn, x.ln, x.k9, x.n9, fun m hm => ?_, x.ns⟩
  · show CopyAt CC _ (ca m) (Q6.set la n l m) (Q6.set s.lg n c m) (Q6.set s.firm n f m) (Q6.set s.up n u m)
    by_cases e : m = n
    · subst e
      rw [set_same, set_same, set_same, set_same]
      exact ⟨⟨dx, upd_same⟩, us, nl hl, he.kt kt⟩
    · rw [set_ne e, set_ne e, set_ne e, set_ne e]
      obtain ⟨us', h1, h2⟩ := (x.cp m hm).r
      obtain ⟨dm, h3⟩ := (x.cp m hm).o
      exact ⟨⟨dm, by rw [L2.upd_ne (fun z => e (x.ic m hm n hn z))]; exact h3⟩, us', nl h1, h2.kt kt⟩
  · by_cases e1 : a = n
    · by_cases e2 : b = n
      · rw [e1, e2]
      · rw [e1, set_same] at e
        exact absurd e.symm (inj b hb e2)
    · by_cases e2 : b = n
      · rw [e2, set_same] at e
        exact absurd e (inj a ha e1)
      · rw [set_ne e1, set_ne e2] at e
        exact x.il a ha b hb e
  · by_cases e : m = n
    · subst e
      rw [set_same]
      rcases hd with h | ⟨_, h⟩
      · rw [h]; exact x.ik m hm
      · exact h
    · rw [set_ne e]
      exact x.ik m hm
  · show (Q6.set s.lg n c m).length ≤ 900
    by_cases e : m = n
    · rw [e, set_same]; exact hc
    · rw [set_ne e]; exact x.lt m hm
theorem set_self {α β : Type} [DecidableEq α] (f : α → β) (a : α) : Q6.set f a (f a) = f := by
  funext x
  unfold Q6.set
  split
  · rename_i h; rw [h]
  · rfl
theorem Grp.setG (x : Grp CR CC names least g dc kl ca la s H) {dx kl' : Addr} {ld : Option Str} {T : Int} {keep : List Str} (hk : H kl' = some (.lst (keep.map V.str))) (h1 : ∀ n ∈ names, la n ≠ kl') (h2 : ∀ n ∈ keep, n ∈ names) (h3 : keep.length ≤ 9) (h4 : ∀ l, ld = some l → l ∈ names) :
    Grp CR CC names least g dc kl' ca la { s with leader := ld, time := T, keep := keep } (upd H g (.ins CR dx (gF dc (ldV ld) T kl' least))) := by
  obtain ⟨dg, ho⟩ := x.o
  have kt : KT' H (upd H g (.ins CR dx (gF dc (ldV ld) T kl' least))) := fun b xs h => by rw [L2.upd_ne (ne_of h ho (fun z => nomatch z))]; exact h
  refine ⟨⟨dx, upd_same⟩, by rw [L2.upd_ne (ne_of x.d ho (fun z => nomatch z))]; exact x.d, by rw [L2.upd_ne (ne_of hk ho (fun z => nomatch z))]; exact hk, fun n hn => ?_, x.ic, x.il, x.ig, h1, h2, h4, h3, x.n9, x.lt, x.ns⟩
  refine (x.cp n hn).keep kt (fun o h => by rw [L2.upd_ne (x.ig n hn)]; exact h) (fun o h => ?_)
  obtain ⟨us, h5, _⟩ := (x.cp n hn).r
  rw [L2.upd_ne (ne_of h5 ho (fun z => nomatch z))]
  exact h
end
theorem none_of {H H' : Hp} {q : Addr} (e : Ex H H') (h : H' q = none) : H q = none := by
  cases z : H q with
  | none => rfl
  | some o => rw [e _ _ z] at h; cases h
theorem none_upd {H : Hp} {a q : Addr} {o o' : HO} (ha : H a = some o') (h : (upd H a o) q = none) : H q = none := by
  by_cases e : q = a
  · rw [e, upd_same] at h; cases h
  · rw [L2.upd_ne e] at h; exact h
def ExG (g : Addr) (names : List Str) (ca la : Str → Addr) (H H' : Hp) : Prop := (∀ b o, H b = some o → b ≠ g → (∀ n ∈ names, b ≠ ca n ∧ b ≠ la n) → H' b = some o) ∧ ∀ b, H' b = none → H b = none
theorem ExG.of {g : Addr} {names : List Str} {ca la : Str → Addr} {H H' : Hp} (e : Ex H H') : ExG g names ca la H H' := ⟨fun b o h _ _ => e b o h, fun _ h => none_of e h⟩
def LaN (names : List Str) (la la' : Str → Addr) (H : Hp) : Prop := ∀ n ∈ names, la' n = la n ∨ H (la' n) = none
theorem LaN.refl {names : List Str} {la : Str → Addr} {H : Hp} : LaN names la la H := fun _ _ => .inl rfl
theorem ExG.trans {g : Addr} {names : List Str} {ca la la1 : Str → Addr} {H H1 H2 : Hp} (e : ExG g names ca la H H1) (n : LaN names la la1 H) (f : ExG g names ca la1 H1 H2) : ExG g names ca la H H2 := ⟨fun b o h h1 h2 => f.1 b o (e.1 b o h h1 h2) h1 fun m hm => ⟨(h2 m hm).1, fun z => by
  rcases n m hm with k | k
  · exact (h2 m hm).2 (z.trans k)
  · rw [← z, h] at k; cases k⟩, fun b h => e.2 b (f.2 b h)⟩
theorem LaN.set {g : Addr} {names : List Str} {ca la la1 : Str → Addr} {H H1 : Hp} (a : LaN names la la1 H) (x : ExG g names ca la H H1) {n : Str} {q : Addr} (hq : H1 q = none) : LaN names la (Q6.set la1 n q) H := fun m hm => by
  by_cases e : m = n
  · rw [e, set_same]; exact .inr (x.2 q hq)
  · rw [set_ne e]; exact a m hm
theorem LaN.trans {g : Addr} {names : List Str} {ca la la1 la2 : Str → Addr} {H H1 : Hp} (a : LaN names la la1 H) (x : ExG g names ca la H H1) (b : LaN names la1 la2 H1) : LaN names la la2 H := fun m hm => by
  rcases b m hm with k | k
  · rw [k]; exact a m hm
  · exact .inr (x.2 _ k)
structure TxtR (K : PySem.W.Frag) (mg : Str → Option Value) (C : Addr) : Prop where
  cl : Cls K C
  nC : NoAttr K C "copies"
  nL : NoAttr K C "leader"
  nT : NoAttr K C "time"
  nK : NoAttr K C "keeping"
  nS : NoAttr K C "least"
  gC : mg "Replicas" = some (.ref C)
def minL (s : Rp Str) : Nat := ((s.keep.map fun n => (s.lg n).length).min?).getD 0
def firmed (s : Rp Str) : Rp Str := match s.leader with
  | some l => { s with firm := Q6.set s.firm l (max (s.firm l) (minL s)) }
  | none => s
@[irreducible] def spLeading (CR CC CE : Addr) : Sp := fun vs H Q E => ∃ (names : List Str) (least : Int) (g dc kl : Addr) (ca la : Str → Addr) (s : Rp Str), vs = [.ref g] ∧ Grp CR CC names least g dc kl ca la s H ∧ (s.leader = none → E (.ref CE) none H) ∧ (∀ l, s.leader = some l → Q (.ref (ca l)) H)
@[irreducible] def spFirmG (CR CC : Addr) : Sp := fun vs H Q _ => ∃ (names : List Str) (least : Int) (g dc kl : Addr) (ca la : Str → Addr) (s : Rp Str), vs = [.ref g] ∧ Grp CR CC names least g dc kl ca la s H ∧ s.keep ≠ [] ∧ ∀ H', ExG g names ca la H H' → Grp CR CC names least g dc kl ca la (firmed s) H' → Q .non H'
section
variable {P : Program} {w : World} {K : PySem.W.Frag} {mg : Str → Option Value} {base : Heap} {CR CC CE f : Addr} {fd : FuncData}
theorem leading_step {names : List Str} {least : Int} {g dc kl : Addr} {ca la : Str → Addr} {s : Rp Str} {H : Hp} {Q : VK} {E : XK} (x : Grp CR CC names least g dc kl ca la s H) (bad : s.leader = none → E (.ref CE) none H) (good : ∀ l, s.leader = some l → Q (.ref (ca l)) H) : spLeading CR CC CE [.ref g] H Q E := by
  unfold spLeading
  exact ⟨names, least, g, dc, kl, ca, la, s, rfl, x, bad, good⟩
theorem firmG_step {names : List Str} {least : Int} {g dc kl : Addr} {ca la : Str → Addr} {s : Rp Str} {H : Hp} {Q : VK} {E : XK} (x : Grp CR CC names least g dc kl ca la s H) (k0 : s.keep ≠ []) (fin : ∀ H', ExG g names ca la H H' → Grp CR CC names least g dc kl ca la (firmed s) H' → Q .non H') : spFirmG CR CC [.ref g] H Q E := by
  unfold spFirmG
  exact ⟨names, least, g, dc, kl, ca, la, s, rfl, x, k0, fin⟩
theorem scLd : FnScope ["self"] ["self"] (defScope (sRM 1)) := ⟨rfl, rfl, rfl, by decide +kernel, rfl, by decide +kernel, by decide +kernel⟩
theorem ok_leading (F : FnP K "leading" "Replicas.leading" (sRM 1) [] f fd) (B : TxtR K mg CR) (J : TxtX K mg CE) : FnOk P w K mg base (L2.CX P w) 1 f fd ["self"] (spLeading CR CC CE) := by
  refine F.ok scLd (fun vs H Q E h => ?_) (fun cdv A outer s H vs Q E hr h => ?_)
  · unfold spLeading at h
    obtain ⟨_, _, _, _, _, _, _, _, rfl, _⟩ := h; rfl
  · unfold spLeading at h
    obtain ⟨names, least, g, dc, kl, ca, la, st, rfl, x, bad, good⟩ := h
    have hu := hr.units
    have hu1 := Nat.lt_trans (Nat.add_lt_add_left (by decide : 1 < 64) _) hu
    obtain ⟨dx, ho⟩ := x.o
    refine ⟨_, pss_cons (ps_if (pt_cmp (pc_isN (pf 0))) (pss_one (ps_raise rfl (takes_of rfl rfl rfl rfl) (pmk_own PySem.F.excBase_ValueError J.x J.g J.k (raises_own J.b J.t) rfl))) pss_nil)
      (PSs.nox <| pss_one (ps_ret (pe_dget hu1 (pf 0) (pf 0) (fun _ _ => rfl)))), ?_⟩
    refine ⟨_, rfl, g, CR, dx, _, _, rfl, ho, B.cl, B.nL, rfl, _, rfl, ?_⟩
    rw [ldV_non]
    cases e : st.leader with
    | none => exact ifT rfl (bad e)
    | some l =>
      rw [e] at ho
      refine ifF (by simp) ⟨_, rfl, g, CR, dx, _, _, rfl, ho, B.cl, B.nC, rfl, _, rfl, g, CR, dx, _, _, rfl, ho, B.cl, B.nL, rfl, dc, _, rfl, x.get (x.ln l e), good l e⟩
theorem minL_spec {s : Rp Str} {m : Int} (h1 : m ∈ s.keep.map fun n => (((s.lg n).length : Nat) : Int)) (h2 : ∀ y ∈ s.keep.map fun n => (((s.lg n).length : Nat) : Int), m ≤ y) : m = ((minL s : Nat) : Int) := by
  obtain ⟨n, hn, rfl⟩ := List.mem_map.mp h1
  have e : (s.keep.map fun n => (s.lg n).length).min? = some (s.lg n).length := by
    rw [List.min?_eq_some_iff]
    refine ⟨List.mem_map.mpr ⟨n, hn, rfl⟩, fun b hb => ?_⟩
    obtain ⟨k, hk, rfl⟩ := List.mem_map.mp hb
    have := h2 _ (List.mem_map.mpr ⟨k, hk, rfl⟩)
    omega
  unfold minL
  rw [e]
  rfl
theorem minL_le {s : Rp Str} : ∀ n ∈ s.keep, minL s ≤ (s.lg n).length := fun n hn => by
  unfold minL
  cases e : (s.keep.map fun n => (s.lg n).length).min? with
  | none =>
    rw [List.min?_eq_none_iff, List.map_eq_nil_iff] at e
    rw [e] at hn
    cases hn
  | some k =>
    rw [List.min?_eq_some_iff] at e
    exact e.2 _ (List.mem_map.mpr ⟨n, hn, rfl⟩)
abbrev nMF : List Str := ["self", "ends", "leader", "name"]
theorem scMF : FnScope nMF ["self"] (defScope (sRM 3)) := ⟨rfl, rfl, rfl, by decide +kernel, rfl, by decide +kernel, by decide +kernel⟩
theorem ok_firmG (F : FnP K "make_firm" "Replicas.make_firm" (sRM 3) [] f fd) (B : TxtR K mg CR) (BC : TxtC K mg CC) (T : TxtL mg) : FnOk P w K mg base CX0 1 f fd ["self"] (spFirmG CR CC) := by
  refine F.ok scMF (fun vs H Q E h => ?_) (fun cdv A outer s H vs Q E hr h => ?_)
  · unfold spFirmG at h
    obtain ⟨_, _, _, _, _, _, _, _, rfl, _⟩ := h; rfl
  · unfold spFirmG at h
    obtain ⟨names, least, g, dc, kl, ca, la, st, rfl, x, k0, fin⟩ := h
    have hu := hr.units
    have hu1 := Nat.lt_trans (Nat.add_lt_add_left (by decide : 1 < 64) _) hu
    obtain ⟨dx, ho⟩ := x.o
    refine ⟨_, PSs.nox <| pss_one (ps_if (pt_cmp (pc_notN (pf 0)))
      (pss_cons (ps_setLc (i := 1) (own := [("name", 3)]) (g := gName 3) (tt := tYes) (te := tCB (fun xs H Q => ∃ p ys, xs = [.ref p] ∧ (SqL K H p ys ∨ SqT K H p ys) ∧ Q (.int ys.length) H) (tCons (tFld K (tDGet (tFld K (tVar 0) "copies") (tVar 3)) "records") tNil)) rfl scMF.nd rfl rfl (sw_true rfl rfl rfl (by decide +kernel)) (pi_list (pf 0)) (blkOk_by (N := nMF) (sc := defScope (sRM 3)) (by decide +kernel))
          (fun _ _ _ _ _ => pg_name (i := 3) scMF.nd rfl (Or.inl rfl)) (fun _ _ _ _ _ => pts_nil) (fun _ _ _ _ _ => pe_callB call_len_seq (by rfl) T.len PySem.boot_len (pa_cons (pe_fld (pe_dget hu1 (pf 0) (pv 3) (fun _ _ => rfl)) (by rfl)) pa_nil)))
      (pss_cons (ps_set (i := 2) scMF.nd rfl (Or.inl rfl) (pe_dget hu1 (pf 0) (pf 0) (fun _ _ => rfl)))
      (pss_one (ps_fld (pv 2) (pe_callB (call_max2 rfl) (by rfl) T.max (by decide +kernel) (pa_cons (pf 2) (pa_cons (pe_callB (cr_min rfl) (by rfl) T.min (by decide +kernel) (pa_cons (pv 1) pa_nil)) pa_nil))) rfl)))) pss_nil), ?_⟩
    refine ⟨_, rfl, g, CR, dx, _, _, rfl, ho, B.cl, B.nL, rfl, _, rfl, ?_⟩
    rw [ldV_non]
    cases e : st.leader with
    | none =>
      have ef : firmed st = st := by unfold firmed; rw [e]
      rw [ef] at fin
      exact ifF (by simp) (fin H (ExG.of (Ex.refl _)) x)
    | some l =>
      rw [e] at ho
      have hln := x.ln l e
      refine ifT (by simp) ?_
      refine ⟨_, rfl, g, CR, dx, _, _, rfl, ho, B.cl, B.nK, rfl, kl, rfl, ⟨_, SqL.of x.k⟩, fun D hD => ?_⟩
      refine lcG walk_list RInt (fun j => st.keep[j]?.bind fun n => some (((st.lg n).length : Nat) : Int)) RInt.stab hD (by rw [List.length_map]; have := x.k9; omega) (fun H5 e5 => SqL.of (e5 _ _ x.k)) (fun i H5 x H6 _ _ h => yat_ex h) (fun j v H5 H6 R0 N0 hj e5 hy hno hsm => ?_) (fun H1 xs e1 hx1 hps => ?_)
      · obtain ⟨rfl, hxi⟩ := hy
        rw [List.getElem?_map] at hxi
        obtain ⟨n, hn, rfl⟩ := Option.map_eq_some_iff.mp hxi
        have hnn := x.kn n (List.mem_of_getElem? hn)
        have x5 := x.ex e5
        obtain ⟨dn, hcn⟩ := (x5.cp n hnn).o
        obtain ⟨us, hus, hes⟩ := (x5.cp n hnn).r
        refine ⟨rfl, _, rfl, g, CR, dx, _, _, rfl, e5 _ _ ho, B.cl, B.nC, rfl, _, rfl, dc, _, rfl, x5.get hnn, ca n, CC, dn, _, _, rfl, hcn, BC.cl, BC.nR, rfl, la n, _, rfl, .inl (SqL.of hus), ?_⟩
        refine hsm _ (by rw [hn]; rfl) _ _ (Ex.refl _) ?_
        show V.int _ = V.int _
        rw [List.length_map, paired_len hes]
      · rw [List.length_map, range_fm, map_fm] at hps
        rw [rint_map hps] at hx1
        have x1 := x.ex e1
        obtain ⟨dn, hcn⟩ := (x1.cp l hln).o
        obtain ⟨us, hus, hes⟩ := (x1.cp l hln).r
        have ho1 := e1 _ _ ho
        refine ⟨_, rfl, g, CR, dx, _, _, rfl, ho1, B.cl, B.nC, rfl, _, rfl, g, CR, dx, _, _, rfl, ho1, B.cl, B.nL, rfl, dc, _, rfl, x1.get hln, ?_⟩
        refine ⟨_, rfl, ca l, CC, dn, _, _, rfl, hcn, BC.cl, BC.nF, rfl, _, rfl, D, _, rfl, SqL.of hx1, ?_, fun mn hmn hle => ⟨_, _, rfl, _, rfl, ca l, CC, dn, _, rfl, hcn, BC.cl, BC.nF, (by show 3 < 1000; decide), ?_⟩⟩
        · rw [List.length_map]
          exact List.length_pos_iff.mpr k0
        · have em := minL_spec hmn hle
          have x2 := x1.setC hln (dx := dn) (l := la l) (c := st.lg l) (f := max (st.firm l) (minL st)) (u := st.up l) hus hes (.inl rfl) (x.lt l hln)
          rw [set_self, set_self, set_self] at x2
          have ef : firmed st = { st with firm := Q6.set st.firm l (max (st.firm l) (minL st)) } := by unfold firmed; rw [e]
          rw [ef] at fin
          have ev : (if mn > ((st.firm l : Nat) : Int) then mn else ((st.firm l : Nat) : Int)) = ((max (st.firm l) (minL st) : Nat) : Int) := by
            rw [em]
            split <;> omega
          have ep : putF "firm" (V.int (if mn > ((st.firm l : Nat) : Int) then mn else ((st.firm l : Nat) : Int))) (cF (la l) (st.firm l : Nat) (st.up l)) = cF (la l) ((max (st.firm l) (minL st) : Nat)) (st.up l) := by rw [ev]; rfl
          rw [ep]
          refine fin _ ⟨fun b o h h1 h2 => ?_, fun b h => none_of e1 (none_upd hcn h)⟩ x2
          rw [L2.upd_ne (h2 l hln).1]
          exact e1 _ _ h
end
end K6
set_option Elab.async false
set_option linter.all false
set_option maxRecDepth 100000
set_option maxHeartbeats 4000000
namespace K6
open PySem PySem.Spec PyProof.Rows L2 KB KC KS LamX R8 Q6
section
variable {CR CC : Addr} {names : List Str} {least : Int} {g dc kl : Addr} {ca la : Str → Addr} {s : Rp Str} {H H' : Hp}
theorem Grp.push (x : Grp CR CC names least g dc kl ca la s H) {n : Str} (hn : n ∈ names) {c : Lg} {us : List Addr} (he : Es H us c) (hc : c.length ≤ 900) :
    Grp CR CC names least g dc kl ca la { s with lg := Q6.set s.lg n c } (upd H (la n) (.lst (us.map V.ref))) := by
  obtain ⟨dg, ho⟩ := x.o
  obtain ⟨us0, hl0, _⟩ := (x.cp n hn).r
  have kt : KT' H (upd H (la n) (.lst (us.map V.ref))) := fun b xs h => by rw [L2.upd_ne (ne_of h hl0 (fun z => nomatch z))]; exact h
  have ni : ∀ {b : Addr} {o : HO}, H b = some o → (∀ xs, o ≠ .lst xs) → (upd H (la n) (.lst (us.map V.ref))) b = some o := fun h k => by rw [L2.upd_ne (fun z => by rw [z, hl0] at h; exact k _ (Option.some.inj h).symm)]; exact h
  refine ⟨⟨dg, ni ho (fun _ z => nomatch z)⟩, ni x.d (fun _ z => nomatch z), by rw [L2.upd_ne (x.ik n hn).symm]; exact x.k, fun m hm => ?_, x.ic, x.il, x.ig, x.ik, x.kn, x.ln, x.k9, x.n9, fun m hm => ?_, x.ns⟩
  · show CopyAt CC _ (ca m) (la m) (Q6.set s.lg n c m) (s.firm m) (s.up m)
    obtain ⟨dm, h3⟩ := (x.cp m hm).o
    by_cases e : m = n
    · subst e
      rw [set_same]
      exact ⟨⟨dm, ni h3 (fun _ z => nomatch z)⟩, us, upd_same, he.kt kt⟩
    · rw [set_ne e]
      obtain ⟨us', h1, h2⟩ := (x.cp m hm).r
      exact ⟨⟨dm, ni h3 (fun _ z => nomatch z)⟩, us', by rw [L2.upd_ne (fun z => e (x.il m hm n hn z))]; exact h1, h2.kt kt⟩
  · show (Q6.set s.lg n c m).length ≤ 900
    by_cases e : m = n
    · rw [e, set_same]; exact hc
    · rw [set_ne e]; exact x.lt m hm
end
@[irreducible] def spAppend (CR CC CE : Addr) : Sp := fun vs H Q E => ∃ (names : List Str) (least : Int) (g dc kl r : Addr) (ca la : Str → Addr) (s : Rp Str) (x : Int), vs = [.ref g, .ref r] ∧ Grp CR CC names least g dc kl ca la s H ∧ H r = some (.tup [.str "row", .int x]) ∧ s.keep ≠ [] ∧ (∀ n ∈ names, (s.lg n).length < 900) ∧
  (s.leader = none ∨ (s.keep.length : Int) < least → E (.ref CE) none H) ∧
  (∀ l, s.leader = some l → least ≤ (s.keep.length : Int) → ∀ H', ExG g names ca la H H' → Grp CR CC names least g dc kl ca la (firmed { s with lg := Q6.set s.lg l (s.lg l ++ [(s.time, x)]) }) H' → Q (.int ((s.lg l).length : Nat)) H')
@[irreducible] def spKept (CR CC CE : Addr) : Sp := fun vs H Q E => ∃ (names : List Str) (least : Int) (g dc kl : Addr) (ca la : Str → Addr) (s : Rp Str) (p : Int), vs = [.ref g, .int p] ∧ Grp CR CC names least g dc kl ca la s H ∧ (s.leader = none → E (.ref CE) none H) ∧ (∀ l, s.leader = some l → Q (.bl (decide (p < ((s.firm l : Nat) : Int)))) H)
section
variable {P : Program} {w : World} {K : PySem.W.Frag} {mg : Str → Option Value} {base : Heap} {CR CC CE f fL fM fEd : Addr} {fd fdL fdM fdEd : FuncData}
theorem append_step {names : List Str} {least : Int} {g dc kl r : Addr} {ca la : Str → Addr} {s : Rp Str} {H : Hp} {x : Int} {Q : VK} {E : XK} (h : Grp CR CC names least g dc kl ca la s H) (hr : H r = some (.tup [.str "row", .int x])) (k0 : s.keep ≠ []) (hlt : ∀ n ∈ names, (s.lg n).length < 900)
    (bad : s.leader = none ∨ (s.keep.length : Int) < least → E (.ref CE) none H) (fin : ∀ l, s.leader = some l → least ≤ (s.keep.length : Int) → ∀ H', ExG g names ca la H H' → Grp CR CC names least g dc kl ca la (firmed { s with lg := Q6.set s.lg l (s.lg l ++ [(s.time, x)]) }) H' → Q (.int ((s.lg l).length : Nat)) H') : spAppend CR CC CE [.ref g, .ref r] H Q E := by
  unfold spAppend
  exact ⟨names, least, g, dc, kl, r, ca, la, s, x, rfl, h, hr, k0, hlt, bad, fin⟩
theorem kept_step {names : List Str} {least : Int} {g dc kl : Addr} {ca la : Str → Addr} {s : Rp Str} {H : Hp} {p : Int} {Q : VK} {E : XK} (h : Grp CR CC names least g dc kl ca la s H) (bad : s.leader = none → E (.ref CE) none H) (fin : ∀ l, s.leader = some l → Q (.bl (decide (p < ((s.firm l : Nat) : Int)))) H) : spKept CR CC CE [.ref g, .int p] H Q E := by
  unfold spKept
  exact ⟨names, least, g, dc, kl, ca, la, s, p, rfl, h, bad, fin⟩
abbrev nAp : List Str := ["self", "row", "leader"]
theorem scAp : FnScope nAp ["self", "row"] (defScope (sRM 2)) := ⟨rfl, rfl, rfl, by decide +kernel, rfl, by decide +kernel, by decide +kernel⟩
theorem ok_append (F : FnP K "append" "Replicas.append" (sRM 2) [] f fd) (B : TxtR K mg CR) (BC : TxtC K mg CC) (J : TxtX K mg CE) (T : TxtL mg) (FL : FnP K "leading" "Replicas.leading" (sRM 1) [] fL fdL) (mL : Meth K CR "leading" fL) (FM : FnP K "make_firm" "Replicas.make_firm" (sRM 3) [] fM fdM) (mM : Meth K CR "make_firm" fM) :
    FnOk P w K mg base (L2.CX P w) 2 f fd ["self", "row"] (spAppend CR CC CE) := by
  have GL : FnOk P w K mg base (L2.CX P w) 1 fL fdL ["self"] (spLeading CR CC CE) := ok_leading FL B J
  have GM : FnOk P w K mg base CX0 1 fM fdM ["self"] (spFirmG CR CC) := ok_firmG FM B BC T
  have bL : Binds K fdL ["self"] [] := FL.bindsN fun _ _ _ _ _ _ us hl => match us, hl with | [_], _ => rfl
  have bM : Binds K fdM ["self"] [] := FM.bindsN fun _ _ _ _ _ _ us hl => match us, hl with | [_], _ => rfl
  refine F.ok scAp (fun vs H Q E h => ?_) (fun cdv A outer s H vs Q E hr h => ?_)
  · unfold spAppend at h
    obtain ⟨_, _, _, _, _, _, _, _, _, _, rfl, _⟩ := h; rfl
  · unfold spAppend at h
    obtain ⟨names, least, g, dc, kl, r, ca, la, st, x, rfl, hg, hrow, k0, hlt, bad, good⟩ := h
    have hu := hr.units
    obtain ⟨dx, ho⟩ := hg.o
    refine ⟨_, pss_cons (ps_set (i := 2) scAp.nd rfl (Or.inl rfl) (pe_meth0 (CX := L2.CX P w) (pv 0) B.cl mL GL hr bL .nil (passes_call (takes_of rfl rfl rfl rfl) (fun _ _ _ _ h => h))))
      (pss_cons (ps_if (pt_cmpR op_lt (pe_callB call_len_seq (by rfl) T.len PySem.boot_len (pa_cons (pf 0) pa_nil)) (pf 0) (nomark _)) (pss_one (ps_raise rfl (takes_of rfl rfl rfl rfl) (pmk_own PySem.F.excBase_ValueError J.x J.g J.k (raises_own J.b J.t) rfl))) pss_nil)
      (PSs.nox <| pss_cons (ps_expr (pe_bm PySem.F.plainAttrs_list PySem.F.slot_list_append PySem.F.type_list_append mt_append (pf 2) (pa_cons (pe_tup (pa_cons (pf 0) (pa_cons (pv 1) pa_nil))) pa_nil)))
      (pss_cons (ps_expr (pe_meth0 (pv 0) B.cl mM GM hr bM .nil pass0))
      (pss_one (ps_ret (pe_op op_sub (pe_callB call_len_seq (by rfl) T.len PySem.boot_len (pa_cons (pf 2) pa_nil)) pe_int)))))), ?_⟩
    refine ⟨_, rfl, g, dx, _, rfl, ho, gF_m (by decide +kernel) (by decide +kernel) (by decide +kernel) (by decide +kernel) (by decide +kernel), leading_step hg (fun e => bad (.inl e)) fun l hl => ?_⟩
    have hln := hg.ln l hl
    refine ⟨_, rfl, g, CR, dx, _, _, rfl, ho, B.cl, B.nK, rfl, kl, _, rfl, .inl (SqL.of hg.k), _, rfl, g, CR, dx, _, _, rfl, ho, B.cl, B.nS, rfl, _, _, rfl, rfl, _, rfl, ?_⟩
    rw [List.length_map]
    by_cases c : (st.keep.length : Int) < least
    · rw [decide_eq_true c]
      exact iteT (bad (.inr c))
    · rw [decide_eq_false c]
      refine iteF ?_
      obtain ⟨dl, hcl⟩ := (hg.cp l hln).o
      obtain ⟨us, hus, hes⟩ := (hg.cp l hln).r
      have hlen := paired_len hes
      have hl9 := hlt l hln
      have two : 2 ≤ sizeLine := by decide
      refine ⟨_, rfl, ca l, CC, dl, _, _, rfl, hcl, BC.cl, BC.nR, rfl, .inl ⟨rfl, _, SqL.of hus⟩, _, rfl, g, CR, dx, _, _, rfl, ho, B.cl, B.nT, rfl, _, rfl, two, fun t ht => ?_⟩
      have e1 : Ex H (upd H t (.tup [.int st.time, .ref r])) := Ex.upd ht
      have h1 : (upd H t (.tup [.int st.time, .ref r])) t = some (.tup [.int st.time, .ref r]) := upd_same
      generalize upd H t (.tup [.int st.time, .ref r]) = H1 at e1 h1
      have hsl : sizeLine = 16777216 := rfl
      refine ⟨la l, _, _, rfl, rfl, e1 _ _ hus, by rw [List.length_map]; omega, ?_⟩
      have g1 := hg.ex e1
      have he1 : Es H1 (us ++ [t]) (st.lg l ++ [(st.time, x)]) := paired_snoc' (hes.kt fun b xs h => e1 _ _ h) ⟨r, h1, e1 _ _ hrow⟩
      have g2 := g1.push hln he1 (by rw [List.length_append]; show (st.lg l).length + 1 ≤ 900; omega)
      have em : us.map V.ref ++ [V.ref t] = (us ++ [t]).map V.ref := by rw [List.map_append]; rfl
      rw [em]
      have x2 : ExG g names ca la H (upd H1 (la l) (.lst ((us ++ [t]).map V.ref))) := ⟨fun b o h n1 n2 => by rw [L2.upd_ne (n2 l hln).2]; exact e1 _ _ h, fun b h => none_of e1 (none_upd (e1 _ _ hus) h)⟩
      generalize upd H1 (la l) (.lst ((us ++ [t]).map V.ref)) = H2 at g2 x2
      obtain ⟨dx2, ho2⟩ := g2.o
      refine ⟨_, rfl, g, dx2, _, rfl, ho2, gF_m (by decide +kernel) (by decide +kernel) (by decide +kernel) (by decide +kernel) (by decide +kernel), firmG_step g2 k0 fun H3 x3 g3 => ?_⟩
      obtain ⟨dl3, hcl3⟩ := (g3.cp l hln).o
      obtain ⟨us3, hus3, hes3⟩ := (g3.cp l hln).r
      refine ⟨_, rfl, ca l, CC, dl3, _, _, rfl, hcl3, BC.cl, BC.nR, rfl, la l, _, rfl, .inl (SqL.of hus3), _, _, rfl, rfl, ?_⟩
      have hl3 : (firmed { st with lg := Q6.set st.lg l (st.lg l ++ [(st.time, x)]) }).lg l = st.lg l ++ [(st.time, x)] := by
        unfold firmed
        show (match st.leader with | some l' => _ | none => _ : Rp Str).lg l = _
        rw [hl]
        exact set_same
      have hn3 := paired_len hes3
      rw [hl3, List.length_append] at hn3
      have hi : ((us3.map V.ref).length : Int) - 1 = ((st.lg l).length : Nat) := by
        rw [List.length_map, hn3]
        show (((st.lg l).length + 1 : Nat) : Int) - 1 = _
        omega
      show Q (V.int (((us3.map V.ref).length : Int) - 1)) H3
      rw [hi]
      exact good l hl (by omega) H3 (x2.trans LaN.refl x3) g3
theorem scKp : FnScope ["self", "place"] ["self", "place"] (defScope (sRM 4)) := ⟨rfl, rfl, rfl, by decide +kernel, rfl, by decide +kernel, by decide +kernel⟩
theorem ok_kept (F : FnP K "is_kept" "Replicas.is_kept" (sRM 4) [] f fd) (B : TxtR K mg CR) (BC : TxtC K mg CC) (J : TxtX K mg CE) (FL : FnP K "leading" "Replicas.leading" (sRM 1) [] fL fdL) (mL : Meth K CR "leading" fL) :
    FnOk P w K mg base (L2.CX P w) 2 f fd ["self", "place"] (spKept CR CC CE) := by
  have GL : FnOk P w K mg base (L2.CX P w) 1 fL fdL ["self"] (spLeading CR CC CE) := ok_leading FL B J
  have bL : Binds K fdL ["self"] [] := FL.bindsN fun _ _ _ _ _ _ us hl => match us, hl with | [_], _ => rfl
  refine F.ok scKp (fun vs H Q E h => ?_) (fun cdv A outer s H vs Q E hr h => ?_)
  · unfold spKept at h
    obtain ⟨_, _, _, _, _, _, _, _, _, rfl, _⟩ := h; rfl
  · unfold spKept at h
    obtain ⟨names, least, g, dc, kl, ca, la, st, p, rfl, hg, bad, good⟩ := h
    obtain ⟨dx, ho⟩ := hg.o
    refine ⟨_, pss_one (ps_ret (pe_cmpR op_lt (pv 1) (pe_fld (pe_meth0 (CX := L2.CX P w) (pv 0) B.cl mL GL hr bL .nil (passes_call (takes_of rfl rfl rfl rfl) (fun _ _ _ _ h => h))) (by rfl)) (nomark _))), ?_⟩
    refine ⟨_, rfl, _, rfl, g, dx, _, rfl, ho, gF_m (by decide +kernel) (by decide +kernel) (by decide +kernel) (by decide +kernel) (by decide +kernel), leading_step hg bad fun l hl => ?_⟩
    obtain ⟨dl, hcl⟩ := (hg.cp l (hg.ln l hl)).o
    refine ⟨ca l, CC, dl, _, _, rfl, hcl, BC.cl, BC.nF, rfl, _, _, rfl, rfl, good l hl⟩
end
end K6
set_option Elab.async false
set_option linter.all false
set_option maxRecDepth 100000
set_option maxHeartbeats 4000000
namespace K6
open PySem PySem.Spec PyProof.Rows L2 KB KC KS LamX R8 Q6
def CutP (f l : Lg) (t : Int) (p : Nat) : Prop := (∃ tm mine theirs, Found f l tm mine theirs ∧ p = min mine theirs) ∧ ∀ m, m ≤ f.length → Past f l m t → m ≤ p
@[irreducible] def spCut (CR CC : Addr) : Sp := fun vs H Q _ => ∃ (names : List Str) (least : Int) (g dc kl : Addr) (ca la : Str → Addr) (s : Rp Str) (n l : Str), vs = [.ref g, .ref (ca n)] ∧ Grp CR CC names least g dc kl ca la s H ∧ n ∈ names ∧ s.leader = some l ∧ Tm s.time (s.lg n) ∧ Tm s.time (s.lg l) ∧ 0 ≤ s.time ∧
  ∀ H' q p, H q = none → ExG g names ca la H H' → Grp CR CC names least g dc kl ca (Q6.set la n q) { s with lg := Q6.set s.lg n ((s.lg n).take p) } H' → CutP (s.lg n) (s.lg l) s.time p → Q .non H'
theorem cut_step {CR CC : Addr} {names : List Str} {least : Int} {g dc kl : Addr} {ca la : Str → Addr} {s : Rp Str} {H : Hp} {n l : Str} {Q : VK} {E : XK} (h : Grp CR CC names least g dc kl ca la s H) (hn : n ∈ names) (hl : s.leader = some l) (t1 : Tm s.time (s.lg n)) (t2 : Tm s.time (s.lg l)) (t0 : 0 ≤ s.time)
    (fin : ∀ H' q p, H q = none → ExG g names ca la H H' → Grp CR CC names least g dc kl ca (Q6.set la n q) { s with lg := Q6.set s.lg n ((s.lg n).take p) } H' → CutP (s.lg n) (s.lg l) s.time p → Q .non H') : spCut CR CC [.ref g, .ref (ca n)] H Q E := by
  unfold spCut
  exact ⟨names, least, g, dc, kl, ca, la, s, n, l, rfl, h, hn, hl, t1, t2, t0, fin⟩
theorem end_step {C : Addr} {H : Hp} {a l : Addr} {c : Lg} {f : Nat} {u : Bool} {t : Int} {Q : VK} {E : XK} (x : CopyAt C H a l c f u) (hc : c.length ≤ 1000) (fin : ∀ H' q, Ex H H' → H' q = some (.tup [.int (endOf c t).1, .int ((endOf c t).2 : Nat)]) → Q (.ref q) H') : spEnd C [.ref a, .int t] H Q E := by
  obtain ⟨⟨dx, h1⟩, us, h2, h3⟩ := x
  unfold spEnd
  exact ⟨a, dx, l, f, t, u, us, c, rfl, h1, h2, h3.ts, hc, fin⟩
theorem paired_take {α β : Type} {R : α → β → Prop} : ∀ {l : List α} {m : List β} (k : Nat), Paired R l m → Paired R (l.take k) (m.take k)
  | _, _, 0, _ => by rw [List.take_zero, List.take_zero]; exact .nil
  | _, _, _ + 1, .nil => .nil
  | _, _, k + 1, .cons h t => by rw [List.take_succ_cons, List.take_succ_cons]; exact .cons h (paired_take k t)
theorem paired_drop {α β : Type} {R : α → β → Prop} : ∀ {l : List α} {m : List β} (k : Nat), Paired R l m → Paired R (l.drop k) (m.drop k)
  | _, _, 0, h => h
  | _, _, _ + 1, .nil => .nil
  | _, _, k + 1, .cons _ t => by rw [List.drop_succ_cons, List.drop_succ_cons]; exact paired_drop k t
theorem cutV_take (xs : List V) (k : Nat) : cutV xs none (some (k : Int)) = xs.take k := by
  unfold cutV
  rw [HT.sIx_none, HT.sIx_nat, List.drop_zero, Nat.sub_zero, Nat.min_comm, List.take_eq_take_iff]
  omega
theorem cutV_seg (xs : List V) (b k : Nat) : cutV xs (some (b : Int)) (some ((b + k : Nat) : Int)) = (xs.drop b).take k := by
  unfold cutV
  rw [HT.sIx_nat, HT.sIx_nat]
  by_cases h : b ≤ xs.length
  · rw [Nat.min_eq_left h, List.take_eq_take_iff, List.length_drop]
    omega
  · rw [Nat.min_eq_right (show xs.length ≤ b by omega), List.drop_length, List.drop_eq_nil_of_le (by omega), List.take_nil, List.take_nil]
section
variable {P : Program} {w : World} {K : PySem.W.Frag} {mg : Str → Option Value} {base : Heap} {CR CC CE f fL fM fE : Addr} {fd fdL fdM fdE : FuncData}
abbrev nCt : List Str := ["self", "follower", "leader", "time", "mine", "found", "theirs"]
theorem scCt : FnScope nCt ["self", "follower"] (defScope (sRM 6)) := ⟨rfl, rfl, rfl, by decide +kernel, rfl, by decide +kernel, by decide +kernel⟩
theorem ok_cut (F : FnP K "cut" "Replicas.cut" (sRM 6) [] f fd) (B : TxtR K mg CR) (BC : TxtC K mg CC) (J : TxtX K mg CE) (T : TxtL mg) (FL : FnP K "leading" "Replicas.leading" (sRM 1) [] fL fdL) (mL : Meth K CR "leading" fL) (FE : FnP K "end_of" "Copy.end_of" (sCM 1) [] fE fdE) (mE : Meth K CC "end_of" fE) :
    FnOk P w K mg base CX0 2 f fd ["self", "follower"] (spCut CR CC) := by
  have GL : FnOk P w K mg base (L2.CX P w) 1 fL fdL ["self"] (spLeading CR CC CE) := ok_leading FL B J
  have GE : FnOk P w K mg base CX0 1 fE fdE ["self", "time"] (spEnd CC) := ok_end FE BC T
  have bL : Binds K fdL ["self"] [] := FL.bindsN fun _ _ _ _ _ _ us hl => match us, hl with | [_], _ => rfl
  have bE : Binds K fdE ["self", "time"] [] := FE.bindsN fun _ _ _ _ _ _ us hl => match us, hl with | [_, _], _ => rfl
  refine F.ok scCt (fun vs H Q E h => ?_) (fun cdv A outer s H vs Q E hr h => ?_)
  · unfold spCut at h
    obtain ⟨_, _, _, _, _, _, _, _, _, _, rfl, _⟩ := h; rfl
  · unfold spCut at h
    obtain ⟨names, least, g, dc, kl, ca, la, st, n, l, rfl, hg, hn, hl, tmn, tml, t0, fin⟩ := h
    have hu := hr.units
    obtain ⟨dx, ho⟩ := hg.o
    have hln := hg.ln l hl
    obtain ⟨dn, hcn⟩ := (hg.cp n hn).o
    obtain ⟨dl, hcl⟩ := (hg.cp l hln).o
    have pair : ∀ {q : Addr} {a b : V} {Hh : Hp}, Hh q = some (.tup [a, b]) → SqT K Hh q [a, b] := fun h => SqT.of h
    refine ⟨_, PSs.nox <| pss_cons (ps_set (i := 2) scCt.nd rfl (Or.inl rfl) (pe_meth0 (CX := L2.CX P w) (pv 0) B.cl mL GL hr bL .nil passL))
      (pss_cons (ps_asg (pe_meth (pv 1) BC.cl mE GE hr bE .nil pass0 (pa_cons (pf 0) pa_nil)) (pg_tup rfl (pgs_cons (pg_name (i := 3) scCt.nd rfl (Or.inl rfl)) (pgs_cons (pg_name (i := 4) scCt.nd rfl (Or.inl rfl)) pgs_nil))))
      (pss_cons (ps_asg (pe_meth (pv 2) BC.cl mE GE hr bE .nil pass0 (pa_cons (pv 3) pa_nil)) (pg_tup rfl (pgs_cons (pg_name (i := 5) scCt.nd rfl (Or.inl rfl)) (pgs_cons (pg_name (i := 6) scCt.nd rfl (Or.inl rfl)) pgs_nil))))
      (pss_cons (ps_while PassesOwn.never (pt_cmpR op_ne (pv 5) (pv 3) (nomark _))
        (pss_cons (ps_asg (pe_meth (pv 1) BC.cl mE GE hr bE .nil pass0 (pa_cons (pv 5) pa_nil)) (pg_tup rfl (pgs_cons (pg_name (i := 3) scCt.nd rfl (Or.inl rfl)) (pgs_cons (pg_name (i := 4) scCt.nd rfl (Or.inl rfl)) pgs_nil))))
        (pss_one (ps_asg (pe_meth (pv 2) BC.cl mE GE hr bE .nil pass0 (pa_cons (pv 3) pa_nil)) (pg_tup rfl (pgs_cons (pg_name (i := 5) scCt.nd rfl (Or.inl rfl)) (pgs_cons (pg_name (i := 6) scCt.nd rfl (Or.inl rfl)) pgs_nil)))))))
      (pss_one (ps_fld (pv 1) (pe_slice sl_list (pf 1) po_none (po_some (pe_callB (call_min2 rfl) (by rfl) T.min (by decide +kernel) (pa_cons (pv 4) (pa_cons (pv 6) pa_nil))))) rfl))))), ?_⟩
    have l9 : ∀ m ∈ names, (st.lg m).length ≤ 1000 := fun m hm => Nat.le_trans (hg.lt m hm) (by decide)
    refine ⟨_, rfl, g, dx, _, rfl, ho, gF_m (by decide +kernel) (by decide +kernel) (by decide +kernel) (by decide +kernel) (by decide +kernel), leading_step hg (fun z => by rw [hl] at z; cases z) fun l' hl' => ?_⟩
    obtain rfl : l' = l := by rw [hl] at hl'; exact (Option.some.inj hl').symm
    refine ⟨_, rfl, ca n, dn, _, rfl, hcn, cF_m (by decide +kernel) (by decide +kernel) (by decide +kernel), _, rfl, g, CR, dx, _, _, rfl, ho, B.cl, B.nT, rfl, end_step (hg.cp n hn) (l9 n hn) fun H1 q1 e1 h1 => ?_⟩
    refine ⟨q1, _, rfl, pair h1, rfl, _, _, rfl, _, _, rfl, rfl, ?_⟩
    have g1 := hg.ex e1
    refine ⟨_, rfl, ca l', dl, _, rfl, e1 _ _ hcl, cF_m (by decide +kernel) (by decide +kernel) (by decide +kernel), _, rfl, end_step (g1.cp l' hln) (l9 l' hln) fun H2 q2 e2 h2 => ?_⟩
    refine ⟨q2, _, rfl, pair h2, rfl, _, _, rfl, _, _, rfl, rfl, ?_⟩
    refine while_by (fun σ H3 => ∃ (s0 tm fd : Int) (mine theirs : Nat), σ = [some (.ref g), some (.ref (ca n)), some (.ref (ca l')), some (.int tm), some (.int (mine : Int)), some (.int fd), some (.int (theirs : Int))] ∧ Ex H H3 ∧ endOf (st.lg n) s0 = (tm, mine) ∧ endOf (st.lg l') tm = (fd, theirs) ∧ 0 ≤ tm ∧ ∀ m, m ≤ (st.lg n).length → Past (st.lg n) (st.lg l') m st.time → Past (st.lg n) (st.lg l') m s0)
      (fun σ _ => match σ with | [_, _, _, some (.int tm), _, _, _] => tm.toNat | _ => 0) ⟨st.time, (endOf (st.lg n) st.time).1, (endOf (st.lg l') (endOf (st.lg n) st.time).1).1, (endOf (st.lg n) st.time).2, (endOf (st.lg l') (endOf (st.lg n) st.time).1).2, rfl, e1.trans e2, rfl, rfl, endOf_nn tmn, fun _ _ h => h⟩ ?_ ?_
    · rintro σ H3 ⟨s0, tm, fd, mine, theirs, rfl, e3, hE1, hE2, tm0, past⟩
      have g3 := hg.ex e3
      refine ⟨_, rfl, _, rfl, rfl, _, rfl, ?_⟩
      by_cases c : fd = tm
      · subst c
        refine ite2 (fun z => by simp at z) (fun _ => ?_)
        obtain ⟨us, hus, hes⟩ := (g3.cp n hn).r
        refine ⟨_, rfl, ca n, CC, dn, _, _, rfl, e3 _ _ hcn, BC.cl, BC.nR, rfl, ?_⟩
        refine ⟨_, rfl, _, rfl, _, _, rfl, _, rfl, la n, _, rfl, SqL.of hus, fun q hq => ?_⟩
        have ek : (if ((theirs : Nat) : Int) < ((mine : Nat) : Int) then ((theirs : Nat) : Int) else ((mine : Nat) : Int)) = ((min mine theirs : Nat) : Int) := by
          split <;> omega
        rw [ek, cutV_take, ← List.map_take]
        have e4 : Ex H3 (upd H3 q (.lst ((us.take (min mine theirs)).map V.ref))) := Ex.upd hq
        have h4 : (upd H3 q (.lst ((us.take (min mine theirs)).map V.ref))) q = some (.lst ((us.take (min mine theirs)).map V.ref)) := upd_same
        generalize upd H3 q (.lst ((us.take (min mine theirs)).map V.ref)) = H4 at e4 h4
        have g4 := g3.ex e4
        have he4 : Es H4 (us.take (min mine theirs)) ((st.lg n).take (min mine theirs)) := paired_take _ (hes.kt fun b xs h => e4 _ _ h)
        have nq : ∀ m ∈ names, la m ≠ q := fun m hm z => by
          obtain ⟨us', h', _⟩ := (g3.cp m hm).r
          rw [z, hq] at h'
          cases h'
        have nk : q ≠ kl := fun z => by
          have := g3.k
          rw [← z, hq] at this
          cases this
        have g5 := g4.setC hn (dx := dn) (l := q) (c := (st.lg n).take (min mine theirs)) (f := st.firm n) (u := st.up n) h4 he4 (.inr ⟨nq, nk⟩) (by rw [List.length_take]; have := hg.lt n hn; omega)
        rw [set_self, set_self] at g5
        have hcn4 := e4 _ _ (e3 _ _ hcn)
        refine ⟨_, rfl, ca n, CC, dn, _, rfl, hcn4, BC.cl, BC.nR, (by show 3 < 1000; decide), ?_⟩
        refine fin _ q (min mine theirs) (none_of e3 hq) ⟨fun b o h h1 h2 => ?_, fun b h => none_of e3 (none_of e4 (none_upd hcn4 h))⟩ g5 ⟨⟨_, mine, theirs, ⟨⟨s0, hE1⟩, hE2⟩, rfl⟩, fun m hm hp => ?_⟩
        · rw [L2.upd_ne (h2 n hn).1]
          exact e4 _ _ (e3 _ _ h)
        · exact (past m hm hp).keeps tmn tml hm hE1 hE2
      · refine ite2 (fun _ => ?_) (fun z => absurd z (by simp [c]))
        have hle := endOf_le (st.lg l') tm0
        rw [hE2] at hle
        have hlt : fd < tm := by
          have : fd ≤ tm := hle
          omega
        have fd0 : 0 ≤ fd := by
          have := endOf_nn (t := tm) tml
          rw [hE2] at this
          exact this
        refine ⟨_, rfl, ca n, dn, _, rfl, e3 _ _ hcn, cF_m (by decide +kernel) (by decide +kernel) (by decide +kernel), _, rfl, end_step (g3.cp n hn) (l9 n hn) fun H4 q4 e4 h4 => ?_⟩
        refine ⟨q4, _, rfl, pair h4, rfl, _, _, rfl, _, _, rfl, rfl, ?_⟩
        have g4 := g3.ex e4
        refine ⟨_, rfl, ca l', dl, _, rfl, e4 _ _ (e3 _ _ hcl), cF_m (by decide +kernel) (by decide +kernel) (by decide +kernel), _, rfl, end_step (g4.cp l' hln) (l9 l' hln) fun H5 q5 e5 h5 => ?_⟩
        refine ⟨q5, _, rfl, pair h5, rfl, _, _, rfl, _, _, rfl, rfl, ?_⟩
        have hle2 : (endOf (st.lg n) fd).1 ≤ fd := endOf_le _ fd0
        have h50 : 0 ≤ (endOf (st.lg n) fd).1 := endOf_nn tmn
        refine ⟨⟨fd, _, _, _, _, rfl, (e3.trans e4).trans e5, rfl, rfl, h50, fun m hm hp => ?_⟩, ?_⟩
        · have := (past m hm hp).step tmn tml
          rw [hE1, hE2] at this
          exact this
        · show ((endOf (st.lg n) fd).1).toNat < tm.toNat
          omega
    · rintro σ H Q Q' imp ⟨x, hx, y, hy, e1, k, e2, q⟩
      exact ⟨x, hx, y, hy, e1, k, e2, imp _ _ q⟩
end
end K6
set_option Elab.async false
set_option linter.all false
set_option maxRecDepth 100000
set_option maxHeartbeats 4000000
namespace K6
open PySem PySem.Spec PyProof.Rows L2 KB KC KS LamX R8 Q6
theorem set_set {α β : Type} [DecidableEq α] {f : α → β} {a : α} {b c : β} : Q6.set (Q6.set f a b) a c = Q6.set f a c := by
  funext x
  unfold Q6.set
  split <;> rfl
theorem nodup_len : ∀ {l m : List Str}, l.Nodup → (∀ x ∈ l, x ∈ m) → l.length ≤ m.length
  | [], _, _, _ => Nat.zero_le _
  | x :: l, m, h, k => by
    have hx := k x List.mem_cons_self
    rw [List.nodup_cons] at h
    have := nodup_len (m := m.erase x) h.2 fun y hy => (List.mem_erase_of_ne (fun z => h.1 (by rw [← z]; exact hy))).mpr (k y (List.mem_cons_of_mem _ hy))
    rw [List.length_erase_of_mem hx] at this
    have := List.length_pos_of_mem hx
    rw [List.length_cons]
    omega
theorem inV_strs (n : Str) (l : List Str) : inV (V.str n) (l.map V.str) = decide (n ∈ l) := by
  unfold inV
  rw [List.any_map, Bool.eq_iff_iff, List.any_eq_true, decide_eq_true_eq]
  constructor
  · rintro ⟨x, hx, h⟩
    have : (x == n) = true := h
    rw [← eq_of_beq this]
    exact hx
  · intro h
    exact ⟨n, h, by show (n == n) = true; exact beq_self_eq_true n⟩
theorem flat_strs (l : List Str) : (l.map V.str).all flatV = true := by
  rw [List.all_map, List.all_eq_true]
  intro x _
  rfl
theorem str_len (a b : Str) : (a ++ b).length = a.length + b.length := by
  show (a.cps ++ b.cps).size = _
  rw [Array.size_append]
  rfl
theorem js_name {i : Nat} {txt n : Str} {σ : L2.St} {H : Hp} {R : Str → Hp → Prop} (hs : σ[i]? = some (some (.str n))) (hn : n.length ≤ 900) (ht : txt.length ≤ 100) (r : ∀ out, R out H) : tJs [tFmt (tVar i), tC (V.str txt)] Str.empty σ H R := by
  have hsl : sizeLine = 16777216 := rfl
  have e0 : Str.empty.length = 0 := rfl
  refine ⟨_, hs, .inl ⟨n, rfl, by omega, n, rfl, by rw [str_len, e0]; omega, _, rfl, by rw [str_len, str_len, e0]; omega, r _⟩⟩
def pullS (s : Rp Str) (n l : Str) (c : Lg) (keep : List Str) : Rp Str :=
  { firmed { s with lg := Q6.set s.lg n c, keep := keep } with firm := Q6.set (firmed { s with lg := Q6.set s.lg n c, keep := keep }).firm n (min ((firmed { s with lg := Q6.set s.lg n c, keep := keep }).firm l) c.length) }
theorem firmed_lg {s : Rp Str} : (firmed s).lg = s.lg := by unfold firmed; split <;> rfl
theorem firmed_up {s : Rp Str} : (firmed s).up = s.up := by unfold firmed; split <;> rfl
def pullL (f l : Lg) (p : Nat) (many : Int) : Lg := f.take p ++ (l.drop (f.take p).length).take many.toNat
def Join (keep : List Str) (n : Str) (c l : Lg) (keep' : List Str) : Prop := if c.length = l.length ∧ n ∉ keep then keep'.Perm (keep ++ [n]) ∧ sortedS keep' = true else keep' = keep
@[irreducible] def spPull (CR CC CE : Addr) : Sp := fun vs H Q E => ∃ (names : List Str) (least : Int) (g dc kl : Addr) (ca la : Str → Addr) (s : Rp Str) (n : Str) (many : Int), vs = [.ref g, .str n, .int many] ∧ Grp CR CC names least g dc kl ca la s H ∧ n.length ≤ 900 ∧ s.keep ≠ [] ∧ s.keep.Nodup ∧ (∀ m ∈ names, Tm s.time (s.lg m)) ∧ 0 ≤ s.time ∧
  (s.leader = none ∨ n ∉ names ∨ s.leader = some n ∨ s.up n = false → E (.ref CE) none H) ∧
  (∀ l, s.leader = some l → n ∈ names → n ≠ l → s.up n = true → ∀ H' kl' la' p keep', (kl' = kl ∨ H kl' = none) → LaN names la la' H → ExG g names ca la H H' → CutP (s.lg n) (s.lg l) s.time p → Join s.keep n (pullL (s.lg n) (s.lg l) p many) (s.lg l) keep' →
    Grp CR CC names least g dc kl' ca la' (pullS s n l (pullL (s.lg n) (s.lg l) p many) keep') H' → Q .non H')
section
variable {P : Program} {w : World} {K : PySem.W.Frag} {mg : Str → Option Value} {base : Heap} {CR CC CE f fL fM fE fC : Addr} {fd fdL fdM fdE fdC : FuncData}
theorem pull_step {names : List Str} {least : Int} {g dc kl : Addr} {ca la : Str → Addr} {s : Rp Str} {H : Hp} {n : Str} {many : Int} {Q : VK} {E : XK} (h : Grp CR CC names least g dc kl ca la s H) (hn9 : n.length ≤ 900) (k0 : s.keep ≠ []) (kd : s.keep.Nodup) (tm : ∀ m ∈ names, Tm s.time (s.lg m)) (t0 : 0 ≤ s.time)
    (bad : s.leader = none ∨ n ∉ names ∨ s.leader = some n ∨ s.up n = false → E (.ref CE) none H)
    (fin : ∀ l, s.leader = some l → n ∈ names → n ≠ l → s.up n = true → ∀ H' kl' la' p keep', (kl' = kl ∨ H kl' = none) → LaN names la la' H → ExG g names ca la H H' → CutP (s.lg n) (s.lg l) s.time p → Join s.keep n (pullL (s.lg n) (s.lg l) p many) (s.lg l) keep' →
      Grp CR CC names least g dc kl' ca la' (pullS s n l (pullL (s.lg n) (s.lg l) p many) keep') H' → Q .non H') : spPull CR CC CE [.ref g, .str n, .int many] H Q E := by
  unfold spPull
  exact ⟨names, least, g, dc, kl, ca, la, s, n, many, rfl, h, hn9, k0, kd, tm, t0, bad, fin⟩
abbrev nPl : List Str := ["self", "name", "many", "leader", "follower", "begin"]
theorem scPl : FnScope nPl ["self", "name", "many"] (defScope (sRM 5)) := ⟨rfl, rfl, rfl, by decide +kernel, rfl, by decide +kernel, by decide +kernel⟩
theorem ok_pull (F : FnP K "pull" "Replicas.pull" (sRM 5) [] f fd) (B : TxtR K mg CR) (BC : TxtC K mg CC) (J : TxtX K mg CE) (T : TxtL mg) (FL : FnP K "leading" "Replicas.leading" (sRM 1) [] fL fdL) (mL : Meth K CR "leading" fL) (FM : FnP K "make_firm" "Replicas.make_firm" (sRM 3) [] fM fdM) (mM : Meth K CR "make_firm" fM)
    (FC : FnP K "cut" "Replicas.cut" (sRM 6) [] fC fdC) (mC : Meth K CR "cut" fC) (FE : FnP K "end_of" "Copy.end_of" (sCM 1) [] fE fdE) (mE : Meth K CC "end_of" fE) :
    FnOk P w K mg base (L2.CX P w) 3 f fd ["self", "name", "many"] (spPull CR CC CE) := by
  have GL : FnOk P w K mg base (L2.CX P w) 1 fL fdL ["self"] (spLeading CR CC CE) := ok_leading FL B J
  have GM : FnOk P w K mg base CX0 1 fM fdM ["self"] (spFirmG CR CC) := ok_firmG FM B BC T
  have GC : FnOk P w K mg base CX0 2 fC fdC ["self", "follower"] (spCut CR CC) := ok_cut FC B BC J T FL mL FE mE
  have bL : Binds K fdL ["self"] [] := FL.bindsN fun _ _ _ _ _ _ us hl => match us, hl with | [_], _ => rfl
  have bM : Binds K fdM ["self"] [] := FM.bindsN fun _ _ _ _ _ _ us hl => match us, hl with | [_], _ => rfl
  have bC : Binds K fdC ["self", "follower"] [] := FC.bindsN fun _ _ _ _ _ _ us hl => match us, hl with | [_, _], _ => rfl
  refine F.ok scPl (fun vs H Q E h => ?_) (fun cdv A outer s H vs Q E hr h => ?_)
  · unfold spPull at h
    obtain ⟨_, _, _, _, _, _, _, _, _, _, rfl, _⟩ := h; rfl
  · unfold spPull at h
    obtain ⟨names, least, g, dc, kl, ca, la, st, n, many, rfl, hg, hn9, k0, kd, tm, t0, bad, fin⟩ := h
    have hu := hr.units
    have hu1 := Nat.lt_trans (Nat.add_lt_add_left (by decide : 1 < 64) _) hu
    obtain ⟨dx, ho⟩ := hg.o
    refine ⟨_, pss_cons (ps_set (i := 3) scPl.nd rfl (Or.inl rfl) (pe_meth0 (CX := L2.CX P w) (pv 0) B.cl mL GL (hr.mono (by decide)) bL .nil (passes_call (takes_of rfl rfl rfl rfl) (fun _ _ _ _ h => h))))
      (pss_cons (ps_if (PW.pt (pw_or (pt_cmp (pc_dnotin hu1 (pv 1) (pf 0))) (pw_or (pt_cmpR op_eq (pv 1) (pf 0) (nomark _)) (pw_or1 (pt_not (pt_truth (pe_fld (pe_dget hu1 (pf 0) (pv 1) (fun _ _ => rfl)) (by rfl)) (fun _ => rfl)))))))
        (pss_one (ps_raise rfl (takes_of rfl rfl rfl rfl) (SkE.pmk_own1 PySem.F.excBase_ValueError J.x J.g J.k (raises_own J.b J.t) rfl (pe_joined (.cons (pe_fmt (pv 1)) (.cons pe_str .nil)))))) pss_nil)
      (PSs.nox <| pss_cons (ps_set (i := 4) scPl.nd rfl (Or.inl rfl) (pe_dget hu1 (pf 0) (pv 1) (fun _ _ => rfl)))
      (pss_cons (ps_expr (pe_meth (pv 0) B.cl mC GC (hr.mono (by decide)) bC .nil pass0 (pa_cons (pv 4) pa_nil)))
      (pss_cons (ps_set (i := 5) scPl.nd rfl (Or.inl rfl) (pe_callB call_len_seq (by rfl) T.len PySem.boot_len (pa_cons (pf 4) pa_nil)))
      (pss_cons (ps_fld (pv 4) (pe_op op_cat (pf 4) (pe_slice sl_list (pf 3) (po_some (pv 5)) (po_some (pe_op op_add (pv 5) (pe_callB (call_max2 rfl) (by rfl) T.max (by decide +kernel) (pa_cons (pv 2) (pa_cons pe_int pa_nil))))))) rfl)
      (pss_cons (ps_if (PW.pt (pw_and (pt_cmpR op_eq (pe_callB call_len_seq (by rfl) T.len PySem.boot_len (pa_cons (pf 4) pa_nil)) (pe_callB call_len_seq (by rfl) T.len PySem.boot_len (pa_cons (pf 3) pa_nil)) (nomark _)) (pw_and1 (pt_cmpR op_notIn_seq (pv 1) (pf 0) (by rfl)))))
        (pss_one (ps_fld (pv 0) (pe_callB cr_sortedS (by rfl) T.sorted (by decide +kernel) (pa_cons (pe_op op_cat (pf 0) (pe_lst (pa_cons (pv 1) pa_nil))) pa_nil)) rfl)) pss_nil)
      (pss_cons (ps_expr (pe_meth0 (pv 0) B.cl mM GM (hr.mono (by decide)) bM .nil pass0))
      (pss_one (ps_fld (pv 4) (pe_callB (call_min2 rfl) (by rfl) T.min (by decide +kernel) (pa_cons (pf 3) (pa_cons (pe_callB call_len_seq (by rfl) T.len PySem.boot_len (pa_cons (pf 4) pa_nil)) pa_nil))) rfl))))))))), ?_⟩
    refine ⟨_, rfl, g, dx, _, rfl, ho, gF_m (by decide +kernel) (by decide +kernel) (by decide +kernel) (by decide +kernel) (by decide +kernel), leading_step hg (fun e => bad (.inl e)) fun l hl => ?_⟩
    have hln := hg.ln l hl
    refine ⟨_, rfl, _, rfl, g, CR, dx, _, _, rfl, ho, B.cl, B.nC, rfl, dc, _, rfl, hg.get0 n, _, rfl, ?_⟩
    by_cases c1 : n ∈ names
    · rw [if_pos c1]
      refine ifF (by simp) ?_
      refine ⟨_, rfl, _, rfl, g, CR, dx, _, _, rfl, ho, B.cl, B.nL, rfl, by rw [hl]; rfl, _, rfl, ?_⟩
      rw [hl]
      by_cases c2 : n = l
      · refine ifT (by simp [ldV, c2]) (ifT rfl ?_)
        exact js_name rfl hn9 (by decide +kernel) fun _ => bad (.inr (.inr (.inl (by rw [hl, c2]))))
      · refine ifF (by simp [ldV, c2]) ?_
        obtain ⟨dn, hcn⟩ := (hg.cp n c1).o
        refine ⟨_, rfl, g, CR, dx, _, _, rfl, ho, B.cl, B.nC, rfl, _, rfl, dc, _, rfl, hg.get c1, ca n, CC, dn, _, _, rfl, hcn, BC.cl, BC.nU, rfl, ?_⟩
        refine ⟨_, rfl, ?_⟩
        cases c3 : st.up n with
        | false =>
          refine ifT rfl ?_
          exact js_name rfl hn9 (by decide +kernel) fun _ => bad (.inr (.inr (.inr c3)))
        | true =>
          refine ifF (by simp) ?_
          have nl : l ≠ n := fun z => c2 z.symm
          refine ⟨_, rfl, g, CR, dx, _, _, rfl, ho, B.cl, B.nC, rfl, _, rfl, dc, _, rfl, hg.get c1, ?_⟩
          refine ⟨_, rfl, g, dx, _, rfl, ho, gF_m (by decide +kernel) (by decide +kernel) (by decide +kernel) (by decide +kernel) (by decide +kernel), _, rfl, cut_step hg c1 hl (tm n c1) (tm l hln) t0 fun H1 q p hq x1 g1 cp => ?_⟩
          have la1 : LaN names la (Q6.set la n q) H := fun m hm => by
            by_cases e : m = n
            · rw [e, set_same]; exact .inr hq
            · rw [set_ne e]; exact .inl rfl
          obtain ⟨dn1, hcn1⟩ := (g1.cp n c1).o
          obtain ⟨us1, hus1, hes1⟩ := (g1.cp n c1).r
          obtain ⟨dl1, hcl1⟩ := (g1.cp l hln).o
          obtain ⟨vs1, hvs1, hfs1⟩ := (g1.cp l hln).r
          simp only [set_same, set_ne nl] at hcn1 hus1 hes1 hcl1 hvs1 hfs1
          have hlf := paired_len hes1
          have hll := paired_len hfs1
          have hf9 := hg.lt n c1
          have hl9 := hg.lt l hln
          have hsl : sizeLine = 16777216 := rfl
          have one : 1 ≤ sizeLine := by decide
          have hpl : ((st.lg n).take p).length ≤ (st.lg l).length := by
            obtain ⟨⟨tm0, mine, theirs, ⟨_, hE⟩, rfl⟩, _⟩ := cp
            have := endOf_len (st.lg l) tm0
            rw [hE] at this
            have this : theirs ≤ (st.lg l).length := this
            rw [List.length_take]
            omega
          refine ⟨_, rfl, ca n, CC, dn1, _, _, rfl, hcn1, BC.cl, BC.nR, rfl, q, _, rfl, .inl (SqL.of hus1), ?_⟩
          refine ⟨_, rfl, ca n, CC, dn1, _, _, rfl, hcn1, BC.cl, BC.nR, rfl, _, rfl, ca l, CC, dl1, _, _, rfl, hcl1, BC.cl, BC.nR, rfl, _, rfl, _, rfl, _, rfl, _, rfl, _, _, rfl, _, _, rfl, rfl, _, rfl, la l, _, rfl, SqL.of hvs1, fun t1 ht1 => ?_⟩
          have eb : ((us1.map V.ref).length : Int) = ((((st.lg n).take p).length : Nat) : Int) := by rw [List.length_map, hlf]
          have em : (if (0 : Int) > many then (0 : Int) else many) = ((many.toNat : Nat) : Int) := by split <;> omega
          rw [eb, em, ← Int.natCast_add, cutV_seg, ← List.map_drop, ← List.map_take]
          generalize hws : (vs1.drop ((st.lg n).take p).length).take many.toNat = ws
          have e2 : Ex H1 (upd H1 t1 (.lst (ws.map V.ref))) := Ex.upd ht1
          have h2 : (upd H1 t1 (.lst (ws.map V.ref))) t1 = some (.lst (ws.map V.ref)) := upd_same
          generalize upd H1 t1 (.lst (ws.map V.ref)) = H2 at e2 h2
          have hlw : ws.length ≤ vs1.length := by
            rw [← hws, List.length_take, List.length_drop]
            omega
          refine ⟨q, t1, _, _, rfl, rfl, e2 _ _ hus1, h2, by rw [List.length_map, List.length_map]; rw [List.length_take] at hlf; omega, fun t2 ht2 => ?_⟩
          rw [← List.map_append]
          have e3 : Ex H1 (upd H2 t2 (.lst ((us1 ++ ws).map V.ref))) := e2.trans (Ex.upd ht2)
          have h3 : (upd H2 t2 (.lst ((us1 ++ ws).map V.ref))) t2 = some (.lst ((us1 ++ ws).map V.ref)) := upd_same
          have n2 : H1 t2 = none := none_of e2 ht2
          generalize upd H2 t2 (.lst ((us1 ++ ws).map V.ref)) = H3 at e3 h3
          have es3 : Es H3 (us1 ++ ws) (pullL (st.lg n) (st.lg l) p many) := by
            refine Es.kt ?_ (fun b xs h => e3 _ _ h)
            rw [← hws]
            exact paired_app hes1 (paired_take _ (paired_drop _ hfs1))
          have hcl : (pullL (st.lg n) (st.lg l) p many).length ≤ (st.lg l).length := by
            unfold pullL
            simp only [List.length_append, List.length_take, List.length_drop] at hpl ⊢
            omega
          have g3 := g1.ex e3
          have nq : ∀ m ∈ names, Q6.set la n q m ≠ t2 := fun m hm z => by
            obtain ⟨us', h', _⟩ := (g1.cp m hm).r
            rw [z, n2] at h'
            cases h'
          have nk : t2 ≠ kl := fun z => by
            have := g1.k
            rw [← z, n2] at this
            cases this
          have g4 := g3.setC c1 (dx := dn1) (l := t2) (c := pullL (st.lg n) (st.lg l) p many) (f := st.firm n) (u := st.up n) h3 es3 (.inr ⟨nq, nk⟩) (by omega)
          simp only [set_set, set_self] at g4
          refine ⟨_, rfl, ca n, CC, dn1, _, rfl, e3 _ _ hcn1, BC.cl, BC.nR, (by show 3 < 1000; decide), ?_⟩
          have hcn3 := e3 _ _ hcn1
          have x4 : ExG g names ca la H (upd H3 (ca n) (.ins CC dn1 (cF t2 (st.firm n : Nat) (st.up n)))) := ⟨fun b o h h1 h2 => by rw [L2.upd_ne (h2 n c1).1]; exact e3 _ _ (x1.1 b o h h1 h2), fun b h => x1.2 _ (none_of e3 (none_upd hcn3 h))⟩
          have la4 : LaN names la (Q6.set la n t2) H := LaN.refl.set x1 n2
          show tSeq _ _ _ _ (upd H3 (ca n) (.ins CC dn1 (cF t2 (st.firm n : Nat) (st.up n))))
          generalize upd H3 (ca n) (.ins CC dn1 (cF t2 (st.firm n : Nat) (st.up n))) = H4 at g4 x4
          have tail : ∀ (H5 : Hp) (kl5 : Addr) (keep5 : List Str) (b5 : Option V), (kl5 = kl ∨ H kl5 = none) → keep5 ≠ [] → Join st.keep n (pullL (st.lg n) (st.lg l) p many) (st.lg l) keep5 → ExG g names ca la H H5 → Grp CR CC names least g dc kl5 ca (Q6.set la n t2) { st with lg := Q6.set st.lg n (pullL (st.lg n) (st.lg l) p many), keep := keep5 } H5 →
              tSeq (tDrop (tMeth CR "make_firm" (spFirmG CR CC) [] E0 (tVar 0) tNil)) (sFld K (tVar 4) (tCB (fun xs H Q => ∃ i j, xs = [V.int i, V.int j] ∧ Q (V.int (if j < i then j else i)) H) (tCons (tFld K (tVar 3) "firm") (tCons (tCB (fun xs H Q => ∃ p ys, xs = [.ref p] ∧ (SqL K H p ys ∨ SqT K H p ys) ∧ Q (.int ys.length) H) (tCons (tFld K (tVar 4) "records") tNil)) tNil))) "firm")
                { nx := fun _ H' => Q V.non H', rt := Q } [some (.ref g), some (.str n), some (.int many), some (.ref (ca l)), some (.ref (ca n)), b5] H5 := by
            intro H5 kl5 keep5 b5 hk5 ne5 j5 x5 g5
            obtain ⟨dx5, ho5⟩ := g5.o
            refine ⟨_, rfl, g, dx5, _, rfl, ho5, gF_m (by decide +kernel) (by decide +kernel) (by decide +kernel) (by decide +kernel) (by decide +kernel), firmG_step g5 ne5 fun H6 x6 g6 => ?_⟩
            have elg : (firmed { st with lg := Q6.set st.lg n (pullL (st.lg n) (st.lg l) p many), keep := keep5 }).lg n = pullL (st.lg n) (st.lg l) p many := by rw [firmed_lg]; exact set_same
            obtain ⟨dn6, hcn6⟩ := (g6.cp n c1).o
            obtain ⟨us6, hus6, hes6⟩ := (g6.cp n c1).r
            obtain ⟨dl6, hcl6⟩ := (g6.cp l hln).o
            have hl6 := paired_len hes6
            rw [elg] at hl6
            refine ⟨_, rfl, ca l, CC, dl6, _, _, rfl, hcl6, BC.cl, BC.nF, rfl, _, rfl, ca n, CC, dn6, _, _, rfl, hcn6, BC.cl, BC.nR, rfl, _, _, rfl, .inl (SqL.of hus6), _, _, rfl, _, rfl, ca n, CC, dn6, _, rfl, hcn6, BC.cl, BC.nF, (by show 3 < 1000; decide), ?_⟩
            have g7 := g6.setC c1 (dx := dn6) (l := Q6.set la n t2 n) (c := (firmed { st with lg := Q6.set st.lg n (pullL (st.lg n) (st.lg l) p many), keep := keep5 }).lg n) (f := min ((firmed { st with lg := Q6.set st.lg n (pullL (st.lg n) (st.lg l) p many), keep := keep5 }).firm l) (pullL (st.lg n) (st.lg l) p many).length) (u := (firmed { st with lg := Q6.set st.lg n (pullL (st.lg n) (st.lg l) p many), keep := keep5 }).up n) hus6 hes6 (.inl rfl) (by rw [elg]; omega)
            simp only [set_self] at g7
            have ev : (if (((us6.map V.ref).length : Nat) : Int) < (((firmed { st with lg := Q6.set st.lg n (pullL (st.lg n) (st.lg l) p many), keep := keep5 }).firm l : Nat) : Int) then (((us6.map V.ref).length : Nat) : Int) else (((firmed { st with lg := Q6.set st.lg n (pullL (st.lg n) (st.lg l) p many), keep := keep5 }).firm l : Nat) : Int)) = ((min ((firmed { st with lg := Q6.set st.lg n (pullL (st.lg n) (st.lg l) p many), keep := keep5 }).firm l) (pullL (st.lg n) (st.lg l) p many).length : Nat) : Int) := by
              rw [List.length_map, hl6]
              split <;> omega
            rw [ev]
            refine fin l hl c1 c2 c3 _ kl5 (Q6.set la n t2) p keep5 hk5 la4 ⟨fun b o h h1 h2 => ?_, fun b h => ?_⟩ cp j5 g7
            · have h4 : ∀ m ∈ names, b ≠ ca m ∧ b ≠ Q6.set la n t2 m := fun m hm => ⟨(h2 m hm).1, fun z => by
                rcases la4 m hm with k | k
                · exact (h2 m hm).2 (z.trans k)
                · rw [← z, h] at k; cases k⟩
              show upd H6 (ca n) _ b = _
              rw [L2.upd_ne (h2 n c1).1]
              exact x6.1 b o (x5.1 b o h h1 h2) h1 h4
            · exact x5.2 b (x6.2 b (none_upd hcn6 h))
          obtain ⟨dx4, ho4⟩ := g4.o
          obtain ⟨dn4, hcn4⟩ := (g4.cp n c1).o
          obtain ⟨us4, hus4, hes4⟩ := (g4.cp n c1).r
          obtain ⟨dl4, hcl4⟩ := (g4.cp l hln).o
          obtain ⟨vs4, hvs4, hfs4⟩ := (g4.cp l hln).r
          simp only [set_same, set_ne nl] at hcn4 hus4 hes4 hcl4 hvs4 hfs4
          refine ⟨_, rfl, ca n, CC, dn4, _, _, rfl, hcn4, BC.cl, BC.nR, rfl, t2, _, rfl, .inl (SqL.of hus4), _, rfl, ca l, CC, dl4, _, _, rfl, hcl4, BC.cl, BC.nR, rfl, la l, _, rfl, .inl (SqL.of hvs4), rfl, _, rfl, ?_⟩
          have hlc := paired_len hes4
          have hll4 := paired_len hfs4
          by_cases c5 : (pullL (st.lg n) (st.lg l) p many).length = (st.lg l).length
          · refine ifT (by rw [decide_eq_true_eq, List.length_map, List.length_map, hlc, hll4, c5]) ?_
            refine ⟨_, rfl, _, rfl, g, CR, dx4, _, _, rfl, ho4, B.cl, B.nK, rfl, kl, _, rfl, .inl (SqL.of g4.k), rfl, flat_strs _, _, rfl, ?_⟩
            by_cases c6 : n ∈ st.keep
            · refine ifF (by simp [inV_strs, c6]) ?_
              exact tail H4 kl st.keep _ (.inl rfl) k0 (by unfold Join; rw [if_neg (fun z => z.2 c6)]) x4 g4
            · refine ifT (by simp [inV_strs, c6]) ?_
              refine ⟨_, rfl, g, CR, dx4, _, _, rfl, ho4, B.cl, B.nK, rfl, _, rfl, one, fun t6 ht6 => ?_⟩
              have e5 : Ex H4 (upd H4 t6 (.lst [.str n])) := Ex.upd ht6
              have h5 : (upd H4 t6 (.lst [.str n])) t6 = some (.lst [.str n]) := upd_same
              generalize upd H4 t6 (.lst [.str n]) = H5 at e5 h5
              refine ⟨kl, t6, _, _, rfl, rfl, e5 _ _ g4.k, h5, by rw [List.length_map]; have := g4.k9; show st.keep.length + 1 ≤ _; have : st.keep.length ≤ 9 := g4.k9; omega, fun t7 ht7 => ?_⟩
              have em7 : st.keep.map V.str ++ [V.str n] = (st.keep ++ [n]).map V.str := by rw [List.map_append]; rfl
              show _
              rw [show ({ st with lg := Q6.set st.lg n (pullL (st.lg n) (st.lg l) p many) } : Rp Str).keep = st.keep from rfl, em7]
              have e6 : Ex H4 (upd H5 t7 (.lst ((st.keep ++ [n]).map V.str))) := e5.trans (Ex.upd ht7)
              have h6 : (upd H5 t7 (.lst ((st.keep ++ [n]).map V.str))) t7 = some (.lst ((st.keep ++ [n]).map V.str)) := upd_same
              generalize upd H5 t7 (.lst ((st.keep ++ [n]).map V.str)) = H6 at e6 h6
              refine ⟨t7, _, rfl, SqL.of h6, by have := g4.k9; rw [List.length_append]; have : st.keep.length ≤ 9 := g4.k9; show st.keep.length + 1 < 64; omega, fun ys t8 hp hso ht8 => ?_⟩
              have e7 : Ex H4 (upd H6 t8 (.lst (ys.map V.str))) := e6.trans (Ex.upd ht8)
              have h7 : (upd H6 t8 (.lst (ys.map V.str))) t8 = some (.lst (ys.map V.str)) := upd_same
              have n8 : H4 t8 = none := none_of e6 ht8
              generalize upd H6 t8 (.lst (ys.map V.str)) = H7 at e7 h7
              refine ⟨_, rfl, g, CR, dx4, _, rfl, e7 _ _ ho4, B.cl, B.nK, (by show 5 < 1000; decide), ?_⟩
              have hm : ∀ m ∈ ys, m ∈ names := fun m hm => by
                rcases List.mem_append.mp (hp.mem_iff.mp hm) with z | z
                · exact hg.kn m z
                · rw [List.mem_singleton.mp z]; exact c1
              have nd : ys.Nodup := hp.nodup_iff.mpr (List.nodup_append.mpr ⟨kd, by simp, fun a ha b hb => by rw [List.mem_singleton.mp hb]; exact fun z => c6 (z ▸ ha)⟩)
              have nk8 : ∀ m ∈ names, Q6.set la n t2 m ≠ t8 := fun m hm z => by
                obtain ⟨us', h', _⟩ := (g4.cp m hm).r
                rw [z, n8] at h'
                cases h'
              have g8 := (g4.ex e7).setG (dx := dx4) (ld := st.leader) (T := st.time) (keep := ys) h7 nk8 hm (Nat.le_trans (nodup_len nd hm) g4.n9) hg.ln
              refine tail _ t8 ys _ (.inr (x4.2 _ n8)) (fun z => ?_) (by unfold Join; rw [if_pos ⟨c5, c6⟩]; exact ⟨hp, hso⟩) ⟨fun b o h h1 h2 => ?_, fun b h => x4.2 _ (none_of e7 (none_upd (e7 _ _ ho4) h))⟩ g8
              · have := hp.length_eq
                rw [z, List.length_append] at this
                simp at this
              · show upd H7 g _ b = _
                rw [L2.upd_ne h1]
                exact e7 _ _ (x4.1 b o h h1 h2)
          · refine ifF (by rw [decide_eq_true_eq, List.length_map, List.length_map, hlc, hll4]; intro z; injection z with z; omega) ?_
            refine ifF (by simp) ?_
            exact tail H4 kl st.keep _ (.inl rfl) k0 (by unfold Join; rw [if_neg (fun z => c5 z.1)]) x4 g4
    · rw [if_neg c1]
      refine ifT rfl (ifT rfl ?_)
      exact js_name rfl hn9 (by decide +kernel) fun _ => bad (.inr (.inl c1))
end
end K6
set_option Elab.async false
set_option linter.all false
set_option maxRecDepth 100000
set_option maxHeartbeats 4000000
namespace K6
open PySem PySem.Spec PyProof.Rows L2 KB KC KS LamX R8 Q6
theorem dp_strs {K : PySem.W.Frag} {H : Hp} : ∀ ns : List Str, DpAll K H (ns.map V.str) (ns.map PyData.str)
  | [] => .nil
  | n :: ns => .cons (.str _) (dp_strs ns)
theorem eqvAll_strs : ∀ a b : List Str, PyData.eqvAll (a.map PyData.str) (b.map PyData.str) = decide (a = b)
  | [], [] => rfl
  | [], _ :: _ => rfl
  | _ :: _, [] => rfl
  | x :: a, y :: b => by
    rw [List.map_cons, List.map_cons]
    show (PyData.eqv (.str x) (.str y) && PyData.eqvAll (a.map PyData.str) (b.map PyData.str)) = _
    rw [eqvAll_strs a b]
    show ((x == y) && _) = _
    rw [Bool.eq_iff_iff]
    simp
theorem eqv_strs (a b : List Str) : PyData.eqv (.list (a.map PyData.str)) (.list (b.map PyData.str)) = decide (a = b) := by
  unfold PyData.eqv
  exact eqvAll_strs a b
theorem lay_strs : ∀ ns : List Str, (∀ n ∈ ns, PyData.strOk n = true) → PyData.canLayAll0 (ns.map PyData.str) = true
  | [], _ => by simp [PyData.canLayAll0]
  | n :: ns, h => by
    rw [List.map_cons]
    unfold PyData.canLayAll0
    rw [lay_strs ns fun m hm => h m (List.mem_cons_of_mem _ hm)]
    simp [PyData.canLay0, h n List.mem_cons_self]
theorem depth_strs : ∀ ns : List Str, PyData.depthAll (ns.map PyData.str) ≤ 3
  | [] => by simp [PyData.depthAll]
  | p :: S => by
    have h := depth_strs S
    rw [List.map_cons]
    unfold PyData.depthAll
    have : (PyData.str p).depth ≤ 2 := by simp [PyData.depth]
    omega
theorem sh_strs {S : List Str} (hk : ∀ n ∈ S, PyData.strOk n = true) : SeqAt.shaped (.list (S.map PyData.str)) = true := by
  have h := depth_strs S
  unfold SeqAt.shaped
  rw [Bool.and_eq_true, decide_eq_true_eq]
  refine ⟨?_, ?_⟩
  · unfold PyData.canLay0
    exact lay_strs S hk
  · unfold PyData.depth
    omega
theorem join_if {c : Prop} [Decidable c] {A : Prop} {R : L2.St → Hp → Prop} {σ : L2.St} {H : Hp} (Pv : Hp → Prop) (hA : c → (∀ H3, Pv H3 → R σ H3) → A) (hB : ¬ c → Pv H) (hR : ∀ H3, Pv H3 → R σ H3) : if c then A else R σ H := by
  by_cases h : c
  · rw [if_pos h]; exact hA h hR
  · rw [if_neg h]; exact hR H (hB h)
theorem ldV_str (o : Option Str) (n : Str) : decide (ldV o = V.str n) = decide (o = some n) := by
  cases o with
  | none => exact (decide_eq_false fun z => nomatch (show V.non = V.str n from z)).trans (decide_eq_false fun z => nomatch z).symm
  | some l => simp [ldV]
def without (l : List Str) (n : Str) : List Str := l.filter fun x => decide (x ≠ n)
theorem without_ne {l : List Str} {n : Str} (h0 : l ≠ []) (hd : l.Nodup) (h : l ≠ [n]) : without l n ≠ [] := fun z => by
  have a : ∀ x ∈ l, x = n := fun x hx => by
    have := List.filter_eq_nil_iff.mp z x hx
    simpa using this
  cases l with
  | nil => exact h0 rfl
  | cons x r =>
    cases r with
    | nil => exact h (by rw [a x List.mem_cons_self])
    | cons y r =>
      have e : x = y := (a x List.mem_cons_self).trans (a y (List.mem_cons_of_mem _ List.mem_cons_self)).symm
      rw [List.nodup_cons] at hd
      exact hd.1 (by rw [e]; exact List.mem_cons_self)
def downS (s : Rp Str) (n : Str) : Rp Str :=
  firmed { s with up := Q6.set s.up n false, leader := if s.leader = some n then none else s.leader, keep := if s.keep = [n] then s.keep else without s.keep n }
@[irreducible] def spDown (CR CC CE : Addr) : Sp := fun vs H Q E => ∃ (names : List Str) (least : Int) (g dc kl : Addr) (ca la : Str → Addr) (s : Rp Str) (n : Str), vs = [.ref g, .str n] ∧ Grp CR CC names least g dc kl ca la s H ∧ n.length ≤ 900 ∧ s.keep ≠ [] ∧ s.keep.Nodup ∧
  (n ∉ names ∨ s.up n = false → E (.ref CE) none H) ∧
  (n ∈ names → s.up n = true → ∀ H' kl', (kl' = kl ∨ H kl' = none) → ExG g names ca la H H' → Grp CR CC names least g dc kl' ca la (downS s n) H' → Q .non H')
@[irreducible] def spUp (CR CC CE : Addr) : Sp := fun vs H Q E => ∃ (names : List Str) (least : Int) (g dc kl : Addr) (ca la : Str → Addr) (s : Rp Str) (n : Str), vs = [.ref g, .str n] ∧ Grp CR CC names least g dc kl ca la s H ∧ n.length ≤ 900 ∧
  (n ∉ names ∨ s.up n = true → E (.ref CE) none H) ∧
  (n ∈ names → s.up n = false → ∀ H', ExG g names ca la H H' → Grp CR CC names least g dc kl ca la { s with up := Q6.set s.up n true } H' → Q .non H')
@[irreducible] def spRead (CR CC CE : Addr) : Sp := fun vs H Q E => ∃ (names : List Str) (least : Int) (g dc kl : Addr) (ca la : Str → Addr) (s : Rp Str) (n : Str) (p : Int), vs = [.ref g, .str n, .int p] ∧ Grp CR CC names least g dc kl ca la s H ∧ n.length ≤ 900 ∧
  (n ∉ names → E (.ref CE) none H) ∧
  (n ∈ names → ∀ H' q us, Ex H H' → H' q = some (.tup us) → Paired (fun (v : V) (e : Ent) => ∃ r, v = .ref r ∧ H' r = some (.tup [.str "row", .int e.2])) us (((s.lg n).drop p.toNat).take (s.firm n - p.toNat)) → Q (.ref q) H')
section
variable {P : Program} {w : World} {K : PySem.W.Frag} {mg : Str → Option Value} {base : Heap} {CR CC CE f fL fM fE fC : Addr} {fd fdL fdM fdE fdC : FuncData}
theorem down_step {names : List Str} {least : Int} {g dc kl : Addr} {ca la : Str → Addr} {s : Rp Str} {H : Hp} {n : Str} {Q : VK} {E : XK} (h : Grp CR CC names least g dc kl ca la s H) (hn9 : n.length ≤ 900) (k0 : s.keep ≠ []) (kd : s.keep.Nodup)
    (bad : n ∉ names ∨ s.up n = false → E (.ref CE) none H)
    (fin : n ∈ names → s.up n = true → ∀ H' kl', (kl' = kl ∨ H kl' = none) → ExG g names ca la H H' → Grp CR CC names least g dc kl' ca la (downS s n) H' → Q .non H') : spDown CR CC CE [.ref g, .str n] H Q E := by
  unfold spDown
  exact ⟨names, least, g, dc, kl, ca, la, s, n, rfl, h, hn9, k0, kd, bad, fin⟩
theorem up_step {names : List Str} {least : Int} {g dc kl : Addr} {ca la : Str → Addr} {s : Rp Str} {H : Hp} {n : Str} {Q : VK} {E : XK} (h : Grp CR CC names least g dc kl ca la s H) (hn9 : n.length ≤ 900)
    (bad : n ∉ names ∨ s.up n = true → E (.ref CE) none H)
    (fin : n ∈ names → s.up n = false → ∀ H', ExG g names ca la H H' → Grp CR CC names least g dc kl ca la { s with up := Q6.set s.up n true } H' → Q .non H') : spUp CR CC CE [.ref g, .str n] H Q E := by
  unfold spUp
  exact ⟨names, least, g, dc, kl, ca, la, s, n, rfl, h, hn9, bad, fin⟩
abbrev nUp : List Str := ["self", "name", "copy"]
theorem scUp : FnScope nUp ["self", "name"] (defScope (sRM 8)) := ⟨rfl, rfl, rfl, by decide +kernel, rfl, by decide +kernel, by decide +kernel⟩
theorem ok_up (F : FnP K "come_up" "Replicas.come_up" (sRM 8) [] f fd) (B : TxtR K mg CR) (BC : TxtC K mg CC) (J : TxtX K mg CE) :
    FnOk P w K mg base (L2.CX P w) 1 f fd ["self", "name"] (spUp CR CC CE) := by
  refine F.ok scUp (fun vs H Q E h => ?_) (fun cdv A outer s H vs Q E hr h => ?_)
  · unfold spUp at h
    obtain ⟨_, _, _, _, _, _, _, _, _, rfl, _⟩ := h; rfl
  · unfold spUp at h
    obtain ⟨names, least, g, dc, kl, ca, la, st, n, rfl, hg, hn9, bad, fin⟩ := h
    have hu := hr.units
    have hu1 := Nat.lt_trans (Nat.add_lt_add_left (by decide : 1 < 64) _) hu
    obtain ⟨dx, ho⟩ := hg.o
    refine ⟨_, pss_cons (ps_if (PW.pt (pw_or (pt_cmp (pc_dnotin hu1 (pv 1) (pf 0))) (pw_or1 (pt_truth (pe_fld (pe_dget hu1 (pf 0) (pv 1) (fun _ _ => rfl)) (by rfl)) (fun _ => rfl)))))
        (pss_one (ps_raise rfl (takes_of rfl rfl rfl rfl) (SkE.pmk_own1 PySem.F.excBase_ValueError J.x J.g J.k (raises_own J.b J.t) rfl (pe_joined (.cons (pe_fmt (pv 1)) (.cons pe_str .nil)))))) pss_nil)
      (PSs.nox <| pss_cons (ps_set (i := 2) scUp.nd rfl (Or.inl rfl) (pe_dget hu1 (pf 0) (pv 1) (fun _ _ => rfl))) (pss_one (ps_fld (pv 2) pe_bl rfl))), ?_⟩
    refine ⟨_, rfl, _, rfl, g, CR, dx, _, _, rfl, ho, B.cl, B.nC, rfl, dc, _, rfl, hg.get0 n, _, rfl, ?_⟩
    by_cases c1 : n ∈ names
    · rw [if_pos c1]
      refine ifF (by simp) ?_
      obtain ⟨dn, hcn⟩ := (hg.cp n c1).o
      obtain ⟨us, hus, hes⟩ := (hg.cp n c1).r
      refine ⟨_, rfl, g, CR, dx, _, _, rfl, ho, B.cl, B.nC, rfl, _, rfl, dc, _, rfl, hg.get c1, ca n, CC, dn, _, _, rfl, hcn, BC.cl, BC.nU, rfl, ?_⟩
      refine ⟨_, rfl, ?_⟩
      cases c3 : st.up n with
      | true =>
        refine ifT rfl ?_
        exact js_name rfl hn9 (by decide +kernel) fun _ => bad (.inr c3)
      | false =>
        refine ifF (by simp) ?_
        refine ⟨_, rfl, g, CR, dx, _, _, rfl, ho, B.cl, B.nC, rfl, _, rfl, dc, _, rfl, hg.get c1, ?_⟩
        refine ⟨_, rfl, ca n, CC, dn, _, rfl, hcn, BC.cl, BC.nU, (by show 3 < 1000; decide), ?_⟩
        have g2 := hg.setC c1 (dx := dn) (l := la n) (c := st.lg n) (f := st.firm n) (u := true) hus hes (.inl rfl) (hg.lt n c1)
        simp only [set_self] at g2
        exact fin c1 c3 _ ⟨fun b o h h1 h2 => by show upd H (ca n) _ b = _; rw [L2.upd_ne (h2 n c1).1]; exact h, fun b h => none_upd hcn h⟩ g2
    · rw [if_neg c1]
      refine ifT rfl (ifT rfl ?_)
      exact js_name rfl hn9 (by decide +kernel) fun _ => bad (.inl c1)
abbrev nDn : List Str := ["self", "name", "copy", "one"]
theorem scDn : FnScope nDn ["self", "name"] (defScope (sRM 7)) := ⟨rfl, rfl, rfl, by decide +kernel, rfl, by decide +kernel, by decide +kernel⟩
theorem ok_down (F : FnP K "go_down" "Replicas.go_down" (sRM 7) [] f fd) (B : TxtR K mg CR) (BC : TxtC K mg CC) (J : TxtX K mg CE) (T : TxtL mg) (FM : FnP K "make_firm" "Replicas.make_firm" (sRM 3) [] fM fdM) (mM : Meth K CR "make_firm" fM) :
    FnOk P w K mg base (L2.CX P w) 2 f fd ["self", "name"] (spDown CR CC CE) := by
  have GM : FnOk P w K mg base CX0 1 fM fdM ["self"] (spFirmG CR CC) := ok_firmG FM B BC T
  have bM : Binds K fdM ["self"] [] := FM.bindsN fun _ _ _ _ _ _ us hl => match us, hl with | [_], _ => rfl
  refine F.ok scDn (fun vs H Q E h => ?_) (fun cdv A outer s H vs Q E hr h => ?_)
  · unfold spDown at h
    obtain ⟨_, _, _, _, _, _, _, _, _, rfl, _⟩ := h; rfl
  · unfold spDown at h
    obtain ⟨names, least, g, dc, kl, ca, la, st, n, rfl, hg, hn9, k0, kd, bad, fin⟩ := h
    have hu := hr.units
    have hu1 := Nat.lt_trans (Nat.add_lt_add_left (by decide : 1 < 64) _) hu
    obtain ⟨dx, ho⟩ := hg.o
    refine ⟨_, pss_cons (ps_if (PW.pt (pw_or (pt_cmp (pc_dnotin hu1 (pv 1) (pf 0))) (pw_or1 (pt_not (pt_truth (pe_fld (pe_dget hu1 (pf 0) (pv 1) (fun _ _ => rfl)) (by rfl)) (fun _ => rfl))))))
        (pss_one (ps_raise rfl (takes_of rfl rfl rfl rfl) (SkE.pmk_own1 PySem.F.excBase_ValueError J.x J.g J.k (raises_own J.b J.t) rfl (pe_joined (.cons (pe_fmt (pv 1)) (.cons pe_str .nil)))))) pss_nil)
      (PSs.nox <| pss_cons (ps_set (i := 2) scDn.nd rfl (Or.inl rfl) (pe_dget hu1 (pf 0) (pv 1) (fun _ _ => rfl))) (pss_cons (ps_fld (pv 2) pe_bl rfl)
      (pss_cons (ps_if (pt_cmpR op_eq (pf 0) (pv 1) (nomark _)) (pss_one (ps_fld (pv 0) pe_non rfl)) pss_nil)
      (pss_cons (ps_if (pt_cmpR (op_neD hu) (pf 0) (pe_lst (pa_cons (pv 1) pa_nil)) (nomark _))
        (pss_one (ps_fld (pv 0) (pe_lc (own := [("one", 3)]) (g := gName 3) (tt := tTest (tOp rNe (tVar 3) (tVar 1))) (te := tVar 3) rfl scDn.nd (pi_list (pf 0)) (blkOk_by (N := nDn) (sc := defScope (sRM 7)) (by decide +kernel))
            (fun _ _ _ _ _ => pg_name (i := 3) scDn.nd rfl (Or.inl rfl)) (fun _ _ _ _ _ => pts_one (pt_cmpR op_ne (pv 3) (pv 1) (nomark _))) (fun _ _ _ _ _ => pv 3)) rfl)) pss_nil)
      (pss_one (ps_expr (pe_meth0 (pv 0) B.cl mM GM hr bM .nil pass0))))))), ?_⟩
    refine ⟨_, rfl, _, rfl, g, CR, dx, _, _, rfl, ho, B.cl, B.nC, rfl, dc, _, rfl, hg.get0 n, _, rfl, ?_⟩
    by_cases c1 : n ∈ names
    · rw [if_pos c1]
      refine ifF (by simp) ?_
      obtain ⟨dn, hcn⟩ := (hg.cp n c1).o
      obtain ⟨us, hus, hes⟩ := (hg.cp n c1).r
      refine ⟨_, rfl, g, CR, dx, _, _, rfl, ho, B.cl, B.nC, rfl, _, rfl, dc, _, rfl, hg.get c1, ca n, CC, dn, _, _, rfl, hcn, BC.cl, BC.nU, rfl, ?_⟩
      refine ⟨_, rfl, ?_⟩
      cases c3 : st.up n with
      | false =>
        refine ifT rfl ?_
        exact js_name rfl hn9 (by decide +kernel) fun _ => bad (.inr c3)
      | true =>
        refine ifF (by simp) ?_
        refine ⟨_, rfl, g, CR, dx, _, _, rfl, ho, B.cl, B.nC, rfl, _, rfl, dc, _, rfl, hg.get c1, ?_⟩
        refine ⟨_, rfl, ca n, CC, dn, _, rfl, hcn, BC.cl, BC.nU, (by show 3 < 1000; decide), ?_⟩
        have g2 := hg.setC c1 (dx := dn) (l := la n) (c := st.lg n) (f := st.firm n) (u := false) hus hes (.inl rfl) (hg.lt n c1)
        simp only [set_self] at g2
        have x2 : ExG g names ca la H (upd H (ca n) (.ins CC dn (cF (la n) (st.firm n : Nat) false))) := ⟨fun b o h h1 h2 => by rw [L2.upd_ne (h2 n c1).1]; exact h, fun b h => none_upd hcn h⟩
        show tSeq _ _ _ _ (upd H (ca n) (.ins CC dn (cF (la n) (st.firm n : Nat) false)))
        generalize upd H (ca n) (.ins CC dn (cF (la n) (st.firm n : Nat) false)) = H2 at g2 x2
        obtain ⟨dx2, ho2⟩ := g2.o
        refine ⟨_, rfl, g, CR, dx2, _, _, rfl, ho2, B.cl, B.nL, rfl, _, rfl, by cases st.leader <;> rfl, _, rfl, ?_⟩
        refine join_if (fun H3 => Grp CR CC names least g dc kl ca la { st with up := Q6.set st.up n false, leader := if st.leader = some n then none else st.leader } H3 ∧ ExG g names ca la H H3) (fun hb k => ?_) (fun hb => ?_) ?_
        · have hb : decide (ldV st.leader = V.str n) = true := hb
          rw [ldV_str, decide_eq_true_eq] at hb
          refine ⟨_, rfl, g, CR, dx2, _, rfl, ho2, B.cl, B.nL, (by show 5 < 1000; decide), ?_⟩
          have g3 := g2.setG (dx := dx2) (ld := none) (T := st.time) (keep := st.keep) g2.k hg.ik hg.kn hg.k9 (fun _ z => nomatch z)
          refine k _ ⟨?_, ⟨fun b o h h1 h2 => ?_, fun b h => x2.2 _ (none_upd ho2 h)⟩⟩
          · rw [if_pos hb]
            exact g3
          · show upd H2 g _ b = _
            rw [L2.upd_ne h1]
            exact x2.1 b o h h1 h2
        · have hb : ¬ decide (ldV st.leader = V.str n) = true := hb
          rw [ldV_str, decide_eq_true_eq] at hb
          rw [if_neg hb]
          exact ⟨g2, x2⟩
        · rintro H3 ⟨g3, x3⟩
          obtain ⟨dx3, ho3⟩ := g3.o
          have one : 1 ≤ sizeLine := by decide
          refine ⟨_, rfl, g, CR, dx3, _, _, rfl, ho3, B.cl, B.nK, rfl, _, rfl, one, fun t4 ht4 => ?_⟩
          have e4 : Ex H3 (upd H3 t4 (.lst [.str n])) := Ex.upd ht4
          have h4 : (upd H3 t4 (.lst [.str n])) t4 = some (.lst ([n].map V.str)) := upd_same
          generalize upd H3 t4 (.lst [.str n]) = H4 at e4 h4
          have g4 := g3.ex e4
          have ho4 := e4 _ _ ho3
          have hk4 : H4 kl = some (.lst (st.keep.map V.str)) := g4.k
          have sk : ∀ m ∈ st.keep, PyData.strOk m = true := fun m hm => (hg.ns m (hg.kn m hm)).2
          have sn : ∀ m ∈ [n], PyData.strOk m = true := fun m hm => by rw [List.mem_singleton.mp hm]; exact (hg.ns n c1).2
          refine ⟨_, _, .lst (SqL.of hk4) (dp_strs st.keep), .lst (SqL.of h4) (dp_strs [n]), sh_strs sk, sh_strs sn, _, rfl, ?_⟩
          refine join_if (fun H5 => ∃ kl', (kl' = kl ∨ H kl' = none) ∧ Grp CR CC names least g dc kl' ca la { st with up := Q6.set st.up n false, leader := (if st.leader = some n then none else st.leader), keep := (if st.keep = [n] then st.keep else without st.keep n) } H5 ∧ ExG g names ca la H H5) (fun hb k => ?_) (fun hb => ?_) ?_
          · rw [eqv_strs] at hb
            have hb : ¬ st.keep = [n] := by simpa using hb
            refine ⟨_, rfl, g, CR, dx3, _, _, rfl, ho4, B.cl, B.nK, rfl, kl, rfl, ⟨_, SqL.of hk4⟩, fun D hD => ?_⟩
            refine lcG walk_list RStr (fun j => st.keep[j]?.bind fun x => if decide (x ≠ n) = true then some x else none) RStr.stab hD (by rw [List.length_map]; have := hg.k9; omega) (fun H5 e5 => SqL.of (e5 _ _ hk4)) (fun i H5 x H6 _ _ h => yat_ex h) (fun j v H5 H6 R0 N0 hj e5 hy hno hsm => ?_) (fun H5 xs e5 hx5 hps => ?_)
            · obtain ⟨rfl, hxi⟩ := hy
              rw [List.getElem?_map] at hxi
              obtain ⟨m, hm, rfl⟩ := Option.map_eq_some_iff.mp hxi
              refine ⟨rfl, _, rfl, _, rfl, rfl, _, rfl, ?_⟩
              by_cases c : m = n
              · refine ifF (by simp [c]) (hno (by rw [hm]; simp [c]) _ (Ex.refl _))
              · refine ifT (by simp [c]) ⟨_, rfl, ?_⟩
                exact hsm m (by rw [hm]; simp [c]) _ _ (Ex.refl _) rfl
            · rw [List.length_map, range_fm, filt_fm] at hps
              rw [rstr_map hps] at hx5
              have g5 := g4.ex e5
              have nk : ∀ m ∈ names, la m ≠ D := fun m hm z => by
                obtain ⟨us', h', _⟩ := (g4.cp m hm).r
                rw [z, hD] at h'
                cases h'
              have hwm : ∀ m ∈ without st.keep n, m ∈ names := fun m hm => hg.kn m (List.mem_filter.mp hm).1
              have g6 := g5.setG (dx := dx3) (ld := if st.leader = some n then none else st.leader) (T := st.time) (keep := without st.keep n) hx5 nk hwm (Nat.le_trans (List.length_filter_le _ _) hg.k9) g3.ln
              have ho5 := e5 _ _ ho4
              refine ⟨_, rfl, g, CR, dx3, _, rfl, ho5, B.cl, B.nK, (by show 5 < 1000; decide), ?_⟩
              refine k _ ⟨D, .inr (x3.2 _ (none_of e4 hD)), ?_, ⟨fun b o h h1 h2 => ?_, fun b h => x3.2 _ (none_of e4 (none_of e5 (none_upd ho5 h)))⟩⟩
              · rw [if_neg hb]
                exact g6
              · show upd H5 g _ b = _
                rw [L2.upd_ne h1]
                exact e5 _ _ (e4 _ _ (x3.1 b o h h1 h2))
          · rw [eqv_strs] at hb
            have hb : st.keep = [n] := by simpa using hb
            rw [if_pos hb]
            exact ⟨kl, .inl rfl, g4, ⟨fun b o h h1 h2 => e4 _ _ (x3.1 b o h h1 h2), fun b h => x3.2 _ (none_of e4 h)⟩⟩
          · rintro H5 ⟨kl', hk', g5, x5⟩
            obtain ⟨dx5, ho5⟩ := g5.o
            refine ⟨_, rfl, g, dx5, _, rfl, ho5, gF_m (by decide +kernel) (by decide +kernel) (by decide +kernel) (by decide +kernel) (by decide +kernel), firmG_step g5 ?_ fun H6 x6 g6 => fin c1 c3 H6 kl' hk' (x5.trans LaN.refl x6) g6⟩
            show (if st.keep = [n] then st.keep else without st.keep n) ≠ []
            split
            · exact k0
            · exact without_ne k0 kd ‹_›
    · rw [if_neg c1]
      refine ifT rfl (ifT rfl ?_)
      exact js_name rfl hn9 (by decide +kernel) fun _ => bad (.inl c1)
end
end K6
set_option Elab.async false
set_option linter.all false
set_option maxRecDepth 100000
set_option maxHeartbeats 4000000
namespace K6
open PySem PySem.Spec PyProof.Rows L2 KB KC KS LamX R8 Q6
def dropS (s : Rp Str) (n : Str) : Rp Str := firmed { s with keep := without s.keep n }
@[irreducible] def spDrop (CR CC CE : Addr) : Sp := fun vs H Q E => ∃ (names : List Str) (least : Int) (g dc kl : Addr) (ca la : Str → Addr) (s : Rp Str) (n : Str), vs = [.ref g, .str n] ∧ Grp CR CC names least g dc kl ca la s H ∧ n.length ≤ 900 ∧ (∀ l, s.leader = some l → l ∈ s.keep) ∧
  (s.leader = none ∨ n ∉ s.keep ∨ s.leader = some n ∨ (∀ l, s.leader = some l → (s.lg n).length = (s.lg l).length) → E (.ref CE) none H) ∧
  (∀ l, s.leader = some l → n ∈ s.keep → n ≠ l → (s.lg n).length ≠ (s.lg l).length → ∀ H' kl', (kl' = kl ∨ H kl' = none) → ExG g names ca la H H' → Grp CR CC names least g dc kl' ca la (dropS s n) H' → Q .non H')
section
variable {P : Program} {w : World} {K : PySem.W.Frag} {mg : Str → Option Value} {base : Heap} {CR CC CE f fL fM fE fC : Addr} {fd fdL fdM fdE fdC : FuncData}
theorem drop_step {names : List Str} {least : Int} {g dc kl : Addr} {ca la : Str → Addr} {s : Rp Str} {H : Hp} {n : Str} {Q : VK} {E : XK} (h : Grp CR CC names least g dc kl ca la s H) (hn9 : n.length ≤ 900) (lk : ∀ l, s.leader = some l → l ∈ s.keep)
    (bad : s.leader = none ∨ n ∉ s.keep ∨ s.leader = some n ∨ (∀ l, s.leader = some l → (s.lg n).length = (s.lg l).length) → E (.ref CE) none H)
    (fin : ∀ l, s.leader = some l → n ∈ s.keep → n ≠ l → (s.lg n).length ≠ (s.lg l).length → ∀ H' kl', (kl' = kl ∨ H kl' = none) → ExG g names ca la H H' → Grp CR CC names least g dc kl' ca la (dropS s n) H' → Q .non H') : spDrop CR CC CE [.ref g, .str n] H Q E := by
  unfold spDrop
  exact ⟨names, least, g, dc, kl, ca, la, s, n, rfl, h, hn9, lk, bad, fin⟩
theorem read_step {names : List Str} {least : Int} {g dc kl : Addr} {ca la : Str → Addr} {s : Rp Str} {H : Hp} {n : Str} {p : Int} {Q : VK} {E : XK} (h : Grp CR CC names least g dc kl ca la s H) (hn9 : n.length ≤ 900) (bad : n ∉ names → E (.ref CE) none H)
    (fin : n ∈ names → ∀ H' q us, Ex H H' → H' q = some (.tup us) → Paired (fun (v : V) (e : Ent) => ∃ r, v = .ref r ∧ H' r = some (.tup [.str "row", .int e.2])) us (((s.lg n).drop p.toNat).take (s.firm n - p.toNat)) → Q (.ref q) H') : spRead CR CC CE [.ref g, .str n, .int p] H Q E := by
  unfold spRead
  exact ⟨names, least, g, dc, kl, ca, la, s, n, p, rfl, h, hn9, bad, fin⟩
abbrev nDr : List Str := ["self", "name", "leader", "one"]
theorem scDr : FnScope nDr ["self", "name"] (defScope (sRM 10)) := ⟨rfl, rfl, rfl, by decide +kernel, rfl, by decide +kernel, by decide +kernel⟩
theorem ok_drop (F : FnP K "drop_slow" "Replicas.drop_slow" (sRM 10) [] f fd) (B : TxtR K mg CR) (BC : TxtC K mg CC) (J : TxtX K mg CE) (T : TxtL mg) (FL : FnP K "leading" "Replicas.leading" (sRM 1) [] fL fdL) (mL : Meth K CR "leading" fL) (FM : FnP K "make_firm" "Replicas.make_firm" (sRM 3) [] fM fdM) (mM : Meth K CR "make_firm" fM) :
    FnOk P w K mg base (L2.CX P w) 2 f fd ["self", "name"] (spDrop CR CC CE) := by
  have GL : FnOk P w K mg base (L2.CX P w) 1 fL fdL ["self"] (spLeading CR CC CE) := ok_leading FL B J
  have GM : FnOk P w K mg base CX0 1 fM fdM ["self"] (spFirmG CR CC) := ok_firmG FM B BC T
  have bL : Binds K fdL ["self"] [] := FL.bindsN fun _ _ _ _ _ _ us hl => match us, hl with | [_], _ => rfl
  have bM : Binds K fdM ["self"] [] := FM.bindsN fun _ _ _ _ _ _ us hl => match us, hl with | [_], _ => rfl
  refine F.ok scDr (fun vs H Q E h => ?_) (fun cdv A outer s H vs Q E hr h => ?_)
  · unfold spDrop at h
    obtain ⟨_, _, _, _, _, _, _, _, _, rfl, _⟩ := h; rfl
  · unfold spDrop at h
    obtain ⟨names, least, g, dc, kl, ca, la, st, n, rfl, hg, hn9, lk, bad, fin⟩ := h
    have hu := hr.units
    have hu1 := Nat.lt_trans (Nat.add_lt_add_left (by decide : 1 < 64) _) hu
    obtain ⟨dx, ho⟩ := hg.o
    refine ⟨_, pss_cons (ps_set (i := 2) scDr.nd rfl (Or.inl rfl) (pe_meth0 (CX := L2.CX P w) (pv 0) B.cl mL GL (hr.mono (by decide)) bL .nil (passes_call (takes_of rfl rfl rfl rfl) (fun _ _ _ _ h => h))))
      (pss_cons (ps_if (PW.pt (pw_or (pt_cmpR op_notIn_seq (pv 1) (pf 0) (by rfl)) (pw_or (pt_cmpR op_eq (pv 1) (pf 0) (nomark _)) (pw_or1 (pt_cmpR op_eq (pe_callB call_len_seq (by rfl) T.len PySem.boot_len (pa_cons (pe_fld (pe_dget hu1 (pf 0) (pv 1) (fun _ _ => rfl)) (by rfl)) pa_nil)) (pe_callB call_len_seq (by rfl) T.len PySem.boot_len (pa_cons (pf 2) pa_nil)) (nomark _))))))
        (pss_one (ps_raise rfl (takes_of rfl rfl rfl rfl) (SkE.pmk_own1 PySem.F.excBase_ValueError J.x J.g J.k (raises_own J.b J.t) rfl (pe_joined (.cons (pe_fmt (pv 1)) (.cons pe_str .nil)))))) pss_nil)
      (PSs.nox <| pss_cons (ps_fld (pv 0) (pe_lc (own := [("one", 3)]) (g := gName 3) (tt := tTest (tOp rNe (tVar 3) (tVar 1))) (te := tVar 3) rfl scDr.nd (pi_list (pf 0)) (blkOk_by (N := nDr) (sc := defScope (sRM 10)) (by decide +kernel))
            (fun _ _ _ _ _ => pg_name (i := 3) scDr.nd rfl (Or.inl rfl)) (fun _ _ _ _ _ => pts_one (pt_cmpR op_ne (pv 3) (pv 1) (nomark _))) (fun _ _ _ _ _ => pv 3)) rfl)
      (pss_one (ps_expr (pe_meth0 (pv 0) B.cl mM GM hr bM .nil pass0))))), ?_⟩
    refine ⟨_, rfl, g, dx, _, rfl, ho, gF_m (by decide +kernel) (by decide +kernel) (by decide +kernel) (by decide +kernel) (by decide +kernel), leading_step hg (fun e => bad (.inl e)) fun l hl => ?_⟩
    have hln := hg.ln l hl
    refine ⟨_, rfl, _, rfl, g, CR, dx, _, _, rfl, ho, B.cl, B.nK, rfl, kl, _, rfl, .inl (SqL.of hg.k), rfl, flat_strs _, _, rfl, ?_⟩
    by_cases c1 : n ∈ st.keep
    · refine ifF (by simp [inV_strs, c1]) ?_
      have hn := hg.kn n c1
      refine ⟨_, rfl, _, rfl, g, CR, dx, _, _, rfl, ho, B.cl, B.nL, rfl, by rw [hl]; rfl, _, rfl, ?_⟩
      rw [hl]
      by_cases c2 : n = l
      · refine ifT (by simp [ldV, c2]) (ifT rfl ?_)
        exact js_name rfl hn9 (by decide +kernel) fun _ => bad (.inr (.inr (.inl (by rw [hl, c2]))))
      · refine ifF (by simp [ldV, c2]) ?_
        obtain ⟨dn, hcn⟩ := (hg.cp n hn).o
        obtain ⟨us, hus, hes⟩ := (hg.cp n hn).r
        obtain ⟨dl, hcl⟩ := (hg.cp l hln).o
        obtain ⟨vs, hvs, hfs⟩ := (hg.cp l hln).r
        have l1 := paired_len hes
        have l2 := paired_len hfs
        refine ⟨_, rfl, g, CR, dx, _, _, rfl, ho, B.cl, B.nC, rfl, _, rfl, dc, _, rfl, hg.get hn, ca n, CC, dn, _, _, rfl, hcn, BC.cl, BC.nR, rfl, la n, _, rfl, .inl (SqL.of hus), _, rfl, ca l, CC, dl, _, _, rfl, hcl, BC.cl, BC.nR, rfl, la l, _, rfl, .inl (SqL.of hvs), rfl, _, rfl, ?_⟩
        by_cases c3 : (st.lg n).length = (st.lg l).length
        · refine ifT (by rw [decide_eq_true_eq, List.length_map, List.length_map, l1, l2, c3]) ?_
          exact js_name rfl hn9 (by decide +kernel) fun _ => bad (.inr (.inr (.inr fun l' hl' => by rw [hl] at hl'; rw [← Option.some.inj hl']; exact c3)))
        · refine ifF (by rw [decide_eq_true_eq, List.length_map, List.length_map, l1, l2]; intro z; injection z with z; omega) ?_
          have hk4 := hg.k
          refine ⟨_, rfl, g, CR, dx, _, _, rfl, ho, B.cl, B.nK, rfl, kl, rfl, ⟨_, SqL.of hk4⟩, fun D hD => ?_⟩
          refine lcG walk_list RStr (fun j => st.keep[j]?.bind fun x => if decide (x ≠ n) = true then some x else none) RStr.stab hD (by rw [List.length_map]; have := hg.k9; omega) (fun H5 e5 => SqL.of (e5 _ _ hk4)) (fun i H5 x H6 _ _ h => yat_ex h) (fun j v H5 H6 R0 N0 hj e5 hy hno hsm => ?_) (fun H5 xs e5 hx5 hps => ?_)
          · obtain ⟨rfl, hxi⟩ := hy
            rw [List.getElem?_map] at hxi
            obtain ⟨m, hm, rfl⟩ := Option.map_eq_some_iff.mp hxi
            refine ⟨rfl, _, rfl, _, rfl, rfl, _, rfl, ?_⟩
            by_cases c : m = n
            · refine ifF (by simp [c]) (hno (by rw [hm]; simp [c]) _ (Ex.refl _))
            · refine ifT (by simp [c]) ⟨_, rfl, ?_⟩
              exact hsm m (by rw [hm]; simp [c]) _ _ (Ex.refl _) rfl
          · rw [List.length_map, range_fm, filt_fm] at hps
            rw [rstr_map hps] at hx5
            have g5 := hg.ex e5
            have nk : ∀ m ∈ names, la m ≠ D := fun m hm z => by
              obtain ⟨us', h', _⟩ := (hg.cp m hm).r
              rw [z, hD] at h'
              cases h'
            have hwm : ∀ m ∈ without st.keep n, m ∈ names := fun m hm => hg.kn m (List.mem_filter.mp hm).1
            have g6 := g5.setG (dx := dx) (ld := st.leader) (T := st.time) (keep := without st.keep n) hx5 nk hwm (Nat.le_trans (List.length_filter_le _ _) hg.k9) hg.ln
            have ho5 := e5 _ _ ho
            refine ⟨_, rfl, g, CR, dx, _, rfl, ho5, B.cl, B.nK, (by show 5 < 1000; decide), ?_⟩
            have x6 : ExG g names ca la H (upd H5 g (.ins CR dx (gF dc (ldV st.leader) st.time D least))) := ⟨fun b o h h1 h2 => by rw [L2.upd_ne h1]; exact e5 _ _ h, fun b h => none_of e5 (none_upd ho5 h)⟩
            have ep : putF "keeping" (V.ref D) (gF dc (ldV st.leader) st.time kl least) = gF dc (ldV st.leader) st.time D least := rfl
            rw [ep]
            generalize upd H5 g (.ins CR dx (gF dc (ldV st.leader) st.time D least)) = H6 at g6 x6
            obtain ⟨dx6, ho6⟩ := g6.o
            refine ⟨_, rfl, g, dx6, _, rfl, ho6, gF_m (by decide +kernel) (by decide +kernel) (by decide +kernel) (by decide +kernel) (by decide +kernel), firmG_step g6 (fun z => ?_) fun H7 x7 g7 => fin l hl c1 c2 c3 H7 D (.inr hD) (x6.trans LaN.refl x7) g7⟩
            have : l ∈ without st.keep n := List.mem_filter.mpr ⟨lk l hl, by simp; exact fun z => c2 z.symm⟩
            rw [show without st.keep n = [] from z] at this
            cases this
    · refine ifT (by simp [inV_strs, c1]) (ifT rfl ?_)
      exact js_name rfl hn9 (by decide +kernel) fun _ => bad (.inr (.inl c1))
end
end K6
set_option Elab.async false
set_option linter.all false
set_option maxRecDepth 100000
set_option maxHeartbeats 4000000
namespace K6
open PySem PySem.Spec PyProof.Rows L2 KB KC KS LamX R8 Q6
theorem js_name2 {i : Nat} {txt n : Str} {σ : L2.St} {H : Hp} {R : Str → Hp → Prop} (hs : σ[i]? = some (some (.str n))) (hn : n.length ≤ 900) (ht : txt.length ≤ 100) (r : ∀ out, R out H) : tJs [tC (V.str txt), tFmt (tVar i)] Str.empty σ H R := by
  have hsl : sizeLine = 16777216 := rfl
  have e0 : Str.empty.length = 0 := rfl
  refine ⟨_, rfl, by rw [str_len, e0]; omega, _, hs, .inl ⟨n, rfl, by omega, n, rfl, by rw [str_len, str_len, e0]; omega, r _⟩⟩
theorem cutV_nat (xs : List V) (b f : Nat) : cutV xs (some (b : Int)) (some (f : Int)) = (xs.drop b).take (f - b) := by
  unfold cutV
  rw [HT.sIx_nat, HT.sIx_nat]
  by_cases h : b ≤ xs.length
  · rw [Nat.min_eq_left h, List.take_eq_take_iff, List.length_drop]
    omega
  · rw [Nat.min_eq_right (show xs.length ≤ b by omega), List.drop_length, List.drop_eq_nil_of_le (by omega), List.take_nil, List.take_nil]
def RRow : Hp → V → Ent → Prop := fun H v e => ∃ r, v = .ref r ∧ H r = some (.tup [.str "row", .int e.2])
theorem RRow.stab : ∀ H H' v a, KT' H H' → RRow H v a → RRow H' v a := fun _ _ _ _ k ⟨r, h1, h2⟩ => ⟨r, h1, k _ _ h2⟩
theorem Es.at2 {H : Hp} : ∀ {us : List Addr} {c : Lg}, Es H us c → ∀ {i : Nat} {t : Addr}, us[i]? = some t → ∃ e r, c[i]? = some e ∧ H t = some (.tup [.int e.1, .ref r]) ∧ H r = some (.tup [.str "row", .int e.2])
  | _, _, .nil, i, t, h => by simp at h
  | _, _, .cons (a := a) (b := b) ⟨r, h1, h2⟩ p, i, t, e => by
    cases i with
    | zero => cases e; exact ⟨b, r, rfl, h1, h2⟩
    | succ i => exact Es.at2 p (i := i) e
theorem range_some {α : Type} (xs : List α) : (List.range xs.length).filterMap (fun i => xs[i]?) = xs := by
  have := range_fm (fun a : α => some a) xs
  simpa using this
section
variable {P : Program} {w : World} {K : PySem.W.Frag} {mg : Str → Option Value} {base : Heap} {CR CC CE f fL fM fE fC : Addr} {fd fdL fdM fdE fdC : FuncData}
abbrev nRd : List Str := ["self", "name", "place", "copy", "_", "row"]
theorem scRd : FnScope nRd ["self", "name", "place"] (defScope (sRM 11)) := ⟨rfl, rfl, rfl, by decide +kernel, rfl, by decide +kernel, by decide +kernel⟩
theorem ok_read (F : FnP K "read" "Replicas.read" (sRM 11) [] f fd) (B : TxtR K mg CR) (BC : TxtC K mg CC) (J : TxtX K mg CE) (T : TxtL mg) :
    FnOk P w K mg base (L2.CX P w) 1 f fd ["self", "name", "place"] (spRead CR CC CE) := by
  refine F.ok scRd (fun vs H Q E h => ?_) (fun cdv A outer s H vs Q E hr h => ?_)
  · unfold spRead at h
    obtain ⟨_, _, _, _, _, _, _, _, _, _, rfl, _⟩ := h; rfl
  · unfold spRead at h
    obtain ⟨names, least, g, dc, kl, ca, la, st, n, p, rfl, hg, hn9, bad, fin⟩ := h
    have hu := hr.units
    have hu1 := Nat.lt_trans (Nat.add_lt_add_left (by decide : 1 < 64) _) hu
    obtain ⟨dx, ho⟩ := hg.o
    refine ⟨_, pss_cons (ps_if (pt_cmp (pc_dnotin hu1 (pv 1) (pf 0)))
        (pss_one (ps_raise rfl (takes_of rfl rfl rfl rfl) (SkE.pmk_own1 PySem.F.excBase_ValueError J.x J.g J.k (raises_own J.b J.t) rfl (pe_joined (.cons pe_str (.cons (pe_fmt (pv 1)) .nil)))))) pss_nil)
      (PSs.nox <| pss_cons (ps_set (i := 3) scRd.nd rfl (Or.inl rfl) (pe_dget hu1 (pf 0) (pv 1) (fun _ _ => rfl)))
      (pss_one (ps_ret (pe_callTy call_tuple_of (by rfl) T.tuple (by decide +kernel) (pa_cons (pe_lc (own := [("_", 4), ("row", 5)]) (g := gTup K 2 (gCons (gName 4) (gCons (gName 5) gNil))) (tt := tYes) (te := tVar 5) rfl scRd.nd
          (pi_list (pe_slice sl_list (pf 3) (po_some (pe_callB (call_max2 rfl) (by rfl) T.max (by decide +kernel) (pa_cons (pv 2) (pa_cons pe_int pa_nil)))) (po_some (pf 3)))) (blkOk_by (N := nRd) (sc := defScope (sRM 11)) (by decide +kernel))
          (fun _ _ _ _ _ => pg_tup rfl (pgs_cons (pg_name (i := 4) scRd.nd rfl (Or.inl rfl)) (pgs_cons (pg_name (i := 5) scRd.nd rfl (Or.inl rfl)) pgs_nil))) (fun _ _ _ _ _ => pts_nil) (fun _ _ _ _ _ => pv 5)) pa_nil))))), ?_⟩
    refine ⟨_, rfl, _, rfl, g, CR, dx, _, _, rfl, ho, B.cl, B.nC, rfl, dc, _, rfl, hg.get0 n, _, rfl, ?_⟩
    by_cases c1 : n ∈ names
    · rw [if_pos c1]
      refine ifF (by simp) ?_
      obtain ⟨dn, hcn⟩ := (hg.cp n c1).o
      obtain ⟨us, hus, hes⟩ := (hg.cp n c1).r
      have l1 := paired_len hes
      have l9 := hg.lt n c1
      have hsl : sizeLine = 16777216 := rfl
      refine ⟨_, rfl, g, CR, dx, _, _, rfl, ho, B.cl, B.nC, rfl, _, rfl, dc, _, rfl, hg.get c1, ?_⟩
      refine ⟨_, rfl, ca n, CC, dn, _, _, rfl, hcn, BC.cl, BC.nR, rfl, _, rfl, _, _, rfl, _, rfl, _, rfl, ca n, CC, dn, _, _, rfl, hcn, BC.cl, BC.nF, rfl, _, rfl, la n, _, rfl, SqL.of hus, fun q hq => ?_⟩
      have em : (if (0 : Int) > p then (0 : Int) else p) = ((p.toNat : Nat) : Int) := by split <;> omega
      rw [em, cutV_nat, ← List.map_drop, ← List.map_take]
      have es1 : Es H ((us.drop p.toNat).take (st.firm n - p.toNat)) (((st.lg n).drop p.toNat).take (st.firm n - p.toNat)) := paired_take _ (paired_drop _ hes)
      generalize hws : (us.drop p.toNat).take (st.firm n - p.toNat) = ws at es1
      have e2 : Ex H (upd H q (.lst (ws.map V.ref))) := Ex.upd hq
      have h2 : (upd H q (.lst (ws.map V.ref))) q = some (.lst (ws.map V.ref)) := upd_same
      generalize upd H q (.lst (ws.map V.ref)) = H2 at e2 h2
      have es2 : Es H2 ws (((st.lg n).drop p.toNat).take (st.firm n - p.toNat)) := es1.kt fun b xs h => e2 _ _ h
      have hwl := paired_len es2
      refine ⟨q, rfl, ⟨_, SqL.of h2⟩, fun D hD => ?_⟩
      refine lcG walk_list RRow (fun j => (((st.lg n).drop p.toNat).take (st.firm n - p.toNat))[j]?) RRow.stab hD (by rw [List.length_map, hwl, List.length_take, List.length_drop]; omega) (fun H5 e5 => SqL.of (e5 _ _ h2)) (fun i H5 x H6 _ _ h => yat_ex h) (fun j v H5 H6 R0 N0 hj e5 hy hno hsm => ?_) (fun H5 xs e5 hx5 hps => ?_)
      · obtain ⟨rfl, hxi⟩ := hy
        rw [List.getElem?_map] at hxi
        obtain ⟨t, ht, rfl⟩ := Option.map_eq_some_iff.mp hxi
        obtain ⟨e, r, he, h3, h4⟩ := es2.at2 ht
        refine ⟨t, _, rfl, SqT.of (e5 _ _ h3), rfl, _, _, rfl, _, _, rfl, rfl, rfl, _, rfl, ?_⟩
        exact hsm e he _ _ (Ex.refl _) ⟨r, rfl, e5 _ _ h4⟩
      · rw [List.length_map, hwl, range_some] at hps
        refine ⟨D, _, rfl, .inl ⟨SqL.of hx5, fun q3 hq3 => ?_⟩⟩
        refine fin c1 _ q3 xs ((e2.trans e5).trans (Ex.upd hq3)) upd_same (paired_mono (fun v e ⟨r, h5, h6⟩ => ⟨r, h5, Ex.upd hq3 _ _ h6⟩) hps)
    · rw [if_neg c1]
      refine ifT rfl ?_
      exact js_name2 rfl hn9 (by decide +kernel) fun _ => bad c1
end
end K6
set_option Elab.async false
set_option linter.all false
set_option maxRecDepth 100000
set_option maxHeartbeats 4000000
namespace K6
open PySem PySem.Spec PyProof.Rows L2 KB KC KS LamX R8 Q6
def tTruth (K : PySem.W.Frag) (t : TE) : TT := fun σ H Q => t σ H fun x H' => ∃ k, TruV K x H' k ∧ Q k H'
def ableOf (s : Rp Str) : List Str := s.keep.filter fun n => s.up n
theorem cut_self {f : Lg} {t : Int} {p : Nat} (tm : Tm t f) (h : CutP f f t p) : f.take p = f := by
  have : f.length ≤ p := h.2 _ (Nat.le_refl _) fun e he _ => ⟨he, tm.hi e (List.mem_of_getElem? he)⟩
  exact List.take_of_length_le this
theorem nodup_take {l : List Str} (nd : l.Nodup) {i : Nat} {m : Str} (h : l[i]? = some m) : m ∉ l.take i := fun z => by
  obtain ⟨j, hj, e⟩ := List.mem_take_iff_getElem.mp z
  obtain ⟨hi, e2⟩ := List.getElem?_eq_some_iff.mp h
  have := List.pairwise_iff_getElem.mp nd j i (by omega) hi (by omega)
  exact this (e.trans e2.symm)
@[irreducible] def spElect (CR CC : Addr) : Sp := fun vs H Q _ => ∃ (names : List Str) (least : Int) (g dc kl : Addr) (ca la : Str → Addr) (s : Rp Str), vs = [.ref g] ∧ Grp CR CC names least g dc kl ca la s H ∧ s.keep.Nodup ∧ (∀ m ∈ names, Tm s.time (s.lg m)) ∧ 0 ≤ s.time ∧
  (s.leader ≠ none ∨ ableOf s = [] → ∀ H', Ex H H' → Q (ldV s.leader) H') ∧
  (∀ l r, s.leader = none → ableOf s = l :: r → ∀ H' kl' la' lgf, (kl' = kl ∨ H kl' = none) → LaN names la la' H → ExG g names ca la H H' → (∀ m ∈ ableOf s, ∃ p, CutP (s.lg m) (s.lg l) (s.time + 1) p ∧ lgf m = (s.lg m).take p) → (∀ m, m ∉ ableOf s → lgf m = s.lg m) →
    Grp CR CC names least g dc kl' ca la' (firmed ⟨lgf, s.firm, s.up, some l, s.time + 1, ableOf s⟩) H' → Q (.str l) H')
theorem elect_step {CR CC : Addr} {names : List Str} {least : Int} {g dc kl : Addr} {ca la : Str → Addr} {s : Rp Str} {H : Hp} {Q : VK} {E : XK} (h : Grp CR CC names least g dc kl ca la s H) (kd : s.keep.Nodup) (tm : ∀ m ∈ names, Tm s.time (s.lg m)) (t0 : 0 ≤ s.time)
    (same : s.leader ≠ none ∨ ableOf s = [] → ∀ H', Ex H H' → Q (ldV s.leader) H')
    (fin : ∀ l r, s.leader = none → ableOf s = l :: r → ∀ H' kl' la' lgf, (kl' = kl ∨ H kl' = none) → LaN names la la' H → ExG g names ca la H H' → (∀ m ∈ ableOf s, ∃ p, CutP (s.lg m) (s.lg l) (s.time + 1) p ∧ lgf m = (s.lg m).take p) → (∀ m, m ∉ ableOf s → lgf m = s.lg m) →
      Grp CR CC names least g dc kl' ca la' (firmed ⟨lgf, s.firm, s.up, some l, s.time + 1, ableOf s⟩) H' → Q (.str l) H') : spElect CR CC [.ref g] H Q E := by
  unfold spElect
  exact ⟨names, least, g, dc, kl, ca, la, s, rfl, h, kd, tm, t0, same, fin⟩
section
variable {P : Program} {w : World} {K : PySem.W.Frag} {mg : Str → Option Value} {base : Heap} {CR CC CE f fL fM fE fC : Addr} {fd fdL fdM fdE fdC : FuncData}
abbrev nEl : List Str := ["self", "name", "able"]
theorem scEl : FnScope nEl ["self"] (defScope (sRM 9)) := ⟨rfl, rfl, rfl, by decide +kernel, rfl, by decide +kernel, by decide +kernel⟩
theorem ok_elect (F : FnP K "elect" "Replicas.elect" (sRM 9) [] f fd) (B : TxtR K mg CR) (BC : TxtC K mg CC) (J : TxtX K mg CE) (T : TxtL mg) (FL : FnP K "leading" "Replicas.leading" (sRM 1) [] fL fdL) (mL : Meth K CR "leading" fL) (FM : FnP K "make_firm" "Replicas.make_firm" (sRM 3) [] fM fdM) (mM : Meth K CR "make_firm" fM)
    (FC : FnP K "cut" "Replicas.cut" (sRM 6) [] fC fdC) (mC : Meth K CR "cut" fC) (FE : FnP K "end_of" "Copy.end_of" (sCM 1) [] fE fdE) (mE : Meth K CC "end_of" fE) :
    FnOk P w K mg base CX0 3 f fd ["self"] (spElect CR CC) := by
  have GM : FnOk P w K mg base CX0 1 fM fdM ["self"] (spFirmG CR CC) := ok_firmG FM B BC T
  have GC : FnOk P w K mg base CX0 2 fC fdC ["self", "follower"] (spCut CR CC) := ok_cut FC B BC J T FL mL FE mE
  have bM : Binds K fdM ["self"] [] := FM.bindsN fun _ _ _ _ _ _ us hl => match us, hl with | [_], _ => rfl
  have bC : Binds K fdC ["self", "follower"] [] := FC.bindsN fun _ _ _ _ _ _ us hl => match us, hl with | [_, _], _ => rfl
  refine F.ok scEl (fun vs H Q E h => ?_) (fun cdv A outer s H vs Q E hr h => ?_)
  · unfold spElect at h
    obtain ⟨_, _, _, _, _, _, _, _, rfl, _⟩ := h; rfl
  · unfold spElect at h
    obtain ⟨names, least, g, dc, kl, ca, la, st, rfl, hg, kd, tm, t0, same, fin⟩ := h
    have hu := hr.units
    have hu1 := Nat.lt_trans (Nat.add_lt_add_left (by decide : 1 < 64) _) hu
    obtain ⟨dx, ho⟩ := hg.o
    refine ⟨_, PSs.nox <| pss_cons (ps_setLc (i := 2) (own := [("name", 1)]) (g := gName 1) (tt := tTruth K (tFld K (tDGet (tFld K (tVar 0) "copies") (tVar 1)) "is_up")) (te := tVar 1) rfl scEl.nd rfl rfl (sw_true rfl rfl rfl (by decide +kernel)) (pi_list (pf 0)) (blkOk_by (N := nEl) (sc := defScope (sRM 9)) (by decide +kernel))
          (fun _ _ _ _ _ => pg_name (i := 1) scEl.nd rfl (Or.inl rfl)) (fun _ _ _ _ _ => pts_one (pt_truth (pe_fld (pe_dget hu1 (pf 0) (pv 1) (fun _ _ => rfl)) (by rfl)) (fun _ => rfl))) (fun _ _ _ _ _ => pv 1))
      (pss_cons (ps_if (PW.pt (pw_or (pt_cmp (pc_notN (pf 0))) (pw_or1 (pt_cmpR (op_eqD hu) (pv 2) (pe_lst pa_nil) (nomark _))))) (pss_one (ps_ret (pf 0))) pss_nil)
      (pss_cons (ps_fld (pv 0) (pe_ix ix_listD (pv 2) pe_int (fun _ _ => rfl)) rfl)
      (pss_cons (ps_fldaug (pv 0) pe_int in_add)
      (pss_cons (ps_fld (pv 0) (pv 2) rfl)
      (pss_cons (ps_for PassesOwn.never rfl (pi_list (pv 2)) (pg_name (i := 1) scEl.nd rfl (Or.inl rfl)) (pss_one (ps_expr (pe_meth (pv 0) B.cl mC GC (hr.mono (by decide)) bC .nil pass0 (pa_cons (pe_dget hu1 (pf 0) (pv 1) (fun _ _ => rfl)) pa_nil)))))
      (pss_cons (ps_expr (pe_meth0 (pv 0) B.cl mM GM (hr.mono (by decide)) bM .nil pass0))
      (pss_one (ps_ret (pf 0))))))))), ?_⟩
    refine ⟨_, rfl, g, CR, dx, _, _, rfl, ho, B.cl, B.nK, rfl, kl, rfl, ⟨_, SqL.of hg.k⟩, fun D hD => ?_⟩
    refine lcG walk_list RStr (fun j => st.keep[j]?.bind fun x => if st.up x = true then some x else none) RStr.stab hD (by rw [List.length_map]; have := hg.k9; omega) (fun H5 e5 => SqL.of (e5 _ _ hg.k)) (fun i H5 x H6 _ _ h => yat_ex h) (fun j v H5 H6 R0 N0 hj e5 hy hno hsm => ?_) (fun H1 xs e1 hx1 hps => ?_)
    · obtain ⟨rfl, hxi⟩ := hy
      rw [List.getElem?_map] at hxi
      obtain ⟨n, hn, rfl⟩ := Option.map_eq_some_iff.mp hxi
      have hnn := hg.kn n (List.mem_of_getElem? hn)
      have x5 := hg.ex e5
      obtain ⟨dn, hcn⟩ := (x5.cp n hnn).o
      refine ⟨rfl, _, rfl, g, CR, dx, _, _, rfl, e5 _ _ ho, B.cl, B.nC, rfl, _, rfl, dc, _, rfl, x5.get hnn, ca n, CC, dn, _, _, rfl, hcn, BC.cl, BC.nU, rfl, _, rfl, ?_⟩
      by_cases c : st.up n = true
      · refine ifT c ⟨_, rfl, ?_⟩
        exact hsm n (by rw [hn]; show (if st.up n = true then _ else _) = _; rw [if_pos c]) _ _ (Ex.refl _) rfl
      · refine ifF c (hno (by rw [hn]; show (if st.up n = true then _ else _) = _; rw [if_neg c]) _ (Ex.refl _))
    · rw [List.length_map, range_fm, filt_fm] at hps
      rw [rstr_map hps, show st.keep.filter (fun n => st.up n) = ableOf st from rfl] at hx1
      have x1 := hg.ex e1
      have ho1 := e1 _ _ ho
      refine ⟨_, rfl, g, CR, dx, _, _, rfl, ho1, B.cl, B.nL, rfl, _, rfl, ?_⟩
      rw [ldV_non]
      cases e : st.leader with
      | some l0 =>
        rw [e] at ho1 same
        refine ifT (by simp) (ifT rfl ?_)
        exact ⟨_, rfl, g, CR, dx, _, _, rfl, ho1, B.cl, B.nL, rfl, same (.inl (by simp)) _ e1⟩
      | none =>
        refine ifF (by simp) ?_
        refine ⟨_, rfl, (by decide), fun t2 ht2 => ?_⟩
        have e2 : Ex H (upd H1 t2 (.lst [])) := e1.trans (Ex.upd ht2)
        have hx2 := Ex.upd (o := .lst []) ht2 _ _ hx1
        have h2 : (upd H1 t2 (.lst [])) t2 = some (.lst (([] : List Str).map V.str)) := upd_same
        generalize upd H1 t2 (.lst []) = H2 at e2 hx2 h2
        have ho2 := e2 _ _ ho
        have g2 := hg.ex e2
        have am : ∀ m ∈ ableOf st, m ∈ names := fun m hm => hg.kn m (List.mem_filter.mp hm).1
        refine ⟨_, _, .lst (SqL.of hx2) (dp_strs (ableOf st)), .lst (SqL.of h2) (dp_strs []), sh_strs (fun m hm => (hg.ns m (am m hm)).2), rfl, _, rfl, ?_⟩
        rw [eqv_strs]
        cases ea : ableOf st with
        | nil =>
          rw [e] at ho2
          refine ifT (by simp) ?_
          refine ⟨_, rfl, g, CR, dx, _, _, rfl, ho2, B.cl, B.nL, rfl, ?_⟩
          rw [e] at same
          exact same (.inr ea) _ e2
        | cons l r =>
          refine ifF (by simp) ?_
          have hk9 : (ableOf st).length ≤ 9 := Nat.le_trans (List.length_filter_le _ _) hg.k9
          have an : (ableOf st).Nodup := List.Pairwise.filter _ kd
          have lab : l ∈ ableOf st := by rw [ea]; exact List.mem_cons_self
          have hln := am l lab
          have hT : Tm (st.time + 1) (st.lg l) := (tm l hln).mono (by omega)
          have at0l : atI ((ableOf st).map V.str) 0 = some (.str l) := by rw [ea]; exact atI_nat (j := 0) rfl
          refine ⟨_, rfl, D, _, 0, _, rfl, rfl, hx2, at0l, _, rfl, g, CR, dx, _, rfl, ho2, B.cl, B.nL, (by show 5 < 1000; decide), ?_⟩
          refine ⟨_, rfl, g, CR, dx, _, _, rfl, upd_same, B.cl, B.nT, rfl, _, _, rfl, rfl, dx, _, upd_same, (by show 5 < 1000; decide), ?_⟩
          rw [upd2]
          refine ⟨_, rfl, _, rfl, g, CR, dx, _, rfl, upd_same, B.cl, B.nK, (by show 5 < 1000; decide), ?_⟩
          rw [upd2]
          have ep : putF "keeping" (V.ref D) (putF "time" (V.int (st.time + 1)) (putF "leader" (V.str l) (gF dc (ldV st.leader) st.time kl least))) = gF dc (ldV (some l)) (st.time + 1) D least := rfl
          rw [ep]
          have nkD : ∀ m ∈ names, la m ≠ D := fun m hm z => by
            obtain ⟨us', h', _⟩ := (hg.cp m hm).r
            rw [z, hD] at h'
            cases h'
          have g3 := g2.setG (dx := dx) (ld := some l) (T := st.time + 1) (keep := ableOf st) hx2 nkD am hk9 (fun _ z => by rw [← Option.some.inj z]; exact hln)
          have x3 : ExG g names ca la H (upd H2 g (.ins CR dx (gF dc (ldV (some l)) (st.time + 1) D least))) := ⟨fun b o h h1 h2 => by rw [L2.upd_ne h1]; exact e2 _ _ h, fun b h => none_of e2 (none_upd ho2 h)⟩
          have hD3 : (upd H2 g (.ins CR dx (gF dc (ldV (some l)) (st.time + 1) D least))) D = some (.lst ((ableOf st).map V.str)) := g3.k
          generalize upd H2 g (.ins CR dx (gF dc (ldV (some l)) (st.time + 1) D least)) = H3 at g3 x3 hD3
          refine ⟨_, rfl, D, rfl, ⟨_, SqL.of hD3⟩, for_list (xs := (ableOf st).map V.str) (fun i σ H4 => ∃ v f la', σ = [some (.ref g), v, some (.ref D)] ∧ ExG g names ca la H H4 ∧ LaN names la la' H ∧ Grp CR CC names least g dc D ca la' ⟨f, st.firm, st.up, some l, st.time + 1, ableOf st⟩ H4 ∧ (∀ m ∈ (ableOf st).take i, ∃ p, CutP (st.lg m) (st.lg l) (st.time + 1) p ∧ f m = (st.lg m).take p) ∧ (∀ m, m ∉ (ableOf st).take i → f m = st.lg m))
            ⟨_, st.lg, la, rfl, x3, LaN.refl, g3, (fun m hm => by rw [List.take_zero] at hm; cases hm), fun _ _ => rfl⟩ (fun i σ H4 _ h => by obtain ⟨_, _, _, _, _, _, g4, _⟩ := h; exact SqL.of g4.k) ?_ ?_⟩
          · rintro i x σ H4 hx ⟨v, f, la', rfl, x4, la4, g4, hin, hout⟩
            rw [List.getElem?_map] at hx
            obtain ⟨m, hm, rfl⟩ := Option.map_eq_some_iff.mp hx
            have hmA := List.mem_of_getElem? hm
            have hmn := am m hmA
            have fm : f m = st.lg m := hout m (nodup_take an hm)
            have fl : f l = st.lg l := by
              by_cases z : l ∈ (ableOf st).take i
              · obtain ⟨p, cp, e5⟩ := hin l z
                rw [e5, cut_self hT cp]
              · exact hout l z
            obtain ⟨dx4, ho4⟩ := g4.o
            refine ⟨_, rfl, g, dx4, _, rfl, ho4, gF_m (by decide +kernel) (by decide +kernel) (by decide +kernel) (by decide +kernel) (by decide +kernel), _, rfl, g, CR, dx4, _, _, rfl, ho4, B.cl, B.nC, rfl, _, rfl, dc, _, rfl, g4.get hmn, ?_⟩
            refine cut_step g4 hmn rfl (by show Tm (st.time + 1) (f m); rw [fm]; exact (tm m hmn).mono (by omega)) (by show Tm (st.time + 1) (f l); rw [fl]; exact hT) (by show 0 ≤ st.time + 1; omega) fun H5 q p hq x5 g5 cp => ?_
            have cp' : CutP (st.lg m) (st.lg l) (st.time + 1) p := by
              have : CutP (f m) (f l) (st.time + 1) p := cp
              rw [fm, fl] at this
              exact this
            have ts : (ableOf st).take (i + 1) = (ableOf st).take i ++ [m] := by rw [List.take_succ, hm]; rfl
            refine ⟨_, Q6.set f m ((f m).take p), Q6.set la' m q, rfl, x4.trans la4 x5, la4.set x4 hq, g5, fun o ho => ?_, fun o ho => ?_⟩
            · rw [ts] at ho
              by_cases z : o = m
              · rw [z, set_same, fm]
                exact ⟨p, cp', rfl⟩
              · rw [set_ne z]
                rcases List.mem_append.mp ho with h | h
                · exact hin o h
                · exact absurd (List.mem_singleton.mp h) z
            · rw [ts] at ho
              have z : o ≠ m := fun z => ho (List.mem_append_right _ (by rw [z]; exact List.mem_singleton.mpr rfl))
              rw [set_ne z]
              exact hout o fun h => ho (List.mem_append_left _ h)
          · rintro σ H4 ⟨v, f, la', rfl, x4, la4, g4, hin, hout⟩
            rw [List.length_map, List.take_length] at hin hout
            obtain ⟨dx4, ho4⟩ := g4.o
            refine ⟨_, rfl, g, dx4, _, rfl, ho4, gF_m (by decide +kernel) (by decide +kernel) (by decide +kernel) (by decide +kernel) (by decide +kernel), firmG_step g4 (fun z => by rw [show ableOf st = [] from z] at lab; cases lab) fun H5 x5 g5 => ?_⟩
            obtain ⟨dx5, ho5⟩ := g5.o
            refine ⟨_, rfl, g, CR, dx5, _, _, rfl, ho5, B.cl, B.nL, rfl, ?_⟩
            exact fin l r e ea H5 D la' f (.inr hD) la4 (x4.trans la4 x5) hin hout g5
end
end K6
set_option Elab.async false
set_option linter.all false
set_option maxRecDepth 100000
set_option maxHeartbeats 4000000
namespace K6
open PySem PySem.Spec PyProof.Rows L2 KB KC KS LamX R8 Q6
def tChain3 (r r' r'' : R2) (ta tb tc td : TE) : TE := fun σ H Q => ta σ H fun x H1 => tb σ H1 fun y H2 => r x y H2 fun z H3 => ∃ k, z = .bl k ∧
  (if k = true then tc σ H3 fun w H4 => r' y w H4 fun z' H5 => ∃ k', z' = .bl k' ∧ (if k' = true then td σ H5 fun v H6 => r'' w v H6 Q else Q (.bl false) H5) else Q (.bl false) H3)
theorem pe_chain3 {X : Cx} {a b c d : Expr} {pos : Pos} {ta tb tc td : TE} {op op' op'' : CmpOp} {r r' r'' : R2} (ho : OpR X (compareOp op) r) (ho' : OpR X (compareOp op') r') (ho'' : OpR X (compareOp op'') r'') (ha : PE X a ta) (hb : PE X b tb) (hc : PE X c tc) (hd : PE X d td)
    (hm : lastMarks [op, op', op''] [b, c, d] = false := by with_unfolding_all rfl) : PE X (.Compare a [op, op', op''] [b, c, d] pos) (tChain3 r r' r'' ta tb tc td) := by
  refine ⟨fun pins s σ H Q I h => ?_⟩
  refine Compare_chain (thn (ha.run pins s σ H _ I h) fun v s1 ⟨x, H1, I1, r1, q1⟩ => chain_link (thn (hb.run pins s1 σ H1 _ I1 q1) fun u s2 ⟨y, H2, I2, r2, q2⟩ =>
    thn (ho pins s2 σ H2 x y v u _ I2 r1 r2 q2) fun e s3 ⟨z, H3, I3, r3, k, ek, q3⟩ => ?_)) hm
  subst ek
  cases r3
  refine wpAny_truthy_bool ?_
  cases k with
  | false => exact ite_ff ⟨.bl false, H3, I3, rfl, q3⟩
  | true =>
    refine ite_tt (chain_link (thn (hc.run pins s3 σ H3 _ I3 q3) fun w' s4 ⟨z', H4, I4, r4, q4⟩ => thn (ho' pins s4 σ H4 y z' u w' _ I4 r2 r4 q4) fun e' s5 ⟨z2, H5, I5, r5, k', ek', q5⟩ => ?_))
    subst ek'
    cases r5
    refine wpAny_truthy_bool ?_
    cases k' with
    | false => exact ite_ff ⟨.bl false, H5, I5, rfl, q5⟩
    | true => exact ite_tt (chain_last (thn (hd.run pins s5 σ H5 _ I5 q5) fun w2 s6 ⟨z3, H6, I6, r6, q6⟩ => ho'' pins s6 σ H6 z' z3 w' w2 Q I6 r4 r6 q6))
def kvF (f : Str → V) (ks : List Str) : List (Key × V) := ks.map fun n => (Sum.inr n, f n)
theorem valV_kvF {f : Str → V} {ks : List Str} (n : Str) : valV (kvF f ks) (Sum.inr n) = if n ∈ ks then some (f n) else none := by
  unfold valV kvF
  rw [List.find?_map]
  have e : ((fun kv : Key × V => decide (kv.1 = Sum.inr n)) ∘ fun p : Str => (Sum.inr p, f p)) = fun p => decide (p = n) := by
    funext p
    simp
  rw [e]
  induction ks with
  | nil => rfl
  | cons a r ih =>
    rw [List.find?_cons]
    by_cases h : a = n
    · subst h
      simp
    · have h' : ¬ n = a := fun z => h z.symm
      simp only [h, decide_false, List.mem_cons, h', false_or]
      exact ih
theorem kvF_len {f : Str → V} {ks : List Str} : (kvF f ks).length = ks.length := List.length_map _
theorem putK_kvF_new {f f' : Str → V} {ks : List Str} {n : Str} (h : n ∉ ks) (hf : ∀ m ∈ ks, f' m = f m) : putK (kvF f ks) (Sum.inr n) (f' n) = kvF f' (ks ++ [n]) := by
  rw [putK_new _ (by rw [valV_kvF, if_neg h])]
  unfold kvF
  rw [List.map_append]
  congr 1
  exact List.map_congr_left fun m hm => by rw [hf m hm]
theorem putK_kvF_same {f : Str → V} {ks : List Str} {n : Str} (h : n ∈ ks) : putK (kvF f ks) (Sum.inr n) (f n) = kvF f ks := by
  unfold putK
  rw [valV_any, valV_kvF, if_pos h]
  show (kvF f ks).map _ = _
  unfold kvF
  rw [List.map_map]
  refine List.map_congr_left fun m _ => ?_
  show (if (Sum.inr m : Key) = Sum.inr n then ((Sum.inr m : Key), f n) else (Sum.inr m, f m)) = _
  by_cases e : m = n
  · rw [if_pos (by rw [e]), e]
  · rw [if_neg (fun z => e (Sum.inr.inj z))]
theorem not_nodup_lt : ∀ {names ks : List Str}, ks.Nodup → (∀ x ∈ ks, x ∈ names) → ¬ names.Nodup → ks.length < names.length
  | [], _, _, _, h => absurd List.nodup_nil h
  | y :: r, ks, kn, hs, h => by
    rw [List.nodup_cons] at h
    by_cases c : y ∈ r
    · have := nodup_len kn fun x hx => by
        rcases List.mem_cons.mp (hs x hx) with z | z
        · rw [z]; exact c
        · exact z
      rw [List.length_cons]
      omega
    · have h2 : ¬ r.Nodup := fun z => h ⟨c, z⟩
      have := not_nodup_lt (names := r) (ks := ks.erase y) (kn.erase y) (fun x hx => by
        have := (kn.mem_erase_iff.mp hx)
        rcases List.mem_cons.mp (hs x this.2) with z | z
        · exact absurd z this.1
        · exact z) h2
      have l2 : ks.length ≤ (ks.erase y).length + 1 := by
        rw [List.length_erase]
        split <;> omega
      rw [List.length_cons]
      omega
theorem dc_list {K : PySem.W.Frag} {a : Addr} {xs : List V} {g : TG} {tt : TT} {tk tv : TE} {vs : List Nat} {σ : L2.St} {H1 : Hp} {D : Addr} {Qd : Hp → Prop} (Pv : Nat → Hp → Prop) (h0 : Pv 0 (upd H1 D (.dK []))) (hl : ∀ i H, i ≤ xs.length → Pv i H → SqL K H a xs)
    (hs : ∀ i x H, xs[i]? = some x → Pv i H → g x (wipe σ vs) H fun σ2 H2 => wipe σ2 vs = wipe σ vs ∧ tt σ2 H2 fun b H3 =>
      if b = true then tk σ2 H3 fun y H4 => tv σ2 H4 fun z H5 => ∃ kvs k, y = kV k ∧ H5 D = some (.dK kvs) ∧ kvs.length < sizeLine ∧ Pv (i + 1) (upd H5 D (.dK (putK kvs k z))) else Pv (i + 1) H3) (hd : ∀ H, Pv xs.length H → Qd H) :
    ∃ W : Nat → Nat → Hp → Prop, (∃ m, W 0 m (upd H1 D (.dK []))) ∧ ∀ i m H, W i m H →
      ((Itl K a).stop i H ∧ Qd H) ∨ ((Itl K a).go i H ∧ ∃ Nx : Hp → Prop, (∀ H', Nx H' → ∃ m', m' < m ∧ W (i + 1) m' H') ∧ ∀ x H', (Itl K a).yld i H x H' → g x (wipe σ vs) H' fun σ2 H2 => wipe σ2 vs = wipe σ vs ∧ tt σ2 H2 fun b H3 =>
        if b = true then tk σ2 H3 fun y H4 => tv σ2 H4 fun z H5 => ∃ kvs k, y = kV k ∧ H5 D = some (.dK kvs) ∧ kvs.length < sizeLine ∧ Nx (upd H5 D (.dK (putK kvs k z))) else Nx H3) := by
  refine ⟨fun i m H => m = xs.length - i ∧ i ≤ xs.length ∧ Pv i H, ⟨xs.length, by simp, Nat.zero_le _, h0⟩, ?_⟩
  rintro i m H ⟨rfl, hi, p⟩
  have q := hl i H hi p
  by_cases hlt : i < xs.length
  · refine .inr ⟨(walk_list (K := K) (a := a) (xs := xs)).goes i H hlt q, Pv (i + 1), fun H' p' => ⟨xs.length - (i + 1), by omega, rfl, hlt, p'⟩, fun x H' y => ?_⟩
    obtain ⟨e, hy⟩ := (walk_list (K := K) (a := a) (xs := xs)).yields i H x H' hlt q y
    subst e
    exact hs i x _ hy p
  · have e : i = xs.length := by omega
    subst e
    exact .inl ⟨(walk_list (K := K) (a := a) (xs := xs)).stops H q, hd H p⟩
structure Cps (CC D : Addr) (H2 : Hp) (ms : List Str) (ca la : Str → Addr) (H3 : Hp) : Prop where
  e : Ex H2 H3
  d : H3 D = some (.dK (kvF (fun n => .ref (ca n)) ms))
  o : ∀ n ∈ ms, (∃ dxn, H3 (ca n) = some (.ins CC dxn (cF (la n) ((0 : Nat) : Int) true))) ∧ H3 (la n) = some (.lst []) ∧ H2 (ca n) = none ∧ H2 (la n) = none
  ic : ∀ n ∈ ms, ∀ m ∈ ms, ca n = ca m → n = m
  il : ∀ n ∈ ms, ∀ m ∈ ms, la n = la m → n = m
theorem Cps.add {CC D x dx l : Addr} {H2 H3 H4 : Hp} {ms : List Str} {ca la : Str → Addr} {n : Str} (c : Cps CC D H2 ms ca la H3) (hD : H2 D = none) (hn : n ∉ ms) (e : Ex H3 H4) (hx : H3 x = none) (hl : H3 l = none) (h1 : H4 x = some (.ins CC dx (cF l ((0 : Nat) : Int) true))) (h2 : H4 l = some (.lst [])) :
    Cps CC D H2 (ms ++ [n]) (Q6.set ca n x) (Q6.set la n l) (upd H4 D (.dK (putK (kvF (fun n => .ref (ca n)) ms) (Sum.inr n) (.ref x)))) := by
  have hd4 := e _ _ c.d
  have nD : ∀ {b : Addr} {o : HO}, H4 b = some o → (∀ k, o ≠ .dK k) → (upd H4 D (.dK (putK (kvF (fun n => .ref (ca n)) ms) (Sum.inr n) (.ref x)))) b = some o := fun h k => by rw [L2.upd_ne (fun z => by rw [z, hd4] at h; exact k _ (Option.some.inj h).symm)]; exact h
  have ne : ∀ m ∈ ms, m ≠ n := fun m hm z => hn (z ▸ hm)
  refine ⟨Ex.on (c.e.trans e) hD, ?_, fun m hm => ?_, fun a ha b hb z => ?_, fun a ha b hb z => ?_⟩
  · rw [upd_same]
    have := putK_kvF_new (f := fun n => .ref (ca n)) (f' := fun m => .ref (Q6.set ca n x m)) hn (fun m hm => by show V.ref (Q6.set ca n x m) = _; rw [set_ne (ne m hm)])
    rw [show (V.ref (Q6.set ca n x n)) = V.ref x by rw [set_same]] at this
    rw [this]
  · rcases List.mem_append.mp hm with h | h
    · obtain ⟨⟨dn, o1⟩, o2, o3, o4⟩ := c.o m h
      rw [set_ne (ne m h), set_ne (ne m h)]
      exact ⟨⟨dn, nD (e _ _ o1) (fun _ z => nomatch z)⟩, nD (e _ _ o2) (fun _ z => nomatch z), o3, o4⟩
    · rw [List.mem_singleton.mp h, set_same, set_same]
      exact ⟨⟨dx, nD h1 (fun _ z => nomatch z)⟩, nD h2 (fun _ z => nomatch z), none_of c.e hx, none_of c.e hl⟩
  · have key : ∀ m ∈ ms, ca m ≠ x := fun m hm z => by
      obtain ⟨⟨dn, o1⟩, _⟩ := c.o m hm
      rw [z, hx] at o1
      cases o1
    rcases List.mem_append.mp ha with h | h <;> rcases List.mem_append.mp hb with h' | h'
    · rw [set_ne (ne a h), set_ne (ne b h')] at z
      exact c.ic a h b h' z
    · rw [set_ne (ne a h), List.mem_singleton.mp h', set_same] at z
      exact absurd z (key a h)
    · rw [set_ne (ne b h'), List.mem_singleton.mp h, set_same] at z
      exact absurd z.symm (key b h')
    · rw [List.mem_singleton.mp h, List.mem_singleton.mp h']
  · have key : ∀ m ∈ ms, la m ≠ l := fun m hm z => by
      obtain ⟨_, o1, _⟩ := c.o m hm
      rw [z, hl] at o1
      cases o1
    rcases List.mem_append.mp ha with h | h <;> rcases List.mem_append.mp hb with h' | h'
    · rw [set_ne (ne a h), set_ne (ne b h')] at z
      exact c.il a h b h' z
    · rw [set_ne (ne a h), List.mem_singleton.mp h', set_same] at z
      exact absurd z (key a h)
    · rw [set_ne (ne b h'), List.mem_singleton.mp h, set_same] at z
      exact absurd z.symm (key b h')
    · rw [List.mem_singleton.mp h, List.mem_singleton.mp h']
def gFits (names : List Str) (least : Int) : Prop := 0 < least ∧ least ≤ (names.length : Int) ∧ (names.length : Int) ≤ 9
def rp0 (n0 : Str) (keep : List Str) : Rp Str := ⟨fun _ => [], fun _ => 0, fun _ => true, some n0, 1, keep⟩
def NewG (names : List Str) (dc kl : Addr) (ca la : Str → Addr) (H : Hp) : Prop := H dc = none ∧ H kl = none ∧ ∀ n ∈ names, H (ca n) = none ∧ H (la n) = none
@[irreducible] def spRInit (CR CC CE : Addr) : Sp := fun vs H Q E => ∃ (p dx a : Addr) (names : List Str) (least : Int), vs = [.ref p, .ref a, .int least] ∧ H p = some (.ins CR dx []) ∧ H a = some (.lst (names.map V.str)) ∧ (∀ n ∈ names, n.length ≤ 900 ∧ PyData.strOk n = true) ∧ names.length < 64 ∧
  (¬ (gFits names least ∧ names.Nodup) → ∀ H', Ex H H' → E (.ref CE) none H') ∧
  (∀ n0 r, gFits names least → names.Nodup → names = n0 :: r → ∀ H' dc kl ca la keep, (∀ b o, b ≠ p → H b = some o → H' b = some o) → NewG names dc kl ca la H → keep.Perm names → sortedS keep = true →
    Grp CR CC names least p dc kl ca la (rp0 n0 keep) H' → Q .non H')
section
variable {P : Program} {w : World} {K : PySem.W.Frag} {mg : Str → Option Value} {base : Heap} {CR CC CE f fI : Addr} {fd fdI : FuncData}
abbrev nRI : List Str := ["self", "names", "least", "fits", "name"]
theorem scRI : FnScope nRI ["self", "names", "least"] (defScope (sRM 0)) := ⟨rfl, rfl, rfl, by decide +kernel, rfl, by decide +kernel, by decide +kernel⟩
theorem ok_rinit (F : FnP K "__init__" "Replicas.__init__" (sRM 0) [] f fd) (B : TxtR K mg CR) (BC : TxtC K mg CC) (J : TxtX K mg CE) (T : TxtL mg) (hM : ∃ t, mg "MOST_COPIES" = some (.int 9 t)) (MC : Mk K CC fI) (FI : FnP K "__init__" "Copy.__init__" (sCM 0) [] fI fdI) :
    FnOk P w K mg base (L2.CX P w) 3 f fd ["self", "names", "least"] (spRInit CR CC CE) := by
  have GI : FnOk P w K mg base CX0 1 fI fdI ["self"] (spCInit CC) := ok_cinit FI BC
  have bI : Binds K fdI ["self"] [] := FI.bindsN fun _ _ _ _ _ _ us hl => match us, hl with | [_], _ => rfl
  obtain ⟨t9, hM⟩ := hM
  refine F.ok scRI (fun vs H Q E h => ?_) (fun cdv A outer s H vs Q E hr h => ?_)
  · unfold spRInit at h
    obtain ⟨_, _, _, _, _, rfl, _⟩ := h; rfl
  · unfold spRInit at h
    obtain ⟨p, dx, a, names, least, rfl, hp, ha, hok, h64, bad, fin⟩ := h
    have hu := hr.units
    have hu1 := Nat.lt_trans (Nat.add_lt_add_left (by decide : 1 < 64) _) hu
    refine ⟨_, pss_cons (ps_set (i := 3) scRI.nd rfl (Or.inl rfl) (pe_chain3 op_lt op_le op_le pe_int (pv 2) (pe_callB call_len_seq (by rfl) T.len PySem.boot_len (pa_cons (pv 1) pa_nil)) (pe_glob (v := .int 9) (by rfl) hM ⟨t9, rfl⟩)))
      (pss_cons (ps_if (PW.pt (pw_or (pt_not (pt_truth (pv 3) (fun _ => rfl))) (pw_or1 (pt_cmpR op_ne (pe_callB call_lenD (by rfl) T.len PySem.boot_len (pa_cons (pe_dc (own := [("name", 4)]) (g := gName 4) (tt := tYes) (tk := tVar 4) (tv := tC (.bl true)) rfl scRI.nd (pi_list (pv 1)) (blkOk_by (N := nRI) (sc := defScope (sRM 0)) (by decide +kernel))
            (fun _ _ _ _ _ => pg_name (i := 4) scRI.nd rfl (Or.inl rfl)) (fun _ _ _ _ _ => pts_nil) (fun _ _ _ _ _ => pv 4) (fun _ _ _ _ _ => pe_bl)) pa_nil)) (pe_callB call_len_seq (by rfl) T.len PySem.boot_len (pa_cons (pv 1) pa_nil)) (nomark _)))))
        (pss_one (ps_raise rfl (takes_of rfl rfl rfl rfl) (pmk_own PySem.F.excBase_ValueError J.x J.g J.k (raises_own J.b J.t) rfl))) pss_nil)
      (PSs.nox <| pss_cons (ps_fld (pv 0) (pe_dc (own := [("name", 4)]) (g := gName 4) (tt := tYes) (tk := tVar 4) (tv := tMake CC (spCInit CC) [] E0 tNil) rfl scRI.nd (pi_list (pv 1)) (blkOk_by (N := nRI) (sc := defScope (sRM 0)) (by decide +kernel))
            (fun _ _ _ _ _ => pg_name (i := 4) scRI.nd rfl (Or.inl rfl)) (fun _ _ _ _ _ => pts_nil) (fun _ _ _ _ _ => pv 4) (fun _ _ _ _ _ => pe_make0 MC GI hr (by rfl) BC.gC bI .nil pass0)) rfl)
      (pss_cons (ps_fld (pv 0) (pe_ix ix_listD (pv 1) pe_int (fun _ _ => rfl)) rfl)
      (pss_cons (ps_fld (pv 0) pe_int rfl)
      (pss_cons (ps_fld (pv 0) (pe_callB cr_sortedS (by rfl) T.sorted (by decide +kernel) (pa_cons (pv 1) pa_nil)) rfl)
      (pss_one (ps_fld (pv 0) (pv 2) rfl))))))), ?_⟩
    have nofit : ¬ gFits names least → ∀ H', Ex H H' → E (.ref CE) none H' := fun h => bad fun z => h z.1
    refine ⟨_, rfl, _, _, rfl, rfl, _, rfl, ?_⟩
    by_cases c1 : 0 < least
    · refine ifT (by simp [c1]) ⟨_, rfl, a, _, rfl, .inl (SqL.of ha), _, _, rfl, rfl, _, rfl, ?_⟩
      by_cases c2 : least ≤ (names.length : Int)
      · refine ifT (by simp [c2]) ⟨_, _, rfl, rfl, ?_⟩
        by_cases c3 : (names.length : Int) ≤ 9
        · have fits : gFits names least := ⟨c1, c2, c3⟩
          refine ⟨_, rfl, _, rfl, ?_⟩
          refine ifF (by simp [c3]) ?_
          have hsl : sizeLine = 16777216 := rfl
          refine ⟨_, rfl, a, rfl, ⟨_, SqL.of ha⟩, fun D hD => ?_⟩
          refine dc_list (xs := names.map V.str) (fun i H2 => Ex H H2 ∧ ∃ ks : List Str, ks.Nodup ∧ (∀ x, x ∈ ks ↔ x ∈ names.take i) ∧ H2 D = some (.dK (kvF (fun _ => .bl true) ks)) ∧ ((names.take i).Nodup → ks = names.take i))
            ⟨Ex.upd hD, [], List.nodup_nil, fun x => by simp, upd_same, fun _ => by simp⟩ (fun i H2 _ h => SqL.of (h.1 _ _ ha)) (fun i x H2 hx h => ?_) (fun H2 h => ?_)
          · rw [List.getElem?_map] at hx
            obtain ⟨n, hn, rfl⟩ := Option.map_eq_some_iff.mp hx
            obtain ⟨e2, ks, kn, km, h2, kq⟩ := h
            have ts : names.take (i + 1) = names.take i ++ [n] := by rw [List.take_succ, hn]; rfl
            have kl : ks.length ≤ names.length := nodup_len kn fun x hx => List.mem_of_mem_take ((km x).mp hx)
            refine ⟨rfl, _, rfl, _, Sum.inr n, rfl, h2, by rw [kvF_len]; omega, Ex.on e2 hD, ?_⟩
            by_cases c : n ∈ ks
            · refine ⟨ks, kn, fun x => ?_, ?_, fun nd => ?_⟩
              · rw [ts, List.mem_append, List.mem_singleton, ← km x]
                exact ⟨.inl, fun h => h.elim id fun z => z ▸ c⟩
              · rw [upd_same, putK_kvF_same (f := fun _ => .bl true) c]
              · rw [ts, List.nodup_append] at nd
                exact absurd rfl (nd.2.2 n ((km n).mp c) n (List.mem_singleton.mpr rfl))
            · refine ⟨ks ++ [n], List.nodup_append.mpr ⟨kn, by simp, fun a ha b hb z => c (by rw [← List.mem_singleton.mp hb, ← z]; exact ha)⟩, fun x => ?_, ?_, fun nd => ?_⟩
              · rw [ts, List.mem_append, List.mem_append, km x]
              · rw [upd_same, putK_kvF_new (f := fun _ => .bl true) (f' := fun _ => .bl true) c (fun _ _ => rfl)]
              · rw [ts, List.nodup_append] at nd
                rw [ts, kq nd.1]
          · obtain ⟨e2, ks, kn, km, h2, kq⟩ := h
            rw [List.length_map, List.take_length] at km kq
            refine ⟨D, _, rfl, h2, _, rfl, a, _, rfl, .inl (SqL.of (e2 _ _ ha)), rfl, _, rfl, ?_⟩
            by_cases nd : names.Nodup
            · refine ifF (by rw [kq nd, kvF_len, List.length_map]; simp) ?_
              have ha2 := e2 _ _ ha
              have hp2 := e2 _ _ hp
              refine ⟨_, rfl, a, rfl, ⟨_, SqL.of ha2⟩, fun D2 hD2 => ?_⟩
              refine dc_list (xs := names.map V.str) (fun i H3 => ∃ ca la, Cps CC D2 H2 (names.take i) ca la H3) ⟨fun _ => 0, fun _ => 0, Ex.upd hD2, upd_same, fun n hn => by simp at hn, fun n hn => by simp at hn, fun n hn => by simp at hn⟩
                (fun i H3 _ ⟨ca, la, c⟩ => SqL.of (c.e _ _ ha2)) (fun i x H3 hx h => ?_) (fun H3 h => ?_)
              · rw [List.getElem?_map] at hx
                obtain ⟨n, hn, rfl⟩ := Option.map_eq_some_iff.mp hx
                obtain ⟨ca, la, c⟩ := h
                have ts : names.take (i + 1) = names.take i ++ [n] := by rw [List.take_succ, hn]; rfl
                refine ⟨rfl, _, rfl, fun x dx2 hx3 hdx3 nx => ?_⟩
                unfold spCInit
                refine ⟨x, dx2, rfl, upd_same, fun H4 l k4 hl4 hx4 hll4 => ⟨rfl, ?_⟩⟩
                have e4 : Ex H3 H4 := fun b o hb => by
                  have n1 : b ≠ x := ne_of_none hb hx3
                  have n2 : b ≠ dx2 := ne_of_none hb hdx3
                  exact k4 b o n1 (by rw [L2.upd_ne n1, L2.upd_ne n2]; exact hb)
                have hl3 : H3 l = none := by
                  have n1 : l ≠ x := fun z => by rw [z, upd_same] at hl4; cases hl4
                  rw [L2.upd_ne n1] at hl4
                  have n2 : l ≠ dx2 := fun z => by rw [z, upd_same] at hl4; cases hl4
                  rw [L2.upd_ne n2] at hl4
                  exact hl4
                refine ⟨_, Sum.inr n, rfl, e4 _ _ c.d, by rw [kvF_len, List.length_take]; omega, ?_⟩
                have := c.add (dx := dx2) (l := l) hD2 (nodup_take nd hn) e4 hx3 hl3 hx4 hll4
                rw [ts]
                exact ⟨_, _, this⟩
              · obtain ⟨ca, la, c⟩ := h
                rw [List.length_map, List.take_length] at c
                have hp3 := c.e _ _ hp2
                have ha3 := c.e _ _ ha2
                have npa : a ≠ p := ne_of ha3 hp3 (fun z => nomatch z)
                have npD : D2 ≠ p := ne_of c.d hp3 (fun z => nomatch z)
                cases en : names with
                | nil => rw [en] at c2; simp at c2; omega
                | cons n0 r =>
                  have at0n : atI (names.map V.str) 0 = some (.str n0) := by rw [en]; exact atI_nat (j := 0) rfl
                  refine ⟨_, rfl, p, CR, dx, _, rfl, hp3, B.cl, B.nC, (by show 0 < 1000; decide), ?_⟩
                  refine ⟨_, rfl, a, _, 0, _, rfl, rfl, by rw [L2.upd_ne npa]; exact ha3, at0n, _, rfl, p, CR, dx, _, rfl, upd_same, B.cl, B.nL, (by show 1 < 1000; decide), ?_⟩
                  rw [upd2]
                  refine ⟨_, rfl, p, CR, dx, _, rfl, upd_same, B.cl, B.nT, (by show 2 < 1000; decide), ?_⟩
                  rw [upd2]
                  have ep : putF "time" (V.int 1) (putF "leader" (V.str n0) (putF "copies" (V.ref D2) [])) = ([("copies", V.ref D2), ("leader", V.str n0), ("time", V.int 1)] : List (Str × V)) := rfl
                  rw [ep]
                  have k4 : ∀ b o, b ≠ p → H3 b = some o → (upd H3 p (.ins CR dx [("copies", .ref D2), ("leader", .str n0), ("time", .int 1)])) b = some o := fun b o n h => by rw [L2.upd_ne n]; exact h
                  have hp4 : (upd H3 p (.ins CR dx [("copies", .ref D2), ("leader", .str n0), ("time", .int 1)])) p = some (.ins CR dx [("copies", .ref D2), ("leader", .str n0), ("time", .int 1)]) := upd_same
                  have n4 : ∀ b, (upd H3 p (.ins CR dx [("copies", .ref D2), ("leader", .str n0), ("time", .int 1)])) b = none → H3 b = none := fun b h => none_upd hp3 h
                  generalize upd H3 p (.ins CR dx [("copies", .ref D2), ("leader", .str n0), ("time", .int 1)]) = H4 at k4 hp4 n4
                  refine ⟨_, rfl, a, _, rfl, SqL.of (k4 _ _ npa ha3), h64, fun ys k pm so hk => ?_⟩
                  have nkp : k ≠ p := fun z => by rw [z, hp4] at hk; cases hk
                  refine ⟨_, rfl, p, CR, dx, _, rfl, by rw [L2.upd_ne nkp.symm]; exact hp4, B.cl, B.nK, (by show 3 < 1000; decide), ?_⟩
                  refine ⟨_, rfl, _, rfl, p, CR, dx, _, rfl, upd_same, B.cl, B.nS, (by show 4 < 1000; decide), ?_⟩
                  rw [upd2]
                  have ep2 : putF "least" (V.int least) (putF "keeping" (V.ref k) ([("copies", V.ref D2), ("leader", V.str n0), ("time", V.int 1)] : List (Str × V))) = gF D2 (ldV (some n0)) 1 k least := rfl
                  rw [ep2]
                  have hk3 := n4 k hk
                  have keep : ∀ b o, b ≠ p → H3 b = some o → (upd (upd H4 k (.lst (ys.map V.str))) p (.ins CR dx (gF D2 (ldV (some n0)) 1 k least))) b = some o := fun b o n h => by
                    rw [L2.upd_ne n, L2.upd_ne (ne_of_none h hk3)]
                    exact k4 b o n h
                  refine fin n0 r fits nd en _ D2 k ca la ys (fun b o n h => keep b o n (c.e _ _ (e2 _ _ h))) ⟨none_of e2 hD2, none_of e2 (none_of c.e hk3), fun n hn => ⟨none_of e2 (c.o n hn).2.2.1, none_of e2 (c.o n hn).2.2.2⟩⟩ pm so ?_
                  have ysn : ∀ n ∈ ys, n ∈ names := fun n hn => pm.mem_iff.mp hn
                  refine ⟨⟨dx, upd_same⟩, keep _ _ npD c.d, by rw [L2.upd_ne nkp, upd_same]; rfl, fun n hn => ?_, c.ic, c.il, fun n hn z => ?_, fun n hn z => ?_, ysn, fun l hl => ?_, ?_, ?_, fun n hn => (by show 0 ≤ 900; decide), fun n hn => hok n hn⟩
                  · obtain ⟨⟨dn, o1⟩, o2, o3, o4⟩ := c.o n hn
                    refine ⟨⟨dn, keep _ _ (fun z => by rw [z, hp2] at o3; cases o3) o1⟩, [], keep _ _ (fun z => by rw [z, hp2] at o4; cases o4) o2, .nil⟩
                  · have := (c.o n hn).2.2.1
                    rw [z, hp2] at this
                    cases this
                  · have := (c.o n hn).2.1
                    rw [z, hk3] at this
                    cases this
                  · have : some n0 = some l := hl
                    rw [← Option.some.inj this, en]
                    exact List.mem_cons_self
                  · show ys.length ≤ 9
                    rw [pm.length_eq]
                    omega
                  · omega
            · refine ifT ?_ (bad (fun z => nd z.2) _ e2)
              have := not_nodup_lt kn (fun x hx => (km x).mp hx) nd
              rw [kvF_len, List.length_map]
              simp
              omega
        · refine ⟨_, rfl, _, rfl, ?_⟩
          exact ifT (by simp [c3]) (ifT rfl (nofit (fun z => c3 z.2.2) _ (Ex.refl _)))
      · refine ifF (by simp [c2]) ?_
        refine ⟨_, rfl, _, rfl, ?_⟩
        exact ifT rfl (ifT rfl (nofit (fun z => c2 z.2.1) _ (Ex.refl _)))
    · refine ifF (by simp [c1]) ?_
      refine ⟨_, rfl, _, rfl, ?_⟩
      exact ifT rfl (ifT rfl (nofit (fun z => c1 z.1) _ (Ex.refl _)))
end
end K6
set_option Elab.async false
set_option linter.all false
set_option maxRecDepth 100000
set_option maxHeartbeats 4000000
namespace K6
open PySem PySem.Spec PyProof.Rows L2 KB KC KS LamX R8 Q6
def Rs (H : Hp) (vs : List V) (xs : List Int) : Prop := Paired (fun (v : V) (x : Int) => ∃ r, v = .ref r ∧ H r = some (.tup [.str "row", .int x])) vs xs
theorem Rs.kt {H H' : Hp} {vs : List V} {xs : List Int} (h : Rs H vs xs) (k : KT' H H') : Rs H' vs xs := paired_mono (fun _ _ ⟨r, h1, h2⟩ => ⟨r, h1, k _ _ h2⟩) h
theorem Rs.ex {H H' : Hp} {vs : List V} {xs : List Int} (h : Rs H vs xs) (e : Ex H H') : Rs H' vs xs := h.kt fun b xs h => e _ _ h
def rD (x : Int) : PyData := .tuple [.str "row", .int x]
theorem Rs.dp {K : PySem.W.Frag} {H : Hp} : ∀ {vs : List V} {xs : List Int}, Rs H vs xs → DpAll K H vs (xs.map rD)
  | _, _, .nil => .nil
  | _, _, .cons ⟨r, e, h⟩ t => by
    subst e
    exact .cons (.tup (SqT.of h) (.cons (.str _) (.cons (.int _) .nil))) (Rs.dp t)
theorem eqvAll_rD : ∀ a b : List Int, PyData.eqvAll (a.map rD) (b.map rD) = decide (a = b)
  | [], [] => rfl
  | [], _ :: _ => rfl
  | _ :: _, [] => rfl
  | x :: a, y :: b => by
    rw [List.map_cons, List.map_cons]
    show (PyData.eqv (rD x) (rD y) && PyData.eqvAll (a.map rD) (b.map rD)) = _
    rw [eqvAll_rD a b]
    unfold rD
    simp only [PyData.eqv, PyData.eqvAll, Bool.and_true]
    rw [Bool.eq_iff_iff]
    simp
theorem eqv_rD (a b : List Int) : PyData.eqv (.list (a.map rD)) (.list (b.map rD)) = decide (a = b) := by
  unfold PyData.eqv
  exact eqvAll_rD a b
theorem lay_rD : ∀ ns : List Int, PyData.canLayAll0 (ns.map rD) = true
  | [] => by simp [PyData.canLayAll0]
  | n :: ns => by
    rw [List.map_cons]
    unfold PyData.canLayAll0
    rw [lay_rD ns]
    have : PyData.strOk "row" = true := by decide +kernel
    simp [rD, PyData.canLay0, PyData.canLayAll0, this]
theorem depth_rD : ∀ ns : List Int, PyData.depthAll (ns.map rD) ≤ 3
  | [] => by simp [PyData.depthAll]
  | p :: S => by
    have h := depth_rD S
    rw [List.map_cons]
    unfold PyData.depthAll
    have : (rD p).depth ≤ 2 := by simp [rD, PyData.depth, PyData.depthAll]
    omega
theorem sh_rD (S : List Int) : SeqAt.shaped (.list (S.map rD)) = true := by
  have h := depth_rD S
  unfold SeqAt.shaped
  rw [Bool.and_eq_true, decide_eq_true_eq]
  refine ⟨?_, ?_⟩
  · unfold PyData.canLay0
    exact lay_rD S
  · unfold PyData.depth
    omega
theorem Es.rows {H : Hp} {vs : List V} {c : Lg} (h : Paired (RRow H) vs c) : Rs H vs (rows c) := by
  induction h with
  | nil => exact .nil
  | cons h _ ih => exact .cons h ih
structure Cop (CC : Addr) (names : List Str) (ca la : Str → Addr) (s : Rp Str) (H : Hp) : Prop where
  cp : ∀ n ∈ names, CopyAt CC H (ca n) (la n) (s.lg n) (s.firm n) (s.up n)
  lt : ∀ n ∈ names, (s.lg n).length ≤ 900
theorem Cop.ex {CC : Addr} {names : List Str} {ca la : Str → Addr} {s : Rp Str} {H H' : Hp} (x : Cop CC names ca la s H) (e : Ex H H') : Cop CC names ca la s H' :=
  ⟨fun n hn => (x.cp n hn).keep (fun b xs h => e _ _ h) (fun o h => e _ _ h) (fun o h => e _ _ h), x.lt⟩
@[irreducible] def spLFirm (CC : Addr) : Sp := fun vs H Q _ => ∃ (names : List Str) (dc ke : Addr) (ca la : Str → Addr) (s : Rp Str) (rs : List V) (kept : List Int), vs = [.ref dc, .ref ke] ∧ H dc = some (.dK (dcK names ca)) ∧ Cop CC names ca la s H ∧ H ke = some (.lst rs) ∧ Rs H rs kept ∧ names.length ≤ 9 ∧ kept.length ≤ 900 ∧
  (∀ n ∈ names, s.firm n ≤ (s.lg n).length ∧ Q6.rows ((s.lg n).take (s.firm n)) = kept.take (s.firm n)) ∧ ∀ H', Ex H H' → Q (.bl true) H'
theorem lfirm_step {CC : Addr} {names : List Str} {dc ke : Addr} {ca la : Str → Addr} {s : Rp Str} {rs : List V} {kept : List Int} {H : Hp} {Q : VK} {E : XK} (hd : H dc = some (.dK (dcK names ca))) (cp : Cop CC names ca la s H) (hk : H ke = some (.lst rs)) (hr : Rs H rs kept) (n9 : names.length ≤ 9) (k9 : kept.length ≤ 900)
    (fm : ∀ n ∈ names, s.firm n ≤ (s.lg n).length ∧ Q6.rows ((s.lg n).take (s.firm n)) = kept.take (s.firm n)) (fin : ∀ H', Ex H H' → Q (.bl true) H') : spLFirm CC [.ref dc, .ref ke] H Q E := by
  unfold spLFirm
  exact ⟨names, dc, ke, ca, la, s, rs, kept, rfl, hd, cp, hk, hr, n9, k9, fm, fin⟩
section
variable {P : Program} {w : World} {K : PySem.W.Frag} {mg : Str → Option Value} {base : Heap} {CR CC CE f fI : Addr} {fd fdI : FuncData}
abbrev nLF : List Str := ["copies", "kept", "name", "copy", "time", "row"]
theorem scLF : FnScope nLF ["copies", "kept"] (defScope sFirm) := ⟨rfl, rfl, rfl, by decide +kernel, rfl, by decide +kernel, by decide +kernel⟩
theorem ok_lfirm (F : FnP K "_law_firm" "_law_firm" sFirm [] f fd) (BC : TxtC K mg CC) (T : TxtL mg) : FnOk P w K mg base CX0 1 f fd ["copies", "kept"] (spLFirm CC) := by
  refine F.ok scLF (fun vs H Q E h => ?_) (fun cdv A outer s H vs Q E hr h => ?_)
  · unfold spLFirm at h
    obtain ⟨_, _, _, _, _, _, _, _, rfl, _⟩ := h; rfl
  · unfold spLFirm at h
    obtain ⟨names, dc, ke, ca, la, st, rs, kept, rfl, hd, cp, hk, hrs, n9, k9, fm, fin⟩ := h
    have hu := hr.units
    have hu1 := Nat.lt_trans (Nat.add_lt_add_left (by decide : 1 < 64) _) hu
    refine ⟨_, PSs.nox <| pss_cons (ps_lock (ps_for PassesOwn.never rfl (pi_keys (pv 0)) (pg_name (i := 2) scLF.nd rfl (Or.inl rfl))
        (pss_cons (ps_set (i := 3) scLF.nd rfl (Or.inl rfl) (pe_dget hu1 (pv 0) (pv 2) (fun _ _ => rfl)))
        (pss_one (ps_if (PW.pt (pw_or (pt_not (pt_chain op_le op_le pe_int (pf 3) (pe_callB call_len_seq (by rfl) T.len PySem.boot_len (pa_cons (pf 3) pa_nil)))) (pw_or1 (pt_cmpR (op_neD hu)
            (pe_lc (own := [("time", 4), ("row", 5)]) (g := gTup K 2 (gCons (gName 4) (gCons (gName 5) gNil))) (tt := tYes) (te := tVar 5) rfl scLF.nd (pi_list (pe_slice sl_list (pf 3) po_none (po_some (pf 3)))) (blkOk_by (N := nLF) (sc := defScope sFirm) (by decide +kernel))
              (fun _ _ _ _ _ => pg_tup rfl (pgs_cons (pg_name (i := 4) scLF.nd rfl (Or.inl rfl)) (pgs_cons (pg_name (i := 5) scLF.nd rfl (Or.inl rfl)) pgs_nil))) (fun _ _ _ _ _ => pts_nil) (fun _ _ _ _ _ => pv 5))
            (pe_slice sl_list (pv 1) po_none (po_some (pf 3))) (nomark _))))) (pss_one (ps_ret pe_bl)) pss_nil)))))
      (pss_one (ps_ret pe_bl)), ?_⟩
    refine ⟨dc, .dK (dcK names ca), hd, trivial, fun od => ?_⟩
    have fz : (upd H dc (.frz od (.dK (dcK names ca)))) dc = some (.frz od (.dK (dcK names ca))) := upd_same
    have nd : ∀ {b : Addr} {o : HO}, H b = some o → (∀ k, o ≠ .dK k) → (upd H dc (.frz od (.dK (dcK names ca)))) b = some o := fun h k => by rw [L2.upd_ne (fun z => by rw [z, hd] at h; exact k _ (Option.some.inj h).symm)]; exact h
    have kt1 : KT' H (upd H dc (.frz od (.dK (dcK names ca)))) := fun b xs h => nd h (fun _ z => nomatch z)
    have cp1 : Cop CC names ca la st (upd H dc (.frz od (.dK (dcK names ca)))) := ⟨fun n hn => by
      obtain ⟨⟨dn, h1⟩, us, h2, h3⟩ := cp.cp n hn
      exact ⟨⟨dn, nd h1 (fun _ z => nomatch z)⟩, us, nd h2 (fun _ z => nomatch z), h3.kt kt1⟩, cp.lt⟩
    have hk1 := nd hk (fun _ z => nomatch z)
    have hrs1 := hrs.kt kt1
    have back : ∀ H2, Ex (upd H dc (.frz od (.dK (dcK names ca)))) H2 → Ex H (upd H2 dc (.dK (dcK names ca))) := fun H2 e b o h => by
      by_cases z : b = dc
      · rw [z] at h ⊢
        rw [upd_same, ← hd]; exact h
      · rw [L2.upd_ne z]
        exact e b o (by rw [L2.upd_ne z]; exact h)
    generalize upd H dc (.frz od (.dK (dcK names ca))) = H1 at fz cp1 hk1 hrs1 back
    refine ⟨_, rfl, dc, od, rfl, .inl ⟨dcK names ca, fz, ?_⟩⟩
    have hlen : (dcK names ca).length = names.length := List.length_map _
    have hsl : sizeLine = 16777216 := rfl
    refine for_it walk_keys (fun i σ H2 => (∃ a b c d, σ = [some (.ref dc), some (.ref ke), a, b, c, d]) ∧ Ex H1 H2) ⟨⟨_, _, _, _, rfl⟩, Ex.refl _⟩ (fun i σ H2 _ h => h.2 _ _ fz) ?_ ?_
    · rintro i x σ H2 H2' hi ⟨⟨a1, a2, a3, a4, rfl⟩, e2⟩ ⟨rfl, k, v, hkv, rfl⟩
      unfold dcK at hkv
      rw [List.getElem?_map] at hkv
      obtain ⟨n, hn, hkv⟩ := Option.map_eq_some_iff.mp hkv
      obtain ⟨rfl, rfl⟩ := Prod.mk.inj hkv
      have hnn := List.mem_of_getElem? hn
      have cp2 := cp1.ex e2
      have hk2 := e2 _ _ hk1
      have hrs2 := hrs1.ex e2
      obtain ⟨⟨dn, hcn⟩, us, hus, hes⟩ := cp2.cp n hnn
      obtain ⟨f1, f2⟩ := fm n hnn
      have l1 := paired_len hes
      have l9 := cp2.lt n hnn
      have hg : DGet H2' dc (.str n) (some (.ref (ca n))) := .inl ⟨_, Sum.inr n, .inr ⟨od, e2 _ _ fz⟩, rfl, by rw [valV_dc, if_pos hnn]⟩
      refine ⟨_, rfl, _, rfl, dc, _, rfl, hg, ?_⟩
      refine ⟨_, rfl, ca n, CC, dn, _, _, rfl, hcn, BC.cl, BC.nF, rfl, _, _, rfl, rfl, _, rfl, ?_⟩
      refine ifT (by simp) ⟨_, rfl, ca n, CC, dn, _, _, rfl, hcn, BC.cl, BC.nR, rfl, la n, _, rfl, .inl (SqL.of hus), _, _, rfl, rfl, _, rfl, ?_⟩
      refine ifF (by rw [List.length_map, l1]; simp; omega) ?_
      refine ⟨_, rfl, ca n, CC, dn, _, _, rfl, hcn, BC.cl, BC.nR, rfl, _, rfl, ca n, CC, dn, _, _, rfl, hcn, BC.cl, BC.nF, rfl, _, rfl, la n, _, rfl, SqL.of hus, fun q hq => ?_⟩
      rw [cutV_take, ← List.map_take]
      have e3 : Ex H2' (upd H2' q (.lst ((us.take (st.firm n)).map V.ref))) := Ex.upd hq
      have h3 : (upd H2' q (.lst ((us.take (st.firm n)).map V.ref))) q = some (.lst ((us.take (st.firm n)).map V.ref)) := upd_same
      generalize upd H2' q (.lst ((us.take (st.firm n)).map V.ref)) = H3 at e3 h3
      have es3 : Es H3 (us.take (st.firm n)) ((st.lg n).take (st.firm n)) := Es.kt (paired_take _ hes) fun b xs h => e3 _ _ h
      have hwl := paired_len es3
      refine ⟨q, rfl, ⟨_, SqL.of h3⟩, fun D hD => ?_⟩
      refine lcG walk_list RRow (fun j => ((st.lg n).take (st.firm n))[j]?) RRow.stab hD (by rw [List.length_map, hwl, List.length_take]; omega) (fun H5 e5 => SqL.of (e5 _ _ h3)) (fun i H5 x H6 _ _ h => yat_ex h) (fun j v H5 H6 R0 N0 hj e5 hy hno hsm => ?_) (fun H5 xs e5 hx5 hps => ?_)
      · obtain ⟨rfl, hxi⟩ := hy
        rw [List.getElem?_map] at hxi
        obtain ⟨t, ht, rfl⟩ := Option.map_eq_some_iff.mp hxi
        obtain ⟨e, r, he, h4, h5⟩ := es3.at2 ht
        refine ⟨t, _, rfl, SqT.of (e5 _ _ h4), rfl, _, _, rfl, _, _, rfl, rfl, rfl, _, rfl, ?_⟩
        exact hsm e he _ _ (Ex.refl _) ⟨r, rfl, e5 _ _ h5⟩
      · rw [List.length_map, hwl, range_some] at hps
        have rs5 := Es.rows hps
        have hcn5 := e5 _ _ (e3 _ _ hcn)
        refine ⟨_, rfl, _, rfl, ca n, CC, dn, _, _, rfl, hcn5, BC.cl, BC.nF, rfl, _, rfl, ke, _, rfl, SqL.of (e5 _ _ (e3 _ _ hk2)), fun q2 hq2 => ?_⟩
        rw [cutV_take]
        have e6 : Ex H5 (upd H5 q2 (.lst (rs.take (st.firm n)))) := Ex.upd hq2
        have h6 : (upd H5 q2 (.lst (rs.take (st.firm n)))) q2 = some (.lst (rs.take (st.firm n))) := upd_same
        generalize upd H5 q2 (.lst (rs.take (st.firm n))) = H6 at e6 h6
        have rk6 : Rs H6 (rs.take (st.firm n)) (kept.take (st.firm n)) := paired_take _ (hrs2.ex (e3.trans (e5.trans e6)))
        refine ⟨_, _, .lst (SqL.of (e6 _ _ hx5)) (rs5.ex e6).dp, .lst (SqL.of h6) rk6.dp, sh_rD _, sh_rD _, _, rfl, ?_⟩
        rw [eqv_rD, f2]
        refine ifF (by simp) ?_
        exact ⟨⟨_, _, _, _, rfl⟩, e2.trans (e3.trans (e5.trans e6))⟩
    · rintro σ H2 ⟨⟨a1, a2, a3, a4, rfl⟩, e2⟩
      exact ⟨e2 _ _ fz, fin _ (back _ e2)⟩
end
end K6
set_option Elab.async false
set_option linter.all false
set_option maxRecDepth 100000
set_option maxHeartbeats 4000000
namespace K6
open PySem PySem.Spec PyProof.Rows L2 KB KC KS LamX R8 Q6
def leS (a b : Str) : Prop := a.cps.toList ≤ b.cps.toList
theorem leS_trans {a b c : Str} (h : leS a b) (k : leS b c) : leS a c := List.le_trans h k
theorem leS_anti {a b : Str} (h : leS a b) (k : leS b a) : a = b := by
  have : a.cps.toList = b.cps.toList := List.le_antisymm h k
  have e : a.cps = b.cps := Array.toList_inj.mp this
  cases a; cases b
  simp only at e
  rw [e]
theorem leS_of {a b : Str} (h : (!ltCps b.cps.toList a.cps.toList) = true) : leS a b := by
  rw [ltCps_eq] at h
  have : ¬ b.cps.toList < a.cps.toList := by simpa using h
  exact List.not_lt.mp this
theorem rising_pw : ∀ (l : List Str) (p : Str), risingS p l = true → (p :: l).Pairwise leS
  | [], p, _ => List.pairwise_singleton _ _
  | x :: r, p, h => by
    have h2 : (!ltCps x.cps.toList p.cps.toList && risingS x r) = true := h
    rw [Bool.and_eq_true] at h2
    have ih := rising_pw r x h2.2
    have px := leS_of h2.1
    refine List.Pairwise.cons (fun y hy => ?_) ih
    rcases List.mem_cons.mp hy with z | z
    · rw [z]; exact px
    · exact leS_trans px (List.rel_of_pairwise_cons ih z)
theorem sorted_pw {l : List Str} (h : sortedS l = true) : l.Pairwise leS := by
  cases l with
  | nil => exact .nil
  | cons x r => exact rising_pw r x h
theorem sorted_un {a b : List Str} (p : a.Perm b) (ha : sortedS a = true) (hb : sortedS b = true) : a = b :=
  p.eq_of_pairwise (fun _ _ _ _ h k => leS_anti h k) (sorted_pw ha) (sorted_pw hb)
theorem sorted_of_pw {l : List Str} (h : l.Pairwise leS) : sortedS l = true := by
  refine sortedS_of_pairwise l (h.imp fun {a b} k => ?_)
  rw [ltCps_eq]
  exact decide_eq_false (List.not_lt.mpr k)
theorem without_sorted {l : List Str} (h : sortedS l = true) (f : Str → Bool) : sortedS (l.filter f) = true := sorted_of_pw ((sorted_pw h).filter f)
structure Own (ow ok ou : Addr) (ld : Option Str) (T : Int) (keep ups : List Str) (count : Int) (H : Hp) : Prop where
  o : H ow = some (.dK [(Sum.inr "leader", ldV ld), (Sum.inr "time", .int T), (Sum.inr "keeping", .ref ok), (Sum.inr "up", .ref ou), (Sum.inr "count", .int count)])
  k : H ok = some (.lst (keep.map V.str))
  u : H ou = some (.lst (ups.map V.str))
theorem Own.ex {ow ok ou : Addr} {ld : Option Str} {T : Int} {keep ups : List Str} {count : Int} {H H' : Hp} (x : Own ow ok ou ld T keep ups count H) (e : Ex H H') : Own ow ok ou ld T keep ups count H' := ⟨e _ _ x.o, e _ _ x.k, e _ _ x.u⟩
def ldD : Option Str → PyData
  | some l => .str l
  | none => .none
theorem dp_ld {K : PySem.W.Frag} {H : Hp} : ∀ o : Option Str, Dp K H (ldV o) (ldD o)
  | some l => .str l
  | none => .non
theorem eqv_ld (o : Option Str) : PyData.eqv (ldD o) (ldD o) = true := by
  cases o with
  | none => rfl
  | some l => show (l == l) = true; exact beq_self_eq_true l
@[irreducible] def spLStates (CR CC : Addr) : Sp := fun vs H Q _ => ∃ (names : List Str) (least : Int) (g dc kl ow ok ou : Addr) (ca la : Str → Addr) (s : Rp Str) (ups : List Str) (count : Int), vs = [.ref g, .ref ow] ∧ Grp CR CC names least g dc kl ca la s H ∧ Own ow ok ou s.leader s.time s.keep ups count H ∧ ups.Perm (names.filter fun n => s.up n) ∧ ∀ H', Ex H H' → Q (.bl true) H'
theorem lstates_step {CR CC : Addr} {names : List Str} {least : Int} {g dc kl ow ok ou : Addr} {ca la : Str → Addr} {s : Rp Str} {ups : List Str} {count : Int} {H : Hp} {Q : VK} {E : XK} (hg : Grp CR CC names least g dc kl ca la s H) (ho : Own ow ok ou s.leader s.time s.keep ups count H) (pm : ups.Perm (names.filter fun n => s.up n)) (fin : ∀ H', Ex H H' → Q (.bl true) H') : spLStates CR CC [.ref g, .ref ow] H Q E := by
  unfold spLStates
  exact ⟨names, least, g, dc, kl, ow, ok, ou, ca, la, s, ups, count, rfl, hg, ho, pm, fin⟩
section
variable {P : Program} {w : World} {K : PySem.W.Frag} {mg : Str → Option Value} {base : Heap} {CR CC CE f fI : Addr} {fd fdI : FuncData}
abbrev nLS : List Str := ["group", "own", "name"]
theorem scLS : FnScope nLS ["group", "own"] (defScope sStates) := ⟨rfl, rfl, rfl, by decide +kernel, rfl, by decide +kernel, by decide +kernel⟩
theorem ok_lstates (F : FnP K "_law_states" "_law_states" sStates [] f fd) (B : TxtR K mg CR) (BC : TxtC K mg CC) (T : TxtL mg) : FnOk P w K mg base CX0 1 f fd ["group", "own"] (spLStates CR CC) := by
  refine F.ok scLS (fun vs H Q E h => ?_) (fun cdv A outer s H vs Q E hr h => ?_)
  · unfold spLStates at h
    obtain ⟨_, _, _, _, _, _, _, _, _, _, _, _, _, rfl, _⟩ := h; rfl
  · unfold spLStates at h
    obtain ⟨names, least, g, dc, kl, ow, ok, ou, ca, la, st, ups, count, rfl, hg, hw, pm, fin⟩ := h
    have hu := hr.units
    have hu1 := Nat.lt_trans (Nat.add_lt_add_left (by decide : 1 < 64) _) hu
    obtain ⟨dx, ho⟩ := hg.o
    refine ⟨_, PSs.nox <| pss_one (ps_lock (ps_ret (pe_cmpR (op_eqD hu)
        (pe_tup (pa_cons (pf 0) (pa_cons (pf 0) (pa_cons (pf 0) (pa_cons (pe_callB cr_sortedS (by rfl) T.sorted (by decide +kernel) (pa_cons
          (pe_lc (own := [("name", 2)]) (g := gName 2) (tt := tTruth K (tFld K (tDGet (tFld K (tVar 0) "copies") (tVar 2)) "is_up")) (te := tVar 2) rfl scLS.nd (pi_keys (pf 0)) (blkOk_by (N := nLS) (sc := defScope sStates) (by decide +kernel))
            (fun _ _ _ _ _ => pg_name (i := 2) scLS.nd rfl (Or.inl rfl)) (fun _ _ _ _ _ => pts_one (pt_truth (pe_fld (pe_dget hu1 (pf 0) (pv 2) (fun _ _ => rfl)) (by rfl)) (fun _ => rfl))) (fun _ _ _ _ _ => pv 2)) pa_nil)) pa_nil)))))
        (pe_tup (pa_cons (pe_dget hu1 (pv 1) pe_str (fun _ _ => rfl)) (pa_cons (pe_dget hu1 (pv 1) pe_str (fun _ _ => rfl)) (pa_cons (pe_dget hu1 (pv 1) pe_str (fun _ _ => rfl)) (pa_cons (pe_callB cr_sortedS (by rfl) T.sorted (by decide +kernel) (pa_cons (pe_dget hu1 (pv 1) pe_str (fun _ _ => rfl)) pa_nil)) pa_nil))))) (nomark _)))), ?_⟩
    have hd := hg.d
    refine ⟨dc, .dK (dcK names ca), hd, trivial, fun od => ?_⟩
    have fz : (upd H dc (.frz od (.dK (dcK names ca)))) dc = some (.frz od (.dK (dcK names ca))) := upd_same
    have nd : ∀ {b : Addr} {o : HO}, H b = some o → (∀ k, o ≠ .dK k) → (upd H dc (.frz od (.dK (dcK names ca)))) b = some o := fun h k => by rw [L2.upd_ne (fun z => by rw [z, hd] at h; exact k _ (Option.some.inj h).symm)]; exact h
    have ho1 := nd ho (fun _ z => nomatch z)
    have hk1 := nd hg.k (fun _ z => nomatch z)
    have ok1 := nd hw.k (fun _ z => nomatch z)
    have ou1 := nd hw.u (fun _ z => nomatch z)
    have nwd : ow ≠ dc := fun z => by
      have h1 := hw.o
      rw [z, hd] at h1
      injection h1 with h1
      injection h1 with h1
      unfold dcK at h1
      cases names with
      | nil => cases h1
      | cons n r =>
        rw [List.map_cons] at h1
        injection h1 with h1 _
        injection h1 with _ h1
        cases hl : st.leader with
        | none => rw [hl] at h1; cases h1
        | some l => rw [hl] at h1; cases h1
    have ow1 := (L2.upd_ne (H := H) (o := .frz od (.dK (dcK names ca))) nwd).trans hw.o
    have hcn1 : ∀ n ∈ names, ∃ dn, (upd H dc (.frz od (.dK (dcK names ca)))) (ca n) = some (.ins CC dn (cF (la n) (st.firm n : Nat) (st.up n))) := fun n hn => let ⟨dn, h⟩ := (hg.cp n hn).o; ⟨dn, nd h (fun _ z => nomatch z)⟩
    have back : ∀ H2, Ex (upd H dc (.frz od (.dK (dcK names ca)))) H2 → Ex H (upd H2 dc (.dK (dcK names ca))) := fun H2 e b o h => by
      by_cases z : b = dc
      · rw [z] at h ⊢
        rw [upd_same, ← hd]; exact h
      · rw [L2.upd_ne z]
        exact e b o (by rw [L2.upd_ne z]; exact h)
    generalize upd H dc (.frz od (.dK (dcK names ca))) = H1 at fz ho1 hk1 ok1 ou1 ow1 hcn1 back
    have hlen : (dcK names ca).length = names.length := List.length_map _
    have n9 := hg.n9
    refine ⟨_, rfl, g, CR, dx, _, _, rfl, ho1, B.cl, B.nL, rfl, _, rfl, g, CR, dx, _, _, rfl, ho1, B.cl, B.nT, rfl, _, rfl, g, CR, dx, _, _, rfl, ho1, B.cl, B.nK, rfl, _, rfl, g, CR, dx, _, _, rfl, ho1, B.cl, B.nC, rfl, dc, od, rfl, .inl ⟨dcK names ca, fz, fun D hD => ?_⟩⟩
    refine lcG walk_keys RStr (fun j => names[j]?.bind fun x => if st.up x = true then some x else none) RStr.stab hD (by omega) (fun H5 e5 => e5 _ _ fz) (fun i H5 x H6 _ _ h => by obtain ⟨rfl, _⟩ := h; exact Ex.refl _) (fun j v H5 H6 R0 N0 hj e5 hy hno hsm => ?_) (fun H2 xs e2 hx2 hps => ?_)
    · obtain ⟨rfl, k, v', hkv, rfl⟩ := hy
      unfold dcK at hkv
      rw [List.getElem?_map] at hkv
      obtain ⟨n, hn, hkv⟩ := Option.map_eq_some_iff.mp hkv
      obtain ⟨rfl, rfl⟩ := Prod.mk.inj hkv
      have hnn := List.mem_of_getElem? hn
      obtain ⟨dn, hcn⟩ := hcn1 n hnn
      have hgt : DGet H6 dc (.str n) (some (.ref (ca n))) := .inl ⟨_, Sum.inr n, .inr ⟨od, e5 _ _ fz⟩, rfl, by rw [valV_dc, if_pos hnn]⟩
      refine ⟨rfl, _, rfl, g, CR, dx, _, _, rfl, e5 _ _ ho1, B.cl, B.nC, rfl, _, rfl, dc, _, rfl, hgt, ca n, CC, dn, _, _, rfl, e5 _ _ hcn, BC.cl, BC.nU, rfl, _, rfl, ?_⟩
      by_cases c : st.up n = true
      · refine ifT c ⟨_, rfl, ?_⟩
        exact hsm n (by rw [hn]; show (if st.up n = true then _ else _) = _; rw [if_pos c]) _ _ (Ex.refl _) rfl
      · refine ifF c (hno (by rw [hn]; show (if st.up n = true then _ else _) = _; rw [if_neg c]) _ (Ex.refl _))
    · rw [hlen, range_fm, filt_fm] at hps
      rw [rstr_map hps] at hx2
      have lf : (names.filter fun n => st.up n).length ≤ 9 := Nat.le_trans (List.length_filter_le _ _) n9
      refine ⟨D, _, rfl, SqL.of hx2, Nat.lt_of_le_of_lt lf (by decide), fun ys q pm2 so2 hq => ?_⟩
      have e3 : Ex H1 (upd H2 q (.lst (ys.map V.str))) := e2.trans (Ex.upd hq)
      have h3 : (upd H2 q (.lst (ys.map V.str))) q = some (.lst (ys.map V.str)) := upd_same
      generalize upd H2 q (.lst (ys.map V.str)) = H3 at e3 h3
      refine ⟨(by show 4 ≤ sizeLine; decide), fun t1 ht1 => ?_⟩
      have e4 : Ex H3 (upd H3 t1 (.tup [ldV st.leader, .int st.time, .ref kl, .ref q])) := Ex.upd ht1
      have h4 : (upd H3 t1 (.tup [ldV st.leader, .int st.time, .ref kl, .ref q])) t1 = some (.tup [ldV st.leader, .int st.time, .ref kl, .ref q]) := upd_same
      generalize upd H3 t1 (.tup [ldV st.leader, .int st.time, .ref kl, .ref q]) = H4 at e4 h4
      have ow4 := e4 _ _ (e3 _ _ ow1)
      have o1 : DGet H4 ow (.str "leader") (some (ldV st.leader)) := DGet.k (k := Sum.inr "leader") ow4
      have o2 : DGet H4 ow (.str "time") (some (.int st.time)) := DGet.k (k := Sum.inr "time") ow4
      have o3 : DGet H4 ow (.str "keeping") (some (.ref ok)) := DGet.k (k := Sum.inr "keeping") ow4
      have o4 : DGet H4 ow (.str "up") (some (.ref ou)) := DGet.k (k := Sum.inr "up") ow4
      have lu : ups.length < 64 := by rw [pm.length_eq]; omega
      refine ⟨_, rfl, ow, _, rfl, o1, _, rfl, ow, _, rfl, o2, _, rfl, ow, _, rfl, o3, _, rfl, ow, _, rfl, o4, ou, _, rfl, SqL.of (e4 _ _ (e3 _ _ ou1)), lu, fun zs q2 pm5 so5 hq2 => ?_⟩
      have e5 : Ex H4 (upd H4 q2 (.lst (zs.map V.str))) := Ex.upd hq2
      have h5 : (upd H4 q2 (.lst (zs.map V.str))) q2 = some (.lst (zs.map V.str)) := upd_same
      generalize upd H4 q2 (.lst (zs.map V.str)) = H5 at e5 h5
      refine ⟨(by show 4 ≤ sizeLine; decide), fun t2 ht2 => ?_⟩
      have e6 : Ex H5 (upd H5 t2 (.tup [ldV st.leader, .int st.time, .ref ok, .ref q2])) := Ex.upd ht2
      have h6 : (upd H5 t2 (.tup [ldV st.leader, .int st.time, .ref ok, .ref q2])) t2 = some (.tup [ldV st.leader, .int st.time, .ref ok, .ref q2]) := upd_same
      generalize upd H5 t2 (.tup [ldV st.leader, .int st.time, .ref ok, .ref q2]) = H6 at e6 h6
      have eyz : ys = zs := sorted_un (pm2.trans (pm.symm.trans pm5.symm)) so2 so5
      have ex : Ex H1 H6 := e3.trans (e4.trans (e5.trans e6))
      have sk : ∀ m ∈ st.keep, PyData.strOk m = true := fun m hm => (hg.ns m (hg.kn m hm)).2
      have sy : ∀ m ∈ ys, PyData.strOk m = true := fun m hm => (hg.ns m (List.mem_filter.mp (pm2.mem_iff.mp hm)).1).2
      have sld : ∀ l, st.leader = some l → PyData.strOk l = true := fun l hl => (hg.ns l (hg.ln l hl)).2
      have d1 : Dp K H6 (.ref t1) (.tuple [ldD st.leader, .int st.time, .list (st.keep.map PyData.str), .list (ys.map PyData.str)]) := .tup (SqT.of (e6 _ _ (e5 _ _ h4))) (.cons (dp_ld _) (.cons (.int _) (.cons (.lst (SqL.of (ex _ _ hk1)) (dp_strs _)) (.cons (.lst (SqL.of (e6 _ _ (e5 _ _ (e4 _ _ h3)))) (dp_strs _)) .nil))))
      have d2 : Dp K H6 (.ref t2) (.tuple [ldD st.leader, .int st.time, .list (st.keep.map PyData.str), .list (zs.map PyData.str)]) := .tup (SqT.of h6) (.cons (dp_ld _) (.cons (.int _) (.cons (.lst (SqL.of (ex _ _ ok1)) (dp_strs _)) (.cons (.lst (SqL.of (e6 _ _ h5)) (dp_strs _)) .nil))))
      have sh : SeqAt.shaped (.tuple [ldD st.leader, .int st.time, .list (st.keep.map PyData.str), .list (ys.map PyData.str)]) = true := by
        have a1 := depth_strs st.keep
        have a2 := depth_strs ys
        have b1 := lay_strs st.keep sk
        have b2 := lay_strs ys sy
        unfold SeqAt.shaped
        rw [Bool.and_eq_true, decide_eq_true_eq]
        cases hl : st.leader with
        | none =>
          simp only [ldD, PyData.canLay0, PyData.canLayAll0, PyData.depth, PyData.depthAll, b1, b2]
          exact ⟨rfl, by omega⟩
        | some l =>
          simp only [ldD, PyData.canLay0, PyData.canLayAll0, PyData.depth, PyData.depthAll, b1, b2, sld l hl]
          exact ⟨rfl, by omega⟩
      rw [← eyz] at d2
      refine ⟨_, _, d1, d2, sh, sh, ex _ _ fz, ?_⟩
      have ev : PyData.eqv (.tuple [ldD st.leader, .int st.time, .list (st.keep.map PyData.str), .list (ys.map PyData.str)]) (.tuple [ldD st.leader, .int st.time, .list (st.keep.map PyData.str), .list (ys.map PyData.str)]) = true := by
        have a1 := eqv_strs st.keep st.keep
        have a2 := eqv_strs ys ys
        have a3 := eqv_ld st.leader
        rw [PyData.eqv, PyData.eqvAll, PyData.eqvAll, PyData.eqvAll, PyData.eqvAll, PyData.eqvAll, a1, a2, a3]
        simp [PyData.eqv]
      rw [ev]
      exact fin _ (back _ ex)
end
end K6
set_option Elab.async false
set_option linter.all false
set_option maxRecDepth 100000
set_option maxHeartbeats 4000000
namespace K6
open PySem PySem.Spec PyProof.Rows L2 KB KC KD KS LamX R8 Q6
abbrev qD : Str := "_law_deed.<locals>.<lambda>"
abbrev qL : Str := "law.<locals>.<lambda>"
abbrev TT (Pd Pl : Addr) : List (Addr × Str) := [(Pd, qD), (Pl, qL)]
def ExD.of {d : Addr} {H H' : Hp} (e : Ex H H') : ExD d H H' := fun b o _ h => e b o h
theorem ExD.trans {d : Addr} {H H1 H2 : Hp} (e : ExD d H H1) (f : ExD d H1 H2) : ExD d H H2 := fun b o n h => f b o n (e b o n h)
theorem IsDice.ex {H H' : Hp} {d : Addr} (i : IsDice H d) (e : Ex H H') : IsDice H' d := let ⟨a, b, k, h⟩ := i; ⟨a, b, k, e _ _ h⟩
theorem roll_step {H : Hp} {d : Addr} {m : Int} {Q : VK} {E : XK} (i : IsDice H d) (h0 : 0 < m) (h1 : m ≤ 100000000) (q : ∀ r H', 0 ≤ r → r < m → ExD d H H' → IsDice H' d → Q (.int r) H') : spRoll [.ref d, .int m] H Q E := by
  unfold spRoll
  exact ⟨d, m, rfl, i, h0, h1, fun r a b k l u => q r _ l u (fun c o n e => by rw [L2.upd_ne n]; exact e) ⟨a, b, k, upd_same⟩⟩
theorem tabs_but {T : List (Addr × Str)} {H H' : Hp} (t : Tabs T H) (e : ∀ b o, H b = some o → (∀ xs, o ≠ .lst xs) → (∀ C dx fs, o ≠ .ins C dx fs) → (∀ ks, o ≠ .dK ks) → H' b = some o) : Tabs T H' := fun p hp => by
  obtain ⟨ps, h1, h2, h3⟩ := t p hp
  refine ⟨ps, e _ _ h1 (fun _ z => nomatch z) (fun _ _ _ z => nomatch z) (fun _ z => nomatch z), h2, fun pos cv hc => ?_⟩
  obtain ⟨c, e1, e2⟩ := h3 pos cv hc
  exact ⟨c, e1, e _ _ e2 (fun _ z => nomatch z) (fun _ _ _ z => nomatch z) (fun _ z => nomatch z)⟩
theorem ne_ty {H : Hp} {a b : Addr} {o o' : HO} (h : H a = some o) (h' : H b = some o') (n : o ≠ o') : a ≠ b := fun z => by
  rw [z, h'] at h
  exact n (Option.some.inj h).symm
section
variable {CR CC Pd Pl : Addr} {names : List Str} {least : Int} {d g dc kl ow ok ou na : Addr} {ca la : Str → Addr} {s : Rp Str} {ld : Option Str} {T : Int} {kp ups : List Str} {count : Int} {H H' : Hp}
structure Ds (CR CC Pd Pl : Addr) (names : List Str) (least : Int) (d g dc kl ow ok ou na : Addr) (ca la : Str → Addr) (s : Rp Str) (ld : Option Str) (T : Int) (kp ups : List Str) (count : Int) (H : Hp) : Prop where
  dice : IsDice H d
  tabs : Tabs (TT Pd Pl) H
  grp : Grp CR CC names least g dc kl ca la s H
  own : Own ow ok ou ld T kp ups count H
  hna : H na = some (.lst (names.map V.str))
  nd : d ≠ kl ∧ d ≠ ok ∧ d ≠ ou ∧ d ≠ na
  dl : ∀ n ∈ names, d ≠ la n
  nl : ∀ n ∈ names, ok ≠ la n ∧ ou ≠ la n ∧ na ≠ la n
  wd : ow ≠ dc
theorem Grp.keep (x : Grp CR CC names least g dc kl ca la s H) (e : ∀ b o, H b = some o → ((∃ C dx fs, o = .ins C dx fs) ∨ b = dc ∨ b = kl ∨ (∃ n ∈ names, b = la n) ∨ ∃ xs, o = .tup xs) → H' b = some o) : Grp CR CC names least g dc kl ca la s H' := by
  obtain ⟨dx, ho⟩ := x.o
  refine ⟨⟨dx, e _ _ ho (.inl ⟨_, _, _, rfl⟩)⟩, e _ _ x.d (.inr (.inl rfl)), e _ _ x.k (.inr (.inr (.inl rfl))), fun n hn => ?_, x.ic, x.il, x.ig, x.ik, x.kn, x.ln, x.k9, x.n9, x.lt, x.ns⟩
  obtain ⟨⟨dn, h1⟩, us, h2, h3⟩ := x.cp n hn
  exact ⟨⟨dn, e _ _ h1 (.inl ⟨_, _, _, rfl⟩)⟩, us, e _ _ h2 (.inr (.inr (.inr (.inl ⟨n, hn, rfl⟩)))), h3.kt fun b xs h => e _ _ h (.inr (.inr (.inr (.inr ⟨xs, rfl⟩))))⟩
theorem Ds.ex (x : Ds CR CC Pd Pl names least d g dc kl ow ok ou na ca la s ld T kp ups count H) (e : Ex H H') : Ds CR CC Pd Pl names least d g dc kl ow ok ou na ca la s ld T kp ups count H' :=
  ⟨x.dice.ex e, x.tabs.ext e, x.grp.ex e, x.own.ex e, e _ _ x.hna, x.nd, x.dl, x.nl, x.wd⟩
theorem Ds.lam (x : Ds CR CC Pd Pl names least d g dc kl ow ok ou na ca la s ld T kp ups count H) (e : ExtN H H') (t : Tabs (TT Pd Pl) H') : Ds CR CC Pd Pl names least d g dc kl ow ok ou na ca la s ld T kp ups count H' := by
  obtain ⟨a, b, k, hd⟩ := x.dice
  refine ⟨⟨a, b, k, e _ _ hd (fun _ z => nomatch z)⟩, t, x.grp.keep fun c o h w => e _ _ h fun ps z => ?_, ⟨e _ _ x.own.o (fun _ z => nomatch z), e _ _ x.own.k (fun _ z => nomatch z), e _ _ x.own.u (fun _ z => nomatch z)⟩, e _ _ x.hna (fun _ z => nomatch z), x.nd, x.dl, x.nl, x.wd⟩
  subst z
  rcases w with ⟨_, _, _, z⟩ | rfl | rfl | ⟨n, hn, rfl⟩ | ⟨_, z⟩
  · cases z
  · rw [x.grp.d] at h; cases h
  · rw [x.grp.k] at h; cases h
  · obtain ⟨us, h2, _⟩ := (x.grp.cp n hn).r
    rw [h2] at h; cases h
  · cases z
theorem Ds.roll (x : Ds CR CC Pd Pl names least d g dc kl ow ok ou na ca la s ld T kp ups count H) (e : ExD d H H') (i : IsDice H' d) : Ds CR CC Pd Pl names least d g dc kl ow ok ou na ca la s ld T kp ups count H' := by
  obtain ⟨a, b, k, hd⟩ := x.dice
  obtain ⟨n1, n2, n3, n4⟩ := x.nd
  refine ⟨i, tabs_but x.tabs fun c o h h1 _ _ => e c o (fun z => by rw [z, hd] at h; exact h1 _ (Option.some.inj h).symm) h, x.grp.keep fun c o h w => e _ _ (fun z => ?_) h,
    ⟨e _ _ (ne_ty x.own.o hd (fun z => nomatch z)) x.own.o, e _ _ n2.symm x.own.k, e _ _ n3.symm x.own.u⟩, e _ _ n4.symm x.hna, x.nd, x.dl, x.nl, x.wd⟩
  rw [z, hd] at h
  have h := Option.some.inj h
  rcases w with ⟨_, _, _, w⟩ | w | w | ⟨n, hn, w⟩ | ⟨_, w⟩
  · rw [w] at h; cases h
  · have := x.grp.d
    rw [← w, z, hd] at this; cases this
  · exact n1 (z.symm.trans w)
  · exact x.dl n hn (z.symm.trans w)
  · rw [w] at h; cases h
theorem Ds.move {kl' : Addr} {la' : Str → Addr} {s' : Rp Str} (x : Ds CR CC Pd Pl names least d g dc kl ow ok ou na ca la s ld T kp ups count H) (e : ExG g names ca la H H') (hk : kl' = kl ∨ H kl' = none) (hl : LaN names la la' H) (gr : Grp CR CC names least g dc kl' ca la' s' H') :
    Ds CR CC Pd Pl names least d g dc kl' ow ok ou na ca la' s' ld T kp ups count H' := by
  obtain ⟨a, b, k, hd⟩ := x.dice
  obtain ⟨n1, n2, n3, n4⟩ := x.nd
  obtain ⟨dg, hg⟩ := x.grp.o
  have nc : ∀ {c : Addr} {o : HO}, H c = some o → (∀ C dx fs, o ≠ .ins C dx fs) → (∀ n ∈ names, c ≠ la n) → H' c = some o := fun {c o} h h1 h2 => e.1 c o h (fun z => by rw [z, hg] at h; exact h1 _ _ _ (Option.some.inj h).symm) fun n hn => ⟨fun z => by
    obtain ⟨dn, hc⟩ := (x.grp.cp n hn).o
    rw [z, hc] at h; exact h1 _ _ _ (Option.some.inj h).symm, h2 n hn⟩
  have nt : ∀ {c : Addr} {o : HO}, H c = some o → (∀ C dx fs, o ≠ .ins C dx fs) → (∀ xs, o ≠ .lst xs) → H' c = some o := fun {c o} h h1 h2 => nc h h1 fun n hn z => by
    obtain ⟨us, hc, _⟩ := (x.grp.cp n hn).r
    rw [z, hc] at h; exact h2 _ (Option.some.inj h).symm
  refine ⟨⟨a, b, k, nc hd (fun _ _ _ z => nomatch z) x.dl⟩, tabs_but x.tabs fun c o h h1 h2 _ => nt h h2 h1, gr,
    ⟨nt x.own.o (fun _ _ _ z => nomatch z) (fun _ z => nomatch z), nc x.own.k (fun _ _ _ z => nomatch z) (fun n hn => (x.nl n hn).1), nc x.own.u (fun _ _ _ z => nomatch z) (fun n hn => (x.nl n hn).2.1)⟩,
    nc x.hna (fun _ _ _ z => nomatch z) (fun n hn => (x.nl n hn).2.2), ⟨?_, n2, n3, n4⟩, fun n hn => ?_, fun n hn => ?_, x.wd⟩
  · rcases hk with z | z
    · rw [z]; exact n1
    · exact ne_of_none hd z
  · rcases hl n hn with z | z
    · rw [z]; exact x.dl n hn
    · exact ne_of_none hd z
  · rcases hl n hn with z | z
    · rw [z]; exact x.nl n hn
    · exact ⟨ne_of_none x.own.k z, ne_of_none x.own.u z, ne_of_none x.hna z⟩
theorem Ds.write {ok' ou' : Addr} {ld' : Option Str} {T' : Int} {kp' ups' : List Str} {count' : Int} (x : Ds CR CC Pd Pl names least d g dc kl ow ok ou na ca la s ld T kp ups count H) (hk : H ok' = some (.lst (kp'.map V.str))) (hu : H ou' = some (.lst (ups'.map V.str))) (n1 : d ≠ ok') (n2 : d ≠ ou') (n3 : ∀ n ∈ names, ok' ≠ la n ∧ ou' ≠ la n) :
    Ds CR CC Pd Pl names least d g dc kl ow ok' ou' na ca la s ld' T' kp' ups' count' (upd H ow (.dK [(Sum.inr "leader", ldV ld'), (Sum.inr "time", .int T'), (Sum.inr "keeping", .ref ok'), (Sum.inr "up", .ref ou'), (Sum.inr "count", .int count')])) := by
  obtain ⟨a, b, k, hd⟩ := x.dice
  have st : ∀ {c : Addr} {o : HO}, H c = some o → (∀ ks, o ≠ .dK ks) → (upd H ow (.dK [(Sum.inr "leader", ldV ld'), (Sum.inr "time", .int T'), (Sum.inr "keeping", .ref ok'), (Sum.inr "up", .ref ou'), (Sum.inr "count", .int count')])) c = some o := fun h h1 => by
    rw [L2.upd_ne (fun z => by rw [z, x.own.o] at h; exact h1 _ (Option.some.inj h).symm)]; exact h
  refine ⟨⟨a, b, k, st hd (fun _ z => nomatch z)⟩, tabs_but x.tabs fun c o h _ _ h3 => st h h3, x.grp.keep fun c o h w => ?_, ⟨upd_same, st hk (fun _ z => nomatch z), st hu (fun _ z => nomatch z)⟩, st x.hna (fun _ z => nomatch z), ⟨x.nd.1, n1, n2, x.nd.2.2.2⟩, x.dl, fun n hn => ⟨(n3 n hn).1, (n3 n hn).2, (x.nl n hn).2.2⟩, x.wd⟩
  rcases w with ⟨_, _, _, w⟩ | w | w | ⟨n, hn, w⟩ | ⟨_, w⟩
  · exact st h (fun ks z => by rw [w] at z; cases z)
  · rw [L2.upd_ne (fun z => x.wd (z.symm.trans w))]; exact h
  · refine st h fun ks z => ?_
    rw [w, x.grp.k] at h
    rw [z] at h; cases h
  · refine st h fun ks z => ?_
    obtain ⟨us, h2, _⟩ := (x.grp.cp n hn).r
    rw [w, h2] at h
    rw [z] at h; cases h
  · exact st h (fun ks z => by rw [w] at z; cases z)
end
end K6
set_option Elab.async false
set_option linter.all false
set_option maxRecDepth 100000
set_option maxHeartbeats 4000000
namespace K6
open PySem PySem.Spec PyProof.Rows L2 KB KC KD KS LamX R8 Q6
def Cal (P : Program) (w : World) (K : PySem.W.Frag) (mg : Str → Option Value) (base : Heap) (k : Nat) (x : Str) (ps : List Str) (sp : Sp) : Prop :=
  ∃ f fd, FnOk P w K mg base CX0 k f fd ps sp ∧ mg x = some (.ref f) ∧ PySem.W.keepIn K (.ref f) = true ∧ Binds K fd ps []
def CalM (P : Program) (w : World) (K : PySem.W.Frag) (mg : Str → Option Value) (base : Heap) (C : Addr) (CX : CXT) (k : Nat) (m : Str) (ps : List Str) (sp : Sp) : Prop :=
  ∃ f fd, FnOk P w K mg base CX k f fd ps sp ∧ Meth K C m f ∧ Binds K fd ps []
def CalI (P : Program) (w : World) (K : PySem.W.Frag) (mg : Str → Option Value) (base : Heap) (C : Addr) (CX : CXT) (k : Nat) (ps : List Str) (sp : Sp) : Prop :=
  ∃ f fd, FnOk P w K mg base CX k f fd ps sp ∧ Mk K C f ∧ Binds K fd ps []
structure DeedE (P : Program) (w : World) (K : PySem.W.Frag) (mg : Str → Option Value) (base : Heap) (CR CC CE Pd Pl cD fTo : Addr) (fdTo : FuncData) : Prop where
  T : TxtL mg
  J : TxtX K mg CE
  B : TxtR K mg CR
  BC : TxtC K mg CC
  TBd : LamX.TabB base mg cD Pd
  ap : Pd ≠ Pl
  roll : Cal P w K mg base 1 "_law_roll" ["dice", "many"] spRoll
  append : CalM P w K mg base CR (L2.CX P w) 2 "append" ["self", "row"] (spAppend CR CC CE)
  pull : CalM P w K mg base CR (L2.CX P w) 3 "pull" ["self", "name", "many"] (spPull CR CC CE)
  down : CalM P w K mg base CR (L2.CX P w) 2 "go_down" ["self", "name"] (spDown CR CC CE)
  come : CalM P w K mg base CR (L2.CX P w) 1 "come_up" ["self", "name"] (spUp CR CC CE)
  elect : CalM P w K mg base CR CX0 3 "elect" ["self"] (spElect CR CC)
  drop : CalM P w K mg base CR (L2.CX P w) 2 "drop_slow" ["self", "name"] (spDrop CR CC CE)
  told : FnP K "_law_told" "_law_told" sTold [] fTo fdTo
  gTold : mg "_law_told" = some (.ref fTo)
abbrev nDeed : List Str := ["dice", "group", "own", "names", "least", "step", "sort", "lead", "good", "place", "mine", "whole", "able", "name", "one"]
theorem scDeed : FnScope nDeed ["dice", "group", "own", "names", "least", "step"] (defScope sDeed) := ⟨rfl, rfl, rfl, by decide +kernel, rfl, by decide +kernel, by decide +kernel⟩
theorem scTold : FnScope ["what"] ["what"] (defScope sTold) := ⟨rfl, rfl, rfl, by decide +kernel, rfl, by decide +kernel, by decide +kernel⟩
abbrev pass0' : Stmt := .Pass ⟨0, 0, 0, 0⟩
def ifBody : Stmt → List Stmt
  | .If _ b _ _ => b
  | _ => []
def ifElse : Stmt → Stmt
  | .If _ _ (e :: _) _ => e
  | s => s
def deedIf : Nat → Stmt
  | 0 => (defBody sDeed).getD 1 pass0'
  | k + 1 => ifElse (deedIf k)
abbrev xDeed (P : Program) (w : World) (K : PySem.W.Frag) (mg : Str → Option Value) (base : Heap) (fD cD : Addr) (A : Around) (outer : List PySem.Env) (s : Shared) (H0 : Hp) (E0' : XK) : Cx := (cxOf CX0 P w K mg base nDeed "_law_deed" (defScope sDeed) fD (.ref cD) A outer s H0 E0').nox
theorem qDeed : (Str.ofString "_law_deed" ++ Str.ofString ".<locals>.") ++ Str.ofString "<lambda>" = qD := by decide +kernel
section
variable {P : Program} {w : World} {K : PySem.W.Frag} {mg : Str → Option Value} {base : Heap} {CR CC CE Pd Pl cD fTo fD : Addr} {fdTo : FuncData} {A : Around} {outer : List PySem.Env} {s : Shared} {H0 : Hp} {E0' : XK}
theorem deed_0 (ve : DeedE P w K mg base CR CC CE Pd Pl cD fTo fdTo) (hr : Room 11 (xDeed P w K mg base fD cD A outer s H0 E0').A) :
    ∃ t, PS (xDeed P w K mg base fD cD A outer s H0 E0') ((defBody sDeed).getD 0 pass0') t ∧ ∀ (D : Ends) (a6 a7 a8 a9 a10 a11 a12 a13 a14 : Option V) (H : Hp) (names : List Str) (least step : Int) (d g dc kl ow ok ou na : Addr) (ca la : Str → Addr) (st : Rp Str) (ld : Option Str) (T : Int) (kp ups : List Str) (count : Int),
      Ds CR CC Pd Pl names least d g dc kl ow ok ou na ca la st ld T kp ups count H → names ≠ [] →
      (∀ (H' : Hp) (so : Int) (n : Str), Ds CR CC Pd Pl names least d g dc kl ow ok ou na ca la st ld T kp ups count H' → (∀ b xs, H b = some (.lst xs) → b ≠ d → H' b = some (.lst xs)) → KT' H H' → n ∈ names → 0 ≤ so → so < 12 → D.nx [some (.ref d), some (.ref g), some (.ref ow), some (.ref na), some (.int least), some (.int step), some (.int so), some (ldV ld), a8, a9, a10, a11, a12, some (.str n), a14] H') →
      t D [some (.ref d), some (.ref g), some (.ref ow), some (.ref na), some (.int least), some (.int step), a6, a7, a8, a9, a10, a11, a12, a13, a14] H := by
  obtain ⟨f1, fd1, G1, g1, k1, b1⟩ := ve.roll
  have hu := hr.units
  have hu1 := Nat.lt_trans (Nat.add_lt_add_left (by decide : 1 < 64) _) hu
  refine ⟨_, ps_asg (pe_tup (pa_cons (pe_call G1 (hr.mono (by decide)) (by rfl) g1 k1 b1 .nil pass0 (pa_cons (pv 0) (pa_cons pe_int pa_nil)))
      (pa_cons (pe_ix ix_listD (pv 3) (pe_call G1 (hr.mono (by decide)) (by rfl) g1 k1 b1 .nil pass0 (pa_cons (pv 0) (pa_cons (pe_callB call_len_seq (by rfl) ve.T.len PySem.boot_len (pa_cons (pv 3) pa_nil)) pa_nil))) (fun _ _ => rfl))
      (pa_cons (pe_dget hu1 (pv 2) pe_str (fun _ _ => rfl)) pa_nil))))
    (pg_tup rfl (pgs_cons (pg_name (i := 6) scDeed.nd rfl (Or.inl rfl)) (pgs_cons (pg_name (i := 13) scDeed.nd rfl (Or.inr rfl)) (pgs_cons (pg_name (i := 7) scDeed.nd rfl (Or.inl rfl)) pgs_nil)))), ?_⟩
  intro D a6 a7 a8 a9 a10 a11 a12 a13 a14 H names least step d g dc kl ow ok ou na ca la st ld T kp ups count x hne fin
  have hl := List.length_pos_iff.mpr hne
  have n9 := x.grp.n9
  refine ⟨_, rfl, roll_step x.dice (by decide) (by decide) fun so H1 s0 s12 e1 i1 => ?_⟩
  have x1 := x.roll e1 i1
  refine ⟨_, rfl, _, rfl, _, rfl, na, _, rfl, .inl (SqL.of x1.hna), roll_step i1 (by rw [List.length_map]; omega) (by rw [List.length_map]; omega) fun r H2 r0 r1 e2 i2 => ?_⟩
  have x2 := x1.roll e2 i2
  rw [List.length_map] at r1
  obtain ⟨j, rfl⟩ := Int.eq_ofNat_of_zero_le r0
  obtain ⟨n, hn⟩ : ∃ n, names[j]? = some n := ⟨_, List.getElem?_eq_getElem (by omega)⟩
  have o1 : DGet H2 ow (.str "leader") (some (ldV ld)) := DGet.k (k := Sum.inr "leader") x2.own.o
  refine ⟨na, _, _, .str n, rfl, rfl, x2.hna, atI_nat (by rw [List.getElem?_map, hn]; rfl), _, rfl, ow, _, rfl, o1, (by show 3 ≤ sizeLine; decide), fun q hq => ?_⟩
  have e3 : Ex H2 (upd H2 q (.tup [.int so, .str n, ldV ld])) := Ex.upd hq
  have h3 : (upd H2 q (.tup [.int so, .str n, ldV ld])) q = some (.tup [.int so, .str n, ldV ld]) := upd_same
  generalize upd H2 q (.tup [.int so, .str n, ldV ld]) = H3 at e3 h3
  refine ⟨q, _, rfl, SqT.of h3, rfl, _, _, rfl, _, _, rfl, _, _, rfl, rfl, ?_⟩
  obtain ⟨da, db, dk, hd⟩ := x.dice
  exact fin H3 so n (x2.ex e3) (fun b xs h n => e3 _ _ (e2 _ _ n (e1 _ _ n h))) (fun b xs h => by
    have nb : b ≠ d := ne_ty h hd (fun z => nomatch z)
    exact e3 _ _ (e2 _ _ nb (e1 _ _ nb h))) (List.mem_of_getElem? hn) s0 s12
end
end K6
set_option Elab.async false
set_option linter.all false
set_option maxRecDepth 100000
set_option maxHeartbeats 4000000
namespace K6
open PySem PySem.Spec PyProof.Rows L2 KB KC KS LamX R8 Q6
theorem firmed_some {s : Rp Str} {l : Str} (h : s.leader = some l) : firmed s = { s with firm := Q6.set s.firm l (max (s.firm l) (minL s)) } := by
  obtain ⟨a, b, c, d, e, f⟩ := s
  have h : d = some l := h
  subst h
  rfl
section
variable {names : List Str} {s : Rp Str} {G : Int → Lg} {kept : List Int} {count : Nat}
theorem inv_firmed (o : Ok names s G kept count) : ∃ kept', Ok names (firmed s) G kept' count ∧ kept <+: kept' ∧ (s.leader = none → kept' = kept) := by
  cases e : s.leader with
  | none =>
    have : firmed s = s := by unfold firmed; rw [e]
    rw [this]
    exact ⟨kept, o, List.prefix_refl _, fun _ => rfl⟩
  | some l =>
    have hf := (o.ld l e).2.2.2
    have : firmed s = { s with firm := Q6.set s.firm l (max kept.length (minL s)) } := by
      rw [firmed_some e, hf]
    rw [this]
    obtain ⟨a, b, _⟩ := o.refirm e minL_le
    exact ⟨_, a, b, fun z => nomatch z⟩
theorem inv_append (o : Ok names s G kept count) {l : Str} (hl : s.leader = some l) (x : Int) : ∃ G' kept', Ok names (firmed { s with lg := Q6.set s.lg l (s.lg l ++ [(s.time, x)]) }) G' kept' (count + 1) ∧ kept <+: kept' := by
  obtain ⟨k, h1, h2, _⟩ := inv_firmed (o.append hl x)
  exact ⟨_, k, h1, h2⟩
theorem pull_pre {f l : Lg} {p : Nat} {many : Int} (h : f.take p <+: l) : pullL f l p many <+: l := by
  obtain ⟨r, hr⟩ := h
  unfold pullL
  have : l.drop (f.take p).length = r := by rw [← hr, List.drop_left]
  rw [this]
  conv => rhs; rw [← hr]
  exact (List.prefix_append_right_inj _).mpr (List.take_prefix _ _)
theorem pull_len {f l : Lg} {p m : Nat} {many : Int} (h1 : m ≤ f.length) (h2 : m ≤ p) : m ≤ (pullL f l p many).length := by
  unfold pullL
  rw [List.length_append, List.length_take]
  omega
theorem inv_pull (o : Ok names s G kept count) {l n : Str} (hl : s.leader = some l) (hn : n ∈ names) (hnl : n ≠ l) {p : Nat} {many : Int} {keep' : List Str} (cp : CutP (s.lg n) (s.lg l) s.time p) (j : Join s.keep n (pullL (s.lg n) (s.lg l) p many) (s.lg l) keep') :
    ∃ kept', Ok names (pullS s n l (pullL (s.lg n) (s.lg l) p many) keep') G kept' count ∧ kept <+: kept' ∧ pullL (s.lg n) (s.lg l) p many <+: s.lg l := by
  obtain ⟨l1, l2, l3, l4⟩ := o.ld l hl
  have hln := o.kn l l1
  obtain ⟨⟨tm, mine, theirs, fo, rfl⟩, past⟩ := cp
  have pre := (found_pre (o.c n hn) (o.c l hln) (o.tm n hn) (o.tm l hln) fo).1
  have cpre : pullL (s.lg n) (s.lg l) (min mine theirs) many <+: s.lg l := pull_pre pre
  generalize hc : pullL (s.lg n) (s.lg l) (min mine theirs) many = c at j cpre ⊢
  have hk : n ∈ s.keep → kept.length ≤ c.length := fun hk => by
    have pn : s.lg n <+: G s.time := o.kp n hk
    have hp := past kept.length (o.kk n hk) (past_start pn (by rw [l3]; exact List.prefix_refl _) (o.tm n hn) (o.kk n hk) (by rw [l3]; exact o.klen) (Int.le_refl _))
    rw [← hc]
    exact pull_len (o.kk n hk) hp
  have ce : c.length = (s.lg l).length → c = s.lg l := fun e => cpre.eq_of_length e
  have jj : (∀ m ∈ keep', m ∈ s.keep ∨ (m = n ∧ c = s.lg l)) ∧ keep'.Nodup ∧ ∀ m ∈ s.keep, m ∈ keep' := by
    unfold Join at j
    by_cases z : c.length = (s.lg l).length ∧ n ∉ s.keep
    · rw [if_pos z] at j
      obtain ⟨pm, _⟩ := j
      refine ⟨fun m hm => ?_, pm.nodup_iff.mpr (List.nodup_append.mpr ⟨o.kd, by simp, fun a ha b hb e => z.2 (by rw [← List.mem_singleton.mp hb, ← e]; exact ha)⟩), fun m hm => pm.mem_iff.mpr (List.mem_append_left _ hm)⟩
      rcases List.mem_append.mp (pm.mem_iff.mp hm) with h | h
      · exact .inl h
      · exact .inr ⟨List.mem_singleton.mp h, ce z.1⟩
    · rw [if_neg z] at j
      rw [j]
      exact ⟨fun m hm => .inl hm, o.kd, fun m hm => hm⟩
  obtain ⟨j1, j2, j3⟩ := jj
  have o1 := o.pull hl hn hnl cpre hk (x := 0) (Nat.zero_le _) (Nat.zero_le _) j1 j2 j3
  obtain ⟨kept', o2, kp, _⟩ := inv_firmed o1
  have eF : firmed { s with lg := Q6.set s.lg n c, keep := keep', firm := Q6.set s.firm n 0 } = { s with lg := Q6.set s.lg n c, keep := keep', firm := Q6.set (Q6.set s.firm n 0) l (max (s.firm l) (minL { s with lg := Q6.set s.lg n c, keep := keep' })) } := by
    rw [firmed_some (s := { s with lg := Q6.set s.lg n c, keep := keep', firm := Q6.set s.firm n 0 }) hl]
    show ({ s with lg := Q6.set s.lg n c, keep := keep', firm := Q6.set (Q6.set s.firm n 0) l (max (Q6.set s.firm n 0 l) (minL { s with lg := Q6.set s.lg n c, keep := keep', firm := Q6.set s.firm n 0 })) } : Rp Str) = _
    rw [set_ne hnl.symm]
    rfl
  have eG : firmed { s with lg := Q6.set s.lg n c, keep := keep' } = { s with lg := Q6.set s.lg n c, keep := keep', firm := Q6.set s.firm l (max (s.firm l) (minL { s with lg := Q6.set s.lg n c, keep := keep' })) } := firmed_some (s := { s with lg := Q6.set s.lg n c, keep := keep' }) hl
  have hl2 : (firmed { s with lg := Q6.set s.lg n c, keep := keep', firm := Q6.set s.firm n 0 }).leader = some l := by rw [eF]; exact hl
  have hf2 := (o2.ld l hl2).2.2.2
  have eP : pullS s n l c keep' = { firmed { s with lg := Q6.set s.lg n c, keep := keep', firm := Q6.set s.firm n 0 } with firm := Q6.set (firmed { s with lg := Q6.set s.lg n c, keep := keep', firm := Q6.set s.firm n 0 }).firm n (min kept'.length c.length) } := by
    rw [eF] at hf2 ⊢
    have hf2 : Q6.set (Q6.set s.firm n 0) l (max (s.firm l) (minL { s with lg := Q6.set s.lg n c, keep := keep' })) l = kept'.length := hf2
    rw [set_same] at hf2
    unfold pullS
    rw [eG]
    show ({ s with lg := Q6.set s.lg n c, keep := keep', firm := Q6.set (Q6.set s.firm l (max (s.firm l) (minL { s with lg := Q6.set s.lg n c, keep := keep' }))) n (min (Q6.set s.firm l (max (s.firm l) (minL { s with lg := Q6.set s.lg n c, keep := keep' })) l) c.length) } : Rp Str) = { s with lg := Q6.set s.lg n c, keep := keep', firm := Q6.set (Q6.set (Q6.set s.firm n 0) l (max (s.firm l) (minL { s with lg := Q6.set s.lg n c, keep := keep' }))) n (min kept'.length c.length) }
    rw [set_same, hf2]
    congr 1
    funext m
    by_cases e : m = n
    · rw [e, set_same, set_same]
    · rw [set_ne e, set_ne e]
      by_cases e2 : m = l
      · rw [e2, set_same, set_same]
      · rw [set_ne e2, set_ne e2, set_ne e]
  refine ⟨kept', ?_, kp, cpre⟩
  rw [eP]
  have hlg : (firmed { s with lg := Q6.set s.lg n c, keep := keep', firm := Q6.set s.firm n 0 }).lg n = c := by rw [firmed_lg]; exact set_same
  refine o2.setFirm (by rw [hl2]; exact fun z => hnl (Option.some.inj z).symm) (Nat.min_le_left _ _) (by rw [hlg]; exact Nat.min_le_right _ _) ?_
  rw [hlg]
  have ht : (firmed { s with lg := Q6.set s.lg n c, keep := keep', firm := Q6.set s.firm n 0 }).time = s.time := by rw [eF]
  rw [ht, ← l3]
  exact cpre
theorem inv_fewer (o : Ok names s G kept count) {keep : List Str} {up : Str → Bool} {ld : Option Str} (h1 : ∀ m ∈ keep, m ∈ s.keep) (h2 : keep.Nodup) (h3 : keep ≠ []) (h4 : ∀ l, ld = some l → s.leader = some l ∧ l ∈ keep ∧ up l = true) :
    ∃ kept', Ok names (firmed { s with keep := keep, up := up, leader := ld }) G kept' count ∧ kept <+: kept' ∧ (ld = none → kept' = kept) := inv_firmed (o.fewer h1 h2 h3 h4)
theorem inv_down (o : Ok names s G kept count) {n : Str} : ∃ kept', Ok names (downS s n) G kept' count ∧ kept <+: kept' ∧ ((if s.leader = some n then none else s.leader) = none → kept' = kept) := by
  unfold downS
  refine inv_fewer o (fun m hm => ?_) ?_ ?_ fun l hl => ?_
  · split at hm
    · exact hm
    · exact (List.mem_filter.mp hm).1
  · split
    · exact o.kd
    · exact List.Pairwise.filter _ o.kd
  · split
    · exact o.k0
    · exact without_ne o.k0 o.kd ‹_›
  · split at hl
    · cases hl
    · rename_i hne
      have hln : l ≠ n := fun z => hne (by rw [hl, z])
      obtain ⟨a, b, _, _⟩ := o.ld l hl
      refine ⟨hl, ?_, by rw [set_ne hln]; exact b⟩
      split
      · exact a
      · exact List.mem_filter.mpr ⟨a, by simpa using hln⟩
theorem inv_up (o : Ok names s G kept count) {n : Str} : Ok names { s with up := Q6.set s.up n true } G kept count := by
  refine o.fewer (fun m hm => hm) o.kd o.k0 fun l hl => ?_
  obtain ⟨a, b, _, _⟩ := o.ld l hl
  refine ⟨hl, a, ?_⟩
  by_cases e : l = n
  · rw [e, set_same]
  · rw [set_ne e]; exact b
theorem inv_drop (o : Ok names s G kept count) {n l : Str} (hl : s.leader = some l) (hn : n ≠ l) : ∃ kept', Ok names (dropS s n) G kept' count ∧ kept <+: kept' ∧ (s.leader = none → kept' = kept) := by
  unfold dropS
  have lw : l ∈ without s.keep n := List.mem_filter.mpr ⟨(o.ld l hl).1, by simpa using fun z => hn z.symm⟩
  refine inv_fewer o (keep := without s.keep n) (up := s.up) (ld := s.leader) (fun m hm => (List.mem_filter.mp hm).1) (List.Pairwise.filter _ o.kd) (fun z => by rw [z] at lw; cases lw) fun l' hl' => ?_
  have : l' = l := by rw [hl] at hl'; exact (Option.some.inj hl').symm
  rw [this]
  exact ⟨hl, lw, (o.ld l hl).2.1⟩
theorem inv_elect (o : Ok names s G kept count) {l : Str} {r : List Str} (he : ableOf s = l :: r) {lgf : Str → Lg} (h1 : ∀ m ∈ ableOf s, ∃ p, CutP (s.lg m) (s.lg l) (s.time + 1) p ∧ lgf m = (s.lg m).take p) (h2 : ∀ m, m ∉ ableOf s → lgf m = s.lg m) :
    ∃ G' kept', Ok names (firmed ⟨lgf, s.firm, s.up, some l, s.time + 1, ableOf s⟩) G' kept' count ∧ kept <+: kept' := by
  have lab : l ∈ ableOf s := by rw [he]; exact List.mem_cons_self
  have hak : ∀ m ∈ ableOf s, m ∈ s.keep := fun m hm => (List.mem_filter.mp hm).1
  have lk := hak l lab
  have hln := o.kn l lk
  have tl := (o.tm l hln).mono (show s.time ≤ s.time + 1 by omega)
  have hlg : (fun m => if m ∈ ableOf s then lgf m else s.lg m) = lgf := by
    funext m
    by_cases z : m ∈ ableOf s
    · rw [if_pos z]
    · rw [if_neg z, h2 m z]
  have hc : ∀ m ∈ ableOf s, lgf m <+: s.lg l ∧ kept.length ≤ (lgf m).length ∧ lgf m <+: s.lg m := fun m hm => by
    obtain ⟨p, ⟨⟨tm, mine, theirs, fo, rfl⟩, past⟩, e⟩ := h1 m hm
    have hmn := o.kn m (hak m hm)
    have tmm := (o.tm m hmn).mono (show s.time ≤ s.time + 1 by omega)
    have pre := found_pre (o.c m hmn) (o.c l hln) tmm tl fo
    have hp := past kept.length (o.kk m (hak m hm)) (past_start (o.kp m (hak m hm)) (o.kp l lk) tmm (o.kk m (hak m hm)) (o.kk l lk) (Int.le_refl _))
    rw [e]
    refine ⟨pre.1, ?_, List.take_prefix _ _⟩
    rw [List.length_take]
    have := o.kk m (hak m hm)
    omega
  have hcl : lgf l = s.lg l := by
    obtain ⟨p, cp, e⟩ := h1 l lab
    rw [e, cut_self tl cp]
  have o1 := o.elect lab hak (List.Pairwise.filter _ o.kd) (List.mem_filter.mp lab).2 (cutL := lgf) hc hcl
  rw [hlg] at o1
  obtain ⟨kept', o2, kp, _⟩ := inv_firmed o1
  refine ⟨Q6.set G (s.time + 1) (s.lg l), kept', ?_, kp⟩
  have hm : kept.length ≤ minL ⟨lgf, s.firm, s.up, some l, s.time + 1, ableOf s⟩ := by
    unfold minL
    show kept.length ≤ (((ableOf s).map fun n => (lgf n).length).min?).getD 0
    cases e : ((ableOf s).map fun n => (lgf n).length).min? with
    | none =>
      rw [List.min?_eq_none_iff, List.map_eq_nil_iff] at e
      rw [e] at lab
      cases lab
    | some k =>
      rw [List.min?_eq_some_iff] at e
      obtain ⟨m, hm, rfl⟩ := List.mem_map.mp e.1
      exact (hc m hm).2.1
  have fk : s.firm l ≤ kept.length := (o.fm l hln).1
  have e1 : firmed ⟨lgf, s.firm, s.up, some l, s.time + 1, ableOf s⟩ = firmed { s with lg := lgf, keep := ableOf s, leader := some l, time := s.time + 1, firm := Q6.set s.firm l kept.length } := by
    show ({ lg := lgf, firm := Q6.set s.firm l (max (s.firm l) (minL ⟨lgf, s.firm, s.up, some l, s.time + 1, ableOf s⟩)), up := s.up, leader := some l, time := s.time + 1, keep := ableOf s } : Rp Str) = { lg := lgf, firm := Q6.set (Q6.set s.firm l kept.length) l (max (Q6.set s.firm l kept.length l) (minL ⟨lgf, Q6.set s.firm l kept.length, s.up, some l, s.time + 1, ableOf s⟩)), up := s.up, leader := some l, time := s.time + 1, keep := ableOf s }
    have e2 : minL ⟨lgf, Q6.set s.firm l kept.length, s.up, some l, s.time + 1, ableOf s⟩ = minL ⟨lgf, s.firm, s.up, some l, s.time + 1, ableOf s⟩ := rfl
    rw [e2, set_set, set_same]
    congr 2
    omega
  rw [e1]
  exact o2
end
end K6
set_option Elab.async false
set_option linter.all false
set_option maxRecDepth 100000
set_option maxHeartbeats 4000000
namespace K6
open PySem PySem.Spec PyProof.Rows L2 KB KC KD KS LamX R8 Q6
structure InvD (names : List Str) (s : Rp Str) (G : Int → Lg) (kept : List Int) (ups : List Str) (count : Nat) : Prop where
  ok : Q6.Ok names s G kept count
  so : sortedS s.keep = true
  un : ups.Nodup
  um : ∀ m, m ∈ ups ↔ m ∈ names ∧ s.up m = true
  nn : names.Nodup
def FrD (d : Addr) (names : List Str) (la la' : Str → Addr) (H H' : Hp) : Prop := (∀ b xs, H b = some (.lst xs) → b ≠ d → (∀ n ∈ names, b ≠ la n) → H' b = some (.lst xs) ∧ ∀ n ∈ names, b ≠ la' n) ∧ KT' H H'
theorem FrD.trans {d : Addr} {names : List Str} {la la1 la2 : Str → Addr} {H H1 H2 : Hp} (a : FrD d names la la1 H H1) (b : FrD d names la1 la2 H1 H2) : FrD d names la la2 H H2 := ⟨fun c xs h n1 n2 => b.1 c xs (a.1 c xs h n1 n2).1 n1 (a.1 c xs h n1 n2).2, fun c xs h => b.2 _ _ (a.2 _ _ h)⟩
theorem FrD.of {d : Addr} {names : List Str} {la : Str → Addr} {H H' : Hp} (e : Ex H H') : FrD d names la la H H' := ⟨fun c xs h _ n => ⟨e _ _ h, n⟩, fun c xs h => e _ _ h⟩
theorem FrD.lam {d : Addr} {names : List Str} {la : Str → Addr} {H H' : Hp} (e : ExtN H H') : FrD d names la la H H' := ⟨fun c xs h _ n => ⟨e _ _ h (fun _ z => nomatch z), n⟩, fun c xs h => e _ _ h (fun _ z => nomatch z)⟩
section
variable {CR CC Pd Pl : Addr} {names : List Str} {least : Int} {d g dc kl ow ok ou na : Addr} {ca la la' : Str → Addr} {s : Rp Str} {ld : Option Str} {T : Int} {kp ups : List Str} {count : Int} {H H' : Hp}
theorem Ds.fr (x : Ds CR CC Pd Pl names least d g dc kl ow ok ou na ca la s ld T kp ups count H) (e : ExG g names ca la H H') (hl : LaN names la la' H) : FrD d names la la' H H' := by
  obtain ⟨dg, hg⟩ := x.grp.o
  have cn : ∀ {c : Addr} {o : HO}, H c = some o → (∀ C dx fs, o ≠ .ins C dx fs) → c ≠ g ∧ ∀ n ∈ names, c ≠ ca n := fun {c o} h k => ⟨fun z => by rw [z, hg] at h; exact k _ _ _ (Option.some.inj h).symm, fun n hn z => by
    obtain ⟨dn, hc⟩ := (x.grp.cp n hn).o
    rw [z, hc] at h; exact k _ _ _ (Option.some.inj h).symm⟩
  refine ⟨fun c xs h n1 n2 => ⟨?_, fun n hn => ?_⟩, fun c xs h => ?_⟩
  · obtain ⟨a, b⟩ := cn h (fun _ _ _ z => nomatch z)
    exact e.1 _ _ h a fun n hn => ⟨b n hn, n2 n hn⟩
  · rcases hl n hn with z | z
    · rw [z]; exact n2 n hn
    · exact ne_of_none h z
  · obtain ⟨a, b⟩ := cn h (fun _ _ _ z => nomatch z)
    refine e.1 _ _ h a fun n hn => ⟨b n hn, fun z => ?_⟩
    obtain ⟨us, hc, _⟩ := (x.grp.cp n hn).r
    rw [z, hc] at h
    cases h
theorem Ds.frW (x : Ds CR CC Pd Pl names least d g dc kl ow ok ou na ca la s ld T kp ups count H) (ks : List (Key × V)) : FrD d names la la H (upd H ow (.dK ks)) :=
  ⟨fun c xs h _ n => ⟨by rw [L2.upd_ne (fun z => by rw [z, x.own.o] at h; cases h)]; exact h, n⟩, fun c xs h => by rw [L2.upd_ne (fun z => by rw [z, x.own.o] at h; cases h)]; exact h⟩
end
theorem firmed_leader {s : Rp Str} : (firmed s).leader = s.leader := by unfold firmed; split <;> rfl
theorem firmed_time {s : Rp Str} : (firmed s).time = s.time := by unfold firmed; split <;> rfl
theorem firmed_keep {s : Rp Str} : (firmed s).keep = s.keep := by unfold firmed; split <;> rfl
def DeedFin (CR CC Pd Pl : Addr) (names : List Str) (least : Int) (d g dc ow na : Addr) (ca la : Str → Addr) (kept : List Int) (stp : Nat) (H : Hp) (Q : Hp → Prop) : Prop :=
  ∀ H' kl' ok' ou' la' s' ups' count' G' kept', Ds CR CC Pd Pl names least d g dc kl' ow ok' ou' na ca la' s' s'.leader s'.time s'.keep ups' ((count' : Nat) : Int) H' → InvD names s' G' kept' ups' count' → (kept <+: kept' ∧ (s'.leader = none → kept' = kept)) → (∀ n ∈ names, (s'.lg n).length ≤ stp + 1) → FrD d names la la' H H' → Q H'
section
variable {P : Program} {w : World} {K : PySem.W.Frag} {mg : Str → Option Value} {base : Heap} {CR CC CE Pd Pl cD fTo fD : Addr} {fdTo : FuncData} {A : Around} {outer : List PySem.Env} {s : Shared} {H0 : Hp} {E0' : XK}
theorem lam_told (ve : DeedE P w K mg base CR CC CE Pd Pl cD fTo fdTo) (hr : Room 11 (xDeed P w K mg base fD cD A outer s H0 E0').A) {params : Arguments} {body : Expr} {scope : Scope} {t : XK → TE} {p lpos pos : Pos} (L : LamS (defScope sDeed) scope) (hdef : defaultsOf params (xDeed P w K mg base fD cD A outer s H0 E0').env = ([], []))
    (hbind : ∀ (q : Str) (cl : List (Str × Addr)) (pm cv ctv : Value), bindArgs (PySem.W.kla_fn "<lambda>" q params body scope cl pm cv ctv) ⟨[], []⟩ = pure [])
    (hbody : ∀ (A' : Around) (outer' : List Env) (s' : Shared) (H : Hp) (E : XK) (f c' : Addr), Room 9 (A'.deeper (lamEnv (xDeed P w K mg base fD cD A outer s H0 E0') scope s'.heap.objs.size f c')) → PE (lamCx (xDeed P w K mg base fD cD A outer s H0 E0') A' outer' s' H E scope f c') body (t E)) :
    PE (xDeed P w K mg base fD cD A outer s H0 E0') (.Call (.Name "_law_told" p) [.Lambda params body scope lpos] [] pos) (tLam (TT Pd Pl) (TTold K CE "LogError") t) := by
  obtain ⟨oc, od, dV, kV, doc, pm, an, cdv, ct, osl, rfl, lk, hcd, _, _⟩ := ve.told.ex
  have bT := ve.told.bindsN (ps := ["what"]) fun _ _ _ _ _ _ us hl => match us, hl with | [_], _ => rfl
  exact pe_lamcall (T := TT Pd Pl) (P := Pd) (c := cD) (k := 9) (by rfl) ve.gTold ve.told.kp lk hcd bT scTold rfl (Or.inl rfl)
      (told_gives (by rfl) ve.J.g (by decide +kernel) (fun f => rfl)) ve.TBd rfl
      (show (Pd, (Str.ofString "_law_deed" ++ Str.ofString ".<locals>.") ++ Str.ofString "<lambda>") ∈ TT Pd Pl by rw [qDeed]; exact List.mem_cons_self ..)
      (show ∀ p ∈ TT Pd Pl, p.1 = Pd → p.2 = (Str.ofString "_law_deed" ++ Str.ofString ".<locals>.") ++ Str.ofString "<lambda>" by
          rw [qDeed]
          intro p hp e
          rcases List.mem_cons.mp hp with z | h
          · rw [z]
          · rcases List.mem_cons.mp h with z | h
            · rw [z] at e
              exact absurd e.symm ve.ap
            · cases h)
      hr L hdef hbind hbody
theorem deed_app (ve : DeedE P w K mg base CR CC CE Pd Pl cD fTo fdTo) (hr : Room 11 (xDeed P w K mg base fD cD A outer s H0 E0').A) :
    ∃ t, PSs (xDeed P w K mg base fD cD A outer s H0 E0') (ifBody (deedIf 0)) t ∧ ∀ (D : Ends) (a8 a9 a10 a11 a12 a14 : Option V) (H : Hp) (names : List Str) (least so : Int) (stp : Nat) (n : Str) (d g dc kl ow ok ou na : Addr) (ca la : Str → Addr) (st : Rp Str) (ups : List Str) (count : Nat) (G : Int → Lg) (kept : List Int),
      Ds CR CC Pd Pl names least d g dc kl ow ok ou na ca la st st.leader st.time st.keep ups (count : Int) H → InvD names st G kept ups count → n ∈ names → (∀ n ∈ names, (st.lg n).length ≤ stp) → stp ≤ 90 →
      DeedFin CR CC Pd Pl names least d g dc ow na ca la kept stp H (fun H' => ∀ b8 b9 b10 b11 b12 b14, D.nx [some (.ref d), some (.ref g), some (.ref ow), some (.ref na), some (.int least), some (.int (stp : Int)), some (.int so), some (ldV st.leader), b8, b9, b10, b11, b12, some (.str n), b14] H') →
      t D [some (.ref d), some (.ref g), some (.ref ow), some (.ref na), some (.int least), some (.int (stp : Int)), some (.int so), some (ldV st.leader), a8, a9, a10, a11, a12, some (.str n), a14] H := by
  obtain ⟨f1, fd1, G1, m1, b1⟩ := ve.append
  have hu := hr.units
  have hu1 := Nat.lt_trans (Nat.add_lt_add_left (by decide : 1 < 64) _) hu
  refine ⟨_, pss_cons (ps_set (i := 8) scDeed.nd rfl (Or.inr rfl) (pe_and (pe_cmp (pc_notN (pv 7))) (pe_one (pe_cmpR op_ge (pe_callB call_len_seq (by rfl) ve.T.len PySem.boot_len (pa_cons (pe_dget hu1 (pv 2) pe_str (fun _ _ => rfl)) pa_nil)) (pv 4) (nomark _)))))
    (pss_cons (ps_set (i := 9) scDeed.nd rfl (Or.inl rfl) (pe_ifExp (pt_cmp (pc_notN (pv 7))) (pe_callB call_len_seq (by rfl) ve.T.len PySem.boot_len (pa_cons (pe_fld (pe_dget hu1 (pf 1) (pv 7) (fun _ _ => rfl)) (by rfl)) pa_nil)) pe_int))
    (pss_cons (ps_if (pt_cmpR op_ne (lam_told ve hr (lamS_by (by show lamSB (defScope sDeed) _ = true; decide +kernel)) rfl (fun _ _ _ _ _ => rfl)
        (fun A outer s H E f c' hr' => pe_meth (pv 1) ve.B.cl m1 G1 (hr'.mono (by decide)) b1 .nil (passes_call (takes_of rfl rfl rfl rfl) (fun _ _ _ _ h => h)) (pa_cons (pe_tup (pa_cons pe_str (pa_cons (pv 5) pa_nil))) pa_nil))) (pe_ifExp (pt_truth (pv 8) (fun _ => rfl)) (pv 9) pe_str) (nomark _)) (pss_one (ps_ret pe_bl)) pss_nil)
    (pss_one (ps_dput hu1 (pv 2) pe_str (pe_op op_add (pe_dget hu1 (pv 2) pe_str (fun _ _ => rfl)) (pe_callTy call_int1 (by rfl) ve.T.int (by decide +kernel) (pa_cons (pv 8) pa_nil))) rfl)))), ?_⟩
  intro D a8 a9 a10 a11 a12 a14 H names least so stp n d g dc kl ow ok ou na ca la st ups count G kept x iv hn hlt hst fin
  have hsl : sizeLine = 16777216 := rfl
  have cnt : ∀ (H4 : Hp) (kl4 : Addr) (la4 : Str → Addr) (s4 : Rp Str) (b9 : Option V) (b : Bool) (v8 : V), v8 = .bl b → Ds CR CC Pd Pl names least d g dc kl4 ow ok ou na ca la4 s4 st.leader st.time st.keep ups (count : Int) H4 →
      (∀ H5, FrD d names la4 la4 H4 H5 → Ds CR CC Pd Pl names least d g dc kl4 ow ok ou na ca la4 s4 st.leader st.time st.keep ups ((count + (if b then 1 else 0) : Nat) : Int) H5 → ∀ b8 b9 b10 b11 b12 b14, D.nx [some (.ref d), some (.ref g), some (.ref ow), some (.ref na), some (.int least), some (.int (stp : Int)), some (.int so), some (ldV st.leader), b8, b9, b10, b11, b12, some (.str n), b14] H5) →
      sDPut (tVar 2) (tC (.str "count")) (tOp (rI0 fun i j => V.int (i + j)) (tDGet (tVar 2) (tC (.str "count"))) (tCB (fun xs H Q => (∃ i, xs = [.int i] ∧ Q (.int i) H) ∨ ∃ k, xs = [.bl k] ∧ Q (.int (if k then 1 else 0)) H) (tCons (tVar 8) tNil))) D [some (.ref d), some (.ref g), some (.ref ow), some (.ref na), some (.int least), some (.int (stp : Int)), some (.int so), some (ldV st.leader), some v8, b9, a10, a11, a12, some (.str n), a14] H4 := by
    intro H4 kl4 la4 s4 b9 b v8 hv x4 k4
    subst hv
    have o5 : DGet H4 ow (.str "count") (some (.int (count : Int))) := DGet.k (k := Sum.inr "count") x4.own.o
    refine ⟨_, rfl, ow, _, rfl, o5, _, rfl, .inr ⟨_, rfl, _, _, rfl, rfl, _, rfl, ow, _, rfl, DPut.k (k := Sum.inr "count") x4.own.o (by show 5 < sizeLine; decide), ?_⟩⟩
    have ec : (count : Int) + (if b = true then (1 : Int) else 0) = ((count + (if b = true then 1 else 0) : Nat) : Int) := by split <;> omega
    have ep : putK [((Sum.inr "leader" : Key), ldV st.leader), (Sum.inr "time", .int st.time), (Sum.inr "keeping", .ref ok), (Sum.inr "up", .ref ou), (Sum.inr "count", .int (count : Int))] (Sum.inr "count") (.int ((count : Int) + (if b = true then (1 : Int) else 0))) = [((Sum.inr "leader" : Key), ldV st.leader), (Sum.inr "time", .int st.time), (Sum.inr "keeping", .ref ok), (Sum.inr "up", .ref ou), (Sum.inr "count", .int ((count + (if b = true then 1 else 0) : Nat) : Int))] := by
      rw [← ec]; rfl
    rw [ep]
    exact k4 _ (x4.frW _) (x4.write x4.own.k x4.own.u x4.nd.2.1 x4.nd.2.2.1 (fun n hn => ⟨(x4.nl n hn).1, (x4.nl n hn).2.1⟩)) _ _ _ _ _ _
  have keepLt : ∀ n ∈ names, (st.lg n).length < 900 := fun n hn => by have := hlt n hn; omega
  refine ⟨_, rfl, _, rfl, ?_⟩
  rw [ldV_non]
  by_cases e : st.leader = none
  · refine ifF (by simp [e]) ?_
    refine ⟨_, rfl, _, rfl, ?_⟩
    rw [ldV_non]
    refine ifF (by simp [e]) ⟨x.tabs, fun H1 e1 t1 => ?_⟩
    have x1 := x.lam e1 t1
    obtain ⟨dx, ho⟩ := x1.grp.o
    refine ⟨_, rfl, g, dx, _, rfl, ho, gF_m (by decide +kernel) (by decide +kernel) (by decide +kernel) (by decide +kernel) (by decide +kernel), _, rfl, (by show 2 ≤ sizeLine; decide), fun r hr => ?_⟩
    have e2 : Ex H1 (upd H1 r (.tup [.str "row", .int (stp : Int)])) := Ex.upd hr
    have h2 : (upd H1 r (.tup [.str "row", .int (stp : Int)])) r = some (.tup [.str "row", .int (stp : Int)]) := upd_same
    generalize upd H1 r (.tup [.str "row", .int (stp : Int)]) = H2 at e2 h2
    have x2 := x1.ex e2
    refine append_step x2.grp h2 iv.ok.k0 keepLt (fun _ => ⟨true, ve.J.e, fun _ => ?_, fun z => nomatch z⟩) (fun l hl => absurd hl (by rw [e]; simp))
    refine ⟨_, rfl, _, rfl, ifF (by simp) ⟨rfl, _, rfl, ifF (by simp) ?_⟩⟩
    refine cnt H2 kl la st _ false _ rfl x2 fun H5 f5 x5 => ?_
    exact fin H5 kl ok ou la st ups count G kept x5 iv ⟨List.prefix_refl _, fun _ => rfl⟩ (fun n hn => by have := hlt n hn; omega) (((FrD.lam e1).trans (FrD.of e2)).trans f5)
  · obtain ⟨l, e⟩ := Option.ne_none_iff_exists'.mp e
    have hln := x.grp.ln l e
    obtain ⟨dx, ho⟩ := x.grp.o
    obtain ⟨dl, hcl⟩ := (x.grp.cp l hln).o
    obtain ⟨us, hus, hes⟩ := (x.grp.cp l hln).r
    have l1 := paired_len hes
    have o3 : DGet H ow (.str "keeping") (some (.ref ok)) := DGet.k (k := Sum.inr "keeping") x.own.o
    refine ifT (by simp [e]) ⟨_, rfl, ow, _, rfl, o3, ok, _, rfl, .inl (SqL.of x.own.k), _, rfl, _, _, rfl, rfl, ?_⟩
    refine ⟨_, rfl, _, rfl, ?_⟩
    rw [ldV_non]
    have hgl : DGet H dc (ldV st.leader) (some (.ref (ca l))) := by rw [e]; exact x.grp.get hln
    refine ifT (by simp [e]) ⟨_, rfl, g, CR, dx, _, _, rfl, ho, ve.B.cl, ve.B.nC, rfl, _, rfl, dc, _, rfl, hgl, ca l, CC, dl, _, _, rfl, hcl, ve.BC.cl, ve.BC.nR, rfl, la l, _, rfl, .inl (SqL.of hus), ?_⟩
    refine ⟨x.tabs, fun H1 e1 t1 => ?_⟩
    have x1 := x.lam e1 t1
    obtain ⟨dx1, ho1⟩ := x1.grp.o
    refine ⟨_, rfl, g, dx1, _, rfl, ho1, gF_m (by decide +kernel) (by decide +kernel) (by decide +kernel) (by decide +kernel) (by decide +kernel), _, rfl, (by show 2 ≤ sizeLine; decide), fun r hr => ?_⟩
    have e2 : Ex H1 (upd H1 r (.tup [.str "row", .int (stp : Int)])) := Ex.upd hr
    have h2 : (upd H1 r (.tup [.str "row", .int (stp : Int)])) r = some (.tup [.str "row", .int (stp : Int)]) := upd_same
    generalize upd H1 r (.tup [.str "row", .int (stp : Int)]) = H2 at e2 h2
    have x2 := x1.ex e2
    have lk : (st.keep.map V.str).length = st.keep.length := List.length_map _
    refine append_step x2.grp h2 iv.ok.k0 keepLt (fun hb => ⟨true, ve.J.e, fun _ => ?_, fun z => nomatch z⟩) (fun l' hl' hle H3 x3 g3 => ?_)
    · have hb : (st.keep.length : Int) < least := by
        rcases hb with z | z
        · rw [e] at z; cases z
        · exact z
      have hg : decide (least ≤ ((st.keep.map V.str).length : Int)) = false := by rw [lk]; exact decide_eq_false (by omega)
      refine ⟨_, rfl, _, rfl, ifF (by rw [hg]; simp) ⟨rfl, _, rfl, ifF (by simp) ?_⟩⟩
      refine cnt H2 kl la st _ false _ (by show V.bl (decide (least ≤ ((st.keep.map V.str).length : Int))) = _; rw [hg]) x2 fun H5 f5 x5 => ?_
      exact fin H5 kl ok ou la st ups count G kept x5 iv ⟨List.prefix_refl _, fun _ => rfl⟩ (fun n hn => by have := hlt n hn; omega) (((FrD.lam e1).trans (FrD.of e2)).trans f5)
    · obtain rfl : l' = l := by rw [e] at hl'; exact (Option.some.inj hl').symm
      have hg : decide (least ≤ ((st.keep.map V.str).length : Int)) = true := by rw [lk]; exact decide_eq_true (by omega)
      refine ⟨_, rfl, _, rfl, ifT (by rw [hg]) ⟨_, rfl, rfl, _, rfl, ifF (by rw [List.length_map, l1]; simp) ?_⟩⟩
      obtain ⟨G', kept', ok', kp'⟩ := inv_append iv.ok e (stp : Int)
      have x4 := x2.move x3 (.inl rfl) LaN.refl g3
      have f4 := x2.fr x3 LaN.refl
      refine cnt H3 kl la _ _ true _ (by show V.bl (decide (least ≤ ((st.keep.map V.str).length : Int))) = _; rw [hg]) x4 fun H5 f5 x5 => ?_
      refine fin H5 kl ok ou la (firmed { st with lg := Q6.set st.lg l' (st.lg l' ++ [(st.time, (stp : Int))]) }) ups (count + 1) G' kept' ?_ ⟨ok', ?_, iv.un, fun m => ?_, iv.nn⟩ ⟨kp', fun z => by rw [firmed_leader] at z; have z : st.leader = none := z; rw [e] at z; cases z⟩ (fun m hm => ?_) ((((FrD.lam e1).trans (FrD.of e2)).trans f4).trans f5)
      · rw [firmed_leader, firmed_time, firmed_keep]
        exact x5
      · rw [firmed_keep]; exact iv.so
      · rw [firmed_up]; exact iv.um m
      · rw [firmed_lg]
        show (Q6.set st.lg l' (st.lg l' ++ [(st.time, (stp : Int))]) m).length ≤ _
        by_cases z : m = l'
        · rw [z, set_same, List.length_append]
          have := hlt l' hln
          show (st.lg l').length + 1 ≤ _
          omega
        · rw [set_ne z]
          have := hlt m hm
          omega
end
end K6
set_option Elab.async false
set_option linter.all false
set_option maxRecDepth 100000
set_option maxHeartbeats 4000000
namespace K6
open PySem PySem.Spec PyProof.Rows L2 KB KC KD KS LamX R8 Q6
section
variable {P : Program} {w : World} {K : PySem.W.Frag} {mg : Str → Option Value} {base : Heap} {CR CC CE Pd Pl cD fTo fD : Addr} {fdTo : FuncData} {A : Around} {outer : List PySem.Env} {s : Shared} {H0 : Hp} {E0' : XK}
theorem deed_up (ve : DeedE P w K mg base CR CC CE Pd Pl cD fTo fdTo) (hr : Room 11 (xDeed P w K mg base fD cD A outer s H0 E0').A) :
    ∃ t, PSs (xDeed P w K mg base fD cD A outer s H0 E0') (ifBody (deedIf 3)) t ∧ ∀ (D : Ends) (a8 a9 a10 a11 a12 a14 : Option V) (H : Hp) (names : List Str) (least so : Int) (stp : Nat) (n : Str) (d g dc kl ow ok ou na : Addr) (ca la : Str → Addr) (st : Rp Str) (ups : List Str) (count : Nat) (G : Int → Lg) (kept : List Int),
      Ds CR CC Pd Pl names least d g dc kl ow ok ou na ca la st st.leader st.time st.keep ups (count : Int) H → InvD names st G kept ups count → n ∈ names → (∀ n ∈ names, (st.lg n).length ≤ stp) → stp ≤ 90 →
      DeedFin CR CC Pd Pl names least d g dc ow na ca la kept stp H (fun H' => ∀ b8 b9 b10 b11 b12 b14, D.nx [some (.ref d), some (.ref g), some (.ref ow), some (.ref na), some (.int least), some (.int (stp : Int)), some (.int so), some (ldV st.leader), b8, b9, b10, b11, b12, some (.str n), b14] H') →
      t D [some (.ref d), some (.ref g), some (.ref ow), some (.ref na), some (.int least), some (.int (stp : Int)), some (.int so), some (ldV st.leader), a8, a9, a10, a11, a12, some (.str n), a14] H := by
  obtain ⟨f1, fd1, G1, m1, b1⟩ := ve.come
  have hu := hr.units
  have hu1 := Nat.lt_trans (Nat.add_lt_add_left (by decide : 1 < 64) _) hu
  refine ⟨_, pss_cons (ps_set (i := 8) scDeed.nd rfl (Or.inr rfl) (pe_cmpR op_notIn_seq (pv 13) (pe_dget hu1 (pv 2) pe_str (fun _ _ => rfl)) (by rfl)))
    (pss_cons (ps_if (pt_cmpR op_eq (pe_cmpR op_eq (lam_told ve hr (lamS_by (by show lamSB (defScope sDeed) _ = true; decide +kernel)) rfl (fun _ _ _ _ _ => rfl)
        (fun A outer s H E f c' hr' => pe_meth (pv 1) ve.B.cl m1 G1 (hr'.mono (by decide)) b1 .nil (passes_call (takes_of rfl rfl rfl rfl) (fun _ _ _ _ h => h)) (pa_cons (pv 13) pa_nil))) pe_str (nomark _)) (pv 8) (nomark _)) (pss_one (ps_ret pe_bl)) pss_nil)
    (pss_one (ps_dput hu1 (pv 2) pe_str (pe_op op_cat (pe_dget hu1 (pv 2) pe_str (fun _ _ => rfl)) (pe_op op_rep (pe_lst (pa_cons (pv 13) pa_nil)) (pe_callTy call_int1 (by rfl) ve.T.int (by decide +kernel) (pa_cons (pv 8) pa_nil)))) rfl))), ?_⟩
  intro D a8 a9 a10 a11 a12 a14 H names least so stp n d g dc kl ow ok ou na ca la st ups count G kept x iv hn hlt hst fin
  have hsl : sizeLine = 16777216 := rfl
  have n9 := x.grp.n9
  have hn9 := (x.grp.ns n hn).1
  have ul : ups.length ≤ 9 := Nat.le_trans (nodup_len iv.un fun m hm => ((iv.um m).mp hm).1) n9
  have put : ∀ (H4 : Hp) (s4 : Rp Str) (b9 : Option V) (b : Bool) (v8 : V), v8 = .bl b → Ds CR CC Pd Pl names least d g dc kl ow ok ou na ca la s4 st.leader st.time st.keep ups (count : Int) H4 →
      (∀ H5 ou5, FrD d names la la H4 H5 → Ds CR CC Pd Pl names least d g dc kl ow ok ou5 na ca la s4 st.leader st.time st.keep (ups ++ (if b = true then [n] else [])) (count : Int) H5 → ∀ b8 b9 b10 b11 b12 b14, D.nx [some (.ref d), some (.ref g), some (.ref ow), some (.ref na), some (.int least), some (.int (stp : Int)), some (.int so), some (ldV st.leader), b8, b9, b10, b11, b12, some (.str n), b14] H5) →
      sDPut (tVar 2) (tC (.str "up")) (tOp rCat (tDGet (tVar 2) (tC (.str "up"))) (tOp rRep (tLst (tCons (tVar 13) tNil)) (tCB (fun xs H Q => (∃ i, xs = [.int i] ∧ Q (.int i) H) ∨ ∃ k, xs = [.bl k] ∧ Q (.int (if k then 1 else 0)) H) (tCons (tVar 8) tNil)))) D [some (.ref d), some (.ref g), some (.ref ow), some (.ref na), some (.int least), some (.int (stp : Int)), some (.int so), some (ldV st.leader), some v8, b9, a10, a11, a12, some (.str n), a14] H4 := by
    intro H4 s4 b9 b v8 hv x4 k4
    subst hv
    have o5 : DGet H4 ow (.str "up") (some (.ref ou)) := DGet.k (k := Sum.inr "up") x4.own.o
    refine ⟨_, rfl, ow, _, rfl, o5, _, rfl, (by show 1 ≤ sizeLine; decide), fun l1 hl1 => ?_⟩
    have e2 : Ex H4 (upd H4 l1 (.lst [.str n])) := Ex.upd hl1
    have h2 : (upd H4 l1 (.lst [.str n])) l1 = some (.lst [.str n]) := upd_same
    generalize upd H4 l1 (.lst [.str n]) = H5 at e2 h2
    refine ⟨_, rfl, .inr ⟨_, rfl, l1, _, _, rfl, rfl, h2, ?_, ?_, ?_, fun p3 hp3 => ?_⟩⟩
    · cases b <;> decide
    · cases b <;> decide
    · show 1 * _ ≤ _
      cases b <;> decide
    have er : (List.replicate (if b = true then (1 : Int) else 0).toNat [V.str n]).flatten = (if b = true then [n] else []).map V.str := by cases b <;> rfl
    rw [er]
    have e3 : Ex H4 (upd H5 p3 (.lst ((if b = true then [n] else []).map V.str))) := e2.trans (Ex.upd hp3)
    have h3 : (upd H5 p3 (.lst ((if b = true then [n] else []).map V.str))) p3 = some (.lst ((if b = true then [n] else []).map V.str)) := upd_same
    generalize upd H5 p3 (.lst ((if b = true then [n] else []).map V.str)) = H6 at e3 h3
    have x6 := x4.ex e3
    have l1b : ((if b = true then [n] else []) : List Str).length ≤ 1 := by cases b <;> simp
    refine ⟨ou, p3, _, _, rfl, rfl, x6.own.u, h3, by rw [List.length_map, List.length_map]; omega, fun q hq => ?_⟩
    rw [← List.map_append]
    have e7 : Ex H6 (upd H6 q (.lst ((ups ++ (if b = true then [n] else [])).map V.str))) := Ex.upd hq
    have h7 : (upd H6 q (.lst ((ups ++ (if b = true then [n] else [])).map V.str))) q = some (.lst ((ups ++ (if b = true then [n] else [])).map V.str)) := upd_same
    generalize upd H6 q (.lst ((ups ++ (if b = true then [n] else [])).map V.str)) = H7 at e7 h7
    have x7 := x6.ex e7
    refine ⟨_, rfl, ow, _, rfl, DPut.k (k := Sum.inr "up") x7.own.o (by show 5 < sizeLine; decide), ?_⟩
    have ep : putK [((Sum.inr "leader" : Key), ldV st.leader), (Sum.inr "time", .int st.time), (Sum.inr "keeping", .ref ok), (Sum.inr "up", .ref ou), (Sum.inr "count", .int (count : Int))] (Sum.inr "up") (.ref q) = [((Sum.inr "leader" : Key), ldV st.leader), (Sum.inr "time", .int st.time), (Sum.inr "keeping", .ref ok), (Sum.inr "up", .ref q), (Sum.inr "count", .int (count : Int))] := rfl
    rw [ep]
    obtain ⟨da, db, dk, hd⟩ := x6.dice
    exact k4 _ q ((FrD.of (e3.trans e7)).trans (x7.frW _)) (x7.write x7.own.k h7 x7.nd.2.1 (ne_of_none hd hq) (fun m hm => ⟨(x7.nl m hm).1, fun z => by
      obtain ⟨us, hc, _⟩ := (x6.grp.cp m hm).r
      rw [← z, hq] at hc
      cases hc⟩)) _ _ _ _ _ _
  have o4 : DGet H ow (.str "up") (some (.ref ou)) := DGet.k (k := Sum.inr "up") x.own.o
  refine ⟨_, rfl, _, rfl, ow, _, rfl, o4, ou, _, rfl, .inl (SqL.of x.own.u), rfl, flat_strs _, ?_⟩
  refine ⟨x.tabs, fun H1 e1 t1 => ?_⟩
  have x1 := x.lam e1 t1
  obtain ⟨dx, ho⟩ := x1.grp.o
  refine ⟨_, rfl, g, dx, _, rfl, ho, gF_m (by decide +kernel) (by decide +kernel) (by decide +kernel) (by decide +kernel) (by decide +kernel), _, rfl, up_step x1.grp hn9 (fun hb => ⟨true, ve.J.e, fun _ => ?_, fun z => nomatch z⟩) (fun _ hup H3 x3 g3 => ?_)⟩
  · have hm : n ∈ ups := (iv.um n).mpr ⟨hn, hb.resolve_left (fun z => z hn)⟩
    have hv : V.bl (if true = true then !inV (V.str n) (ups.map V.str) else inV (V.str n) (ups.map V.str)) = V.bl false := by simp [inV_strs, hm]
    refine ⟨rfl, _, rfl, rfl, _, rfl, ifF (by rw [hv]; simp) ?_⟩
    refine put H1 st _ false _ hv x1 fun H5 ou5 f5 x5 => ?_
    have eu : ups ++ (if false = true then [n] else []) = ups := by simp
    rw [eu] at x5
    exact fin H5 kl ok ou5 la st ups count G kept x5 iv ⟨List.prefix_refl _, fun _ => rfl⟩ (fun n hn => by have := hlt n hn; omega) ((FrD.lam e1).trans f5)
  · have hm : n ∉ ups := fun z => by rw [((iv.um n).mp z).2] at hup; cases hup
    have hv : V.bl (if true = true then !inV (V.str n) (ups.map V.str) else inV (V.str n) (ups.map V.str)) = V.bl true := by simp [inV_strs, hm]
    have x4 := x1.move x3 (.inl rfl) LaN.refl g3
    have f4 := x1.fr x3 LaN.refl
    refine ⟨rfl, _, rfl, rfl, _, rfl, ifF (by rw [hv]; simp) ?_⟩
    refine put H3 _ _ true _ hv x4 fun H5 ou5 f5 x5 => ?_
    have eu : ups ++ (if true = true then [n] else []) = ups ++ [n] := by simp
    rw [eu] at x5
    refine fin H5 kl ok ou5 la { st with up := Q6.set st.up n true } (ups ++ [n]) count G kept x5 ⟨inv_up iv.ok, iv.so, List.nodup_append.mpr ⟨iv.un, by simp, fun a ha b hb z => hm (by rw [← List.mem_singleton.mp hb, ← z]; exact ha)⟩, fun m => ?_, iv.nn⟩ ⟨List.prefix_refl _, fun _ => rfl⟩ (fun n hn => by have := hlt n hn; show (st.lg n).length ≤ _; omega) (((FrD.lam e1).trans f4).trans f5)
    show m ∈ ups ++ [n] ↔ m ∈ names ∧ Q6.set st.up n true m = true
    rw [List.mem_append, List.mem_singleton, iv.um m]
    by_cases z : m = n
    · rw [z, set_same]; simp [hn]
    · rw [set_ne z]; simp [z]
end
end K6
set_option Elab.async false
set_option linter.all false
set_option maxRecDepth 100000
set_option maxHeartbeats 4000000
namespace K6
open PySem PySem.Spec PyProof.Rows L2 KB KC KD KS LamX R8 Q6
theorem pe_weak {X : Cx} {e : Expr} {t t' : TE} (h : PE X e t) (k : ∀ σ H Q, t' σ H Q → t σ H Q) : PE X e t' := ⟨fun pins s σ H Q I w => h.run pins s σ H Q I (k σ H Q w)⟩
def good5 (s : Rp Str) (n : Str) : Bool := match s.leader with
  | some l => decide (n ∈ s.keep) && (decide (n ≠ l) && decide ((s.lg n).length < (s.lg l).length))
  | none => false
def tGood5 (CR CC Pd Pl : Addr) : TE := fun σ H Q => ∃ (names : List Str) (least so : Int) (stp : Int) (n : Str) (d g dc kl ow ok ou na : Addr) (ca la : Str → Addr) (st : Rp Str) (ups : List Str) (count : Int) (a8 a9 a10 a11 a12 a14 : Option V),
  σ = [some (.ref d), some (.ref g), some (.ref ow), some (.ref na), some (.int least), some (.int stp), some (.int so), some (ldV st.leader), a8, a9, a10, a11, a12, some (.str n), a14] ∧ Ds CR CC Pd Pl names least d g dc kl ow ok ou na ca la st st.leader st.time st.keep ups count H ∧ n ∈ names ∧ Q (.bl (good5 st n)) H
def tKeep5 : TE := fun σ H Q => ∃ (a0 a1 a3 a4 a5 a6 a7 a9 a10 a11 a12 a14 : Option V) (ow ok ou : Addr) (b : Bool) (n : Str) (ld : Option Str) (T : Int) (kp : List Str) (count : Int),
  σ = [a0, a1, some (.ref ow), a3, a4, a5, a6, a7, some (.bl b), a9, a10, a11, a12, some (.str n), a14] ∧ H ow = some (.dK [(Sum.inr "leader", ldV ld), (Sum.inr "time", .int T), (Sum.inr "keeping", .ref ok), (Sum.inr "up", .ref ou), (Sum.inr "count", .int count)]) ∧ H ok = some (.lst (kp.map V.str)) ∧ kp.length ≤ 9 ∧
    ∀ H' q, Ex H H' → H q = none → H' q = some (.lst ((if b = true then without kp n else kp).map V.str)) → Q (.ref q) H'
section
variable {P : Program} {w : World} {K : PySem.W.Frag} {mg : Str → Option Value} {base : Heap} {CR CC CE Pd Pl cD fTo fD : Addr} {fdTo : FuncData} {A : Around} {outer : List PySem.Env} {s : Shared} {H0 : Hp} {E0' : XK}
theorem deed_drop (ve : DeedE P w K mg base CR CC CE Pd Pl cD fTo fdTo) (hr : Room 11 (xDeed P w K mg base fD cD A outer s H0 E0').A) :
    ∃ t, PSs (xDeed P w K mg base fD cD A outer s H0 E0') (ifBody (deedIf 5)) t ∧ ∀ (D : Ends) (a8 a9 a10 a11 a12 a14 : Option V) (H : Hp) (names : List Str) (least so : Int) (stp : Nat) (n : Str) (d g dc kl ow ok ou na : Addr) (ca la : Str → Addr) (st : Rp Str) (ups : List Str) (count : Nat) (G : Int → Lg) (kept : List Int),
      Ds CR CC Pd Pl names least d g dc kl ow ok ou na ca la st st.leader st.time st.keep ups (count : Int) H → InvD names st G kept ups count → n ∈ names → (∀ n ∈ names, (st.lg n).length ≤ stp) → stp ≤ 90 →
      DeedFin CR CC Pd Pl names least d g dc ow na ca la kept stp H (fun H' => ∀ b8 b9 b10 b11 b12 b14, D.nx [some (.ref d), some (.ref g), some (.ref ow), some (.ref na), some (.int least), some (.int (stp : Int)), some (.int so), some (ldV st.leader), b8, b9, b10, b11, b12, some (.str n), b14] H') →
      t D [some (.ref d), some (.ref g), some (.ref ow), some (.ref na), some (.int least), some (.int (stp : Int)), some (.int so), some (ldV st.leader), a8, a9, a10, a11, a12, some (.str n), a14] H := by
  obtain ⟨f1, fd1, G1, m1, b1⟩ := ve.drop
  have hu := hr.units
  have hu1 := Nat.lt_trans (Nat.add_lt_add_left (by decide : 1 < 64) _) hu
  refine ⟨_, pss_cons (ps_set (i := 8) scDeed.nd rfl (Or.inr rfl) (pe_weak (t' := tGood5 CR CC Pd Pl) (pe_and (pe_cmp (pc_notN (pv 7))) (pe_and (pe_cmpR op_in_seq (pv 13) (pe_dget hu1 (pv 2) pe_str (fun _ _ => rfl)) (by rfl)) (pe_and (pe_cmpR op_ne (pv 13) (pv 7) (nomark _)) (pe_one (pe_cmpR op_lt
        (pe_callB call_len_seq (by rfl) ve.T.len PySem.boot_len (pa_cons (pe_fld (pe_dget hu1 (pf 1) (pv 13) (fun _ _ => rfl)) (by rfl)) pa_nil)) (pe_callB call_len_seq (by rfl) ve.T.len PySem.boot_len (pa_cons (pe_fld (pe_dget hu1 (pf 1) (pv 7) (fun _ _ => rfl)) (by rfl)) pa_nil)) (nomark _)))))) ?_))
    (pss_cons (ps_if (pt_cmpR op_eq (pe_cmpR op_eq (lam_told ve hr (lamS_by (by show lamSB (defScope sDeed) _ = true; decide +kernel)) rfl (fun _ _ _ _ _ => rfl)
        (fun A outer s H E f c' hr' => pe_meth (pv 1) ve.B.cl m1 G1 (hr'.mono (by decide)) b1 .nil (passes_call (takes_of rfl rfl rfl rfl) (fun _ _ _ _ h => h)) (pa_cons (pv 13) pa_nil))) pe_str (nomark _)) (pv 8) (nomark _)) (pss_one (ps_ret pe_bl)) pss_nil)
    (pss_one (ps_dput hu1 (pv 2) pe_str (pe_weak (t' := tKeep5) (pe_lc (own := [("one", 14)]) (g := gName 14) (tt := tOr (tTest (tOp rNe (tVar 14) (tVar 13))) (tNot (tTruth K (tVar 8)))) (te := tVar 14) rfl scDeed.nd (pi_list (pe_dget hu1 (pv 2) pe_str (fun _ _ => rfl))) (blkOk_by (N := nDeed) (sc := defScope sDeed) (by decide +kernel))
        (fun _ _ _ _ _ => pg_name (i := 14) scDeed.nd rfl (Or.inl rfl)) (fun _ _ _ _ _ => pts_one (PW.pt (pw_or (pt_cmpR op_ne (pv 14) (pv 13) (nomark _)) (pw_or1 (pt_not (pt_truth (pv 8) (fun _ => rfl))))))) (fun _ _ _ _ _ => pv 14)) ?_) rfl))), ?_⟩
  rotate_left
  · rintro σ H Q ⟨a0, a1, a3, a4, a5, a6, a7, a9, a10, a11, a12, a14, ow, ok, ou, b, n, ld, T, kp, count, rfl, how, hok, hk9, q⟩
    have o3 : DGet H ow (.str "keeping") (some (.ref ok)) := DGet.k (k := Sum.inr "keeping") how
    refine ⟨_, rfl, ow, _, rfl, o3, ok, rfl, ⟨_, SqL.of hok⟩, fun D1 hD1 => ?_⟩
    refine lcG walk_list RStr (fun j => kp[j]?.bind fun x => if (decide (x ≠ n) || !b) = true then some x else none) RStr.stab hD1 (by rw [List.length_map]; omega) (fun H5 e5 => SqL.of (e5 _ _ hok)) (fun i H5 x H6 _ _ h => yat_ex h) (fun j v H5 H6 R0 N0 hj e5 hy hno hsm => ?_) (fun H5 xs e5 hx5 hps => ?_)
    · obtain ⟨rfl, hxi⟩ := hy
      rw [List.getElem?_map] at hxi
      obtain ⟨m, hm, rfl⟩ := Option.map_eq_some_iff.mp hxi
      refine ⟨rfl, _, rfl, _, rfl, rfl, _, rfl, ?_⟩
      by_cases c : m = n
      · refine ifF (by simp [c]) ⟨_, rfl, _, rfl, ?_⟩
        cases b with
        | true => exact ifF (by simp) (hno (by rw [hm]; simp [c]) _ (Ex.refl _))
        | false => exact ifT rfl ⟨_, rfl, hsm m (by rw [hm]; simp) _ _ (Ex.refl _) rfl⟩
      · exact ifT (by simp [c]) (ifT rfl ⟨_, rfl, hsm m (by rw [hm]; simp [c]) _ _ (Ex.refl _) rfl⟩)
    · rw [List.length_map, range_fm, filt_fm] at hps
      rw [rstr_map hps] at hx5
      refine q _ D1 e5 hD1 ?_
      rw [hx5]
      cases b with
      | true => simp [without]
      | false =>
        have : (kp.filter fun x => decide (x ≠ n) || !false) = kp := List.filter_eq_self.mpr fun x _ => by simp
        rw [this, if_neg (by simp)]
  rotate_right
  · rintro σ H Q ⟨names, least, so, stp, n, d, g, dc, kl, ow, ok, ou, na, ca, la, st, ups, count, a8, a9, a10, a11, a12, a14, rfl, x, hn, q⟩
    refine ⟨_, rfl, _, rfl, ?_⟩
    rw [ldV_non]
    by_cases e : st.leader = none
    · have : good5 st n = false := by unfold good5; rw [e]
      rw [this] at q
      exact ifF (by simp [e]) q
    · obtain ⟨l, e⟩ := Option.ne_none_iff_exists'.mp e
      have hln := x.grp.ln l e
      have gv : good5 st n = (decide (n ∈ st.keep) && (decide (n ≠ l) && decide ((st.lg n).length < (st.lg l).length))) := by unfold good5; rw [e]
      have o3 : DGet H ow (.str "keeping") (some (.ref ok)) := DGet.k (k := Sum.inr "keeping") x.own.o
      refine ifT (by simp [e]) ⟨_, rfl, _, rfl, ow, _, rfl, o3, ok, _, rfl, .inl (SqL.of x.own.k), rfl, flat_strs _, _, rfl, ?_⟩
      by_cases c1 : n ∈ st.keep
      · refine ifT (by simp [inV_strs, c1]) ⟨_, rfl, _, rfl, by rw [e]; rfl, _, rfl, ?_⟩
        rw [e]
        by_cases c2 : n = l
        · have : good5 st n = false := by rw [gv]; simp [c2]
          rw [this] at q
          exact ifF (by simp [ldV, c2]) q
        · obtain ⟨dx, ho⟩ := x.grp.o
          obtain ⟨dl, hcl⟩ := (x.grp.cp l hln).o
          obtain ⟨us, hus, hes⟩ := (x.grp.cp l hln).r
          obtain ⟨dn, hcn⟩ := (x.grp.cp n hn).o
          obtain ⟨vs, hvs, hfs⟩ := (x.grp.cp n hn).r
          have l1 := paired_len hes
          have l2 := paired_len hfs
          have hgl : DGet H dc (V.str l) (some (.ref (ca l))) := x.grp.get hln
          refine ifT (by simp [ldV, c2]) ⟨_, rfl, g, CR, dx, _, _, rfl, ho, ve.B.cl, ve.B.nC, rfl, _, rfl, dc, _, rfl, x.grp.get hn, ca n, CC, dn, _, _, rfl, hcn, ve.BC.cl, ve.BC.nR, rfl, la n, _, rfl, .inl (SqL.of hvs), _, rfl, g, CR, dx, _, _, rfl, ho, ve.B.cl, ve.B.nC, rfl, _, rfl, dc, _, rfl, hgl, ca l, CC, dl, _, _, rfl, hcl, ve.BC.cl, ve.BC.nR, rfl, la l, _, rfl, .inl (SqL.of hus), _, _, rfl, rfl, ?_⟩
          have : good5 st n = decide (((vs.map V.ref).length : Int) < ((us.map V.ref).length : Int)) := by
            rw [gv, List.length_map, List.length_map, l1, l2]
            simp [c1, c2]
          rw [this] at q
          exact q
      · have : good5 st n = false := by rw [gv]; simp [c1]
        rw [this] at q
        exact ifF (by simp [inV_strs, c1]) q
  intro D a8 a9 a10 a11 a12 a14 H names least so stp n d g dc kl ow ok ou na ca la st ups count G kept x iv hn hlt hst fin
  have hn9 := (x.grp.ns n hn).1
  have hk9 := x.grp.k9
  have put : ∀ (H4 : Hp) (kl4 : Addr) (s4 : Rp Str) (b9 : Option V) (b : Bool) (v8 : V), v8 = .bl b → Ds CR CC Pd Pl names least d g dc kl4 ow ok ou na ca la s4 st.leader st.time st.keep ups (count : Int) H4 →
      (∀ H5 ok5, FrD d names la la H4 H5 → Ds CR CC Pd Pl names least d g dc kl4 ow ok5 ou na ca la s4 st.leader st.time (if b = true then without st.keep n else st.keep) ups (count : Int) H5 → ∀ b8 b9 b10 b11 b12 b14, D.nx [some (.ref d), some (.ref g), some (.ref ow), some (.ref na), some (.int least), some (.int (stp : Int)), some (.int so), some (ldV st.leader), b8, b9, b10, b11, b12, some (.str n), b14] H5) →
      sDPut (tVar 2) (tC (.str "keeping")) tKeep5 D [some (.ref d), some (.ref g), some (.ref ow), some (.ref na), some (.int least), some (.int (stp : Int)), some (.int so), some (ldV st.leader), some v8, b9, a10, a11, a12, some (.str n), a14] H4 := by
    intro H4 kl4 s4 b9 b v8 hv x4 k4
    subst hv
    refine ⟨_, _, _, _, _, _, _, _, _, _, _, _, ow, ok, ou, b, n, _, _, _, _, rfl, x4.own.o, x4.own.k, hk9, fun H5 q e5 hq h5 => ?_⟩
    have x5 := x4.ex e5
    refine ⟨_, rfl, ow, _, rfl, DPut.k (k := Sum.inr "keeping") x5.own.o (by show 5 < sizeLine; decide), ?_⟩
    have ep : putK [((Sum.inr "leader" : Key), ldV st.leader), (Sum.inr "time", .int st.time), (Sum.inr "keeping", .ref ok), (Sum.inr "up", .ref ou), (Sum.inr "count", .int (count : Int))] (Sum.inr "keeping") (.ref q) = [((Sum.inr "leader" : Key), ldV st.leader), (Sum.inr "time", .int st.time), (Sum.inr "keeping", .ref q), (Sum.inr "up", .ref ou), (Sum.inr "count", .int (count : Int))] := rfl
    rw [ep]
    obtain ⟨da, db, dk, hd⟩ := x4.dice
    exact k4 _ q ((FrD.of e5).trans (x5.frW _)) (x5.write h5 x5.own.u (ne_of_none hd hq) x5.nd.2.2.1 (fun m hm => ⟨(fun z => by
      obtain ⟨us, hc, _⟩ := (x4.grp.cp m hm).r
      rw [← z, hq] at hc
      cases hc), (x5.nl m hm).2.1⟩)) _ _ _ _ _ _
  refine ⟨names, least, so, _, n, d, g, dc, kl, ow, ok, ou, na, ca, la, st, ups, _, _, _, _, _, _, _, rfl, x, hn, ?_⟩
  refine ⟨x.tabs, fun H1 e1 t1 => ?_⟩
  have x1 := x.lam e1 t1
  obtain ⟨dx, ho⟩ := x1.grp.o
  refine ⟨_, rfl, g, dx, _, rfl, ho, gF_m (by decide +kernel) (by decide +kernel) (by decide +kernel) (by decide +kernel) (by decide +kernel), _, rfl, drop_step x1.grp hn9 (fun l hl => (iv.ok.ld l hl).1) (fun hb => ⟨true, ve.J.e, fun _ => ?_, fun z => nomatch z⟩) (fun l hl hnk hne hlen H3 kl3 hk3 x3 g3 => ?_)⟩
  · have hv : good5 st n = false := by
      unfold good5
      cases e : st.leader with
      | none => rfl
      | some l =>
        rw [e] at hb
        rcases hb with z | z | z | z
        · cases z
        · simp [z]
        · have : l = n := Option.some.inj z
          simp [this]
        · have := z l rfl
          simp [this]
    refine ⟨rfl, _, rfl, rfl, _, rfl, ifF (by rw [hv]; simp) ?_⟩
    refine put H1 kl st _ false _ (by rw [hv]) x1 fun H5 ok5 f5 x5 => ?_
    rw [if_neg (by simp)] at x5
    exact fin H5 kl ok5 ou la st ups count G kept x5 iv ⟨List.prefix_refl _, fun _ => rfl⟩ (fun n hn => by have := hlt n hn; omega) ((FrD.lam e1).trans f5)
  · have hv : good5 st n = true := by
      unfold good5
      rw [hl]
      have h1 := (iv.ok.kp n hnk).length_le
      have h2 := (iv.ok.ld l hl).2.2.1
      rw [← h2] at h1
      simp only [hnk, decide_true, Bool.true_and, Bool.and_eq_true, decide_eq_true_eq]
      exact ⟨hne, by omega⟩
    have x4 := x1.move x3 hk3 LaN.refl g3
    have f4 := x1.fr x3 LaN.refl
    refine ⟨rfl, _, rfl, rfl, _, rfl, ifF (by rw [hv]; simp) ?_⟩
    refine put H3 kl3 _ _ true _ (by rw [hv]) x4 fun H5 ok5 f5 x5 => ?_
    rw [if_pos rfl] at x5
    obtain ⟨kept', ok', kp', _⟩ := inv_drop iv.ok hl hne
    refine fin H5 kl3 ok5 ou la (dropS st n) ups count G kept' ?_ ⟨ok', ?_, iv.un, fun m => ?_, iv.nn⟩ ⟨kp', fun z => by unfold dropS at z; rw [firmed_leader] at z; have z : st.leader = none := z; rw [hl] at z; cases z⟩ (fun m hm => ?_) (((FrD.lam e1).trans f4).trans f5)
    · have a1 : (dropS st n).leader = st.leader := by unfold dropS; rw [firmed_leader]
      have a2 : (dropS st n).time = st.time := by unfold dropS; rw [firmed_time]
      have a3 : (dropS st n).keep = without st.keep n := by unfold dropS; rw [firmed_keep]
      rw [a1, a2, a3]
      exact x5
    · unfold dropS
      rw [firmed_keep]
      exact without_sorted iv.so _
    · unfold dropS
      rw [firmed_up]
      exact iv.um m
    · unfold dropS
      rw [firmed_lg]
      have := hlt m hm
      show (st.lg m).length ≤ _
      omega
end
end K6
set_option Elab.async false
set_option linter.all false
set_option maxRecDepth 100000
set_option maxHeartbeats 4000000
namespace K6
open PySem PySem.Spec PyProof.Rows L2 KB KC KD KS LamX R8 Q6
def tWo (k : Str) : TE := fun σ H Q => ∃ (a0 a1 a3 a4 a5 a6 a7 a8 a9 a10 a11 a12 a14 : Option V) (ow l : Addr) (n : Str) (kp : List Str),
  σ = [a0, a1, some (.ref ow), a3, a4, a5, a6, a7, a8, a9, a10, a11, a12, some (.str n), a14] ∧ DGet H ow (.str k) (some (.ref l)) ∧ H l = some (.lst (kp.map V.str)) ∧ kp.length ≤ 9 ∧
    ∀ H' q, Ex H H' → H q = none → H' q = some (.lst ((without kp n).map V.str)) → Q (.ref q) H'
theorem down_keep {l : List Str} {n : Str} (h0 : l ≠ []) : (if l = [n] then l else without l n) = if 1 < l.length then without l n else l := by
  cases l with
  | nil => exact absurd rfl h0
  | cons a r =>
    cases r with
    | nil =>
      by_cases e : a = n
      · subst e; simp
      · simp [e, without]
    | cons b r =>
      have h1 : ¬ (a :: b :: r = [n]) := fun z => by cases z
      have h2 : 1 < (a :: b :: r).length := by simp
      rw [if_neg h1, if_pos h2]
section
variable {P : Program} {w : World} {K : PySem.W.Frag} {mg : Str → Option Value} {base : Heap} {CR CC CE Pd Pl cD fTo fD : Addr} {fdTo : FuncData} {A : Around} {outer : List PySem.Env} {s : Shared} {H0 : Hp} {E0' : XK}
theorem deed_down (ve : DeedE P w K mg base CR CC CE Pd Pl cD fTo fdTo) (hr : Room 11 (xDeed P w K mg base fD cD A outer s H0 E0').A) :
    ∃ t, PSs (xDeed P w K mg base fD cD A outer s H0 E0') (ifBody (deedIf 2)) t ∧ ∀ (D : Ends) (a8 a9 a10 a11 a12 a14 : Option V) (H : Hp) (names : List Str) (least so : Int) (stp : Nat) (n : Str) (d g dc kl ow ok ou na : Addr) (ca la : Str → Addr) (st : Rp Str) (ups : List Str) (count : Nat) (G : Int → Lg) (kept : List Int),
      Ds CR CC Pd Pl names least d g dc kl ow ok ou na ca la st st.leader st.time st.keep ups (count : Int) H → InvD names st G kept ups count → n ∈ names → (∀ n ∈ names, (st.lg n).length ≤ stp) → stp ≤ 90 →
      DeedFin CR CC Pd Pl names least d g dc ow na ca la kept stp H (fun H' => ∀ b8 b9 b10 b11 b12 b14, D.nx [some (.ref d), some (.ref g), some (.ref ow), some (.ref na), some (.int least), some (.int (stp : Int)), some (.int so), some (ldV st.leader), b8, b9, b10, b11, b12, some (.str n), b14] H') →
      t D [some (.ref d), some (.ref g), some (.ref ow), some (.ref na), some (.int least), some (.int (stp : Int)), some (.int so), some (ldV st.leader), a8, a9, a10, a11, a12, some (.str n), a14] H := by
  obtain ⟨f1, fd1, G1, m1, b1⟩ := ve.down
  have hu := hr.units
  have hu1 := Nat.lt_trans (Nat.add_lt_add_left (by decide : 1 < 64) _) hu
  have wo : ∀ (k : Str) (σ : L2.St) (H : Hp) (Q : VK), tWo k σ H Q → tLc (iList K (tDGet (tVar 2) (tC (.str k)))) (gName 14) (tTest (tOp rNe (tVar 14) (tVar 13))) (tVar 14) [14] σ H Q := by
    rintro k σ H Q ⟨a0, a1, a3, a4, a5, a6, a7, a8, a9, a10, a11, a12, a14, ow, l, n, kp, rfl, o3, hok, hk9, q⟩
    refine ⟨_, rfl, ow, _, rfl, o3, l, rfl, ⟨_, SqL.of hok⟩, fun D1 hD1 => ?_⟩
    refine lcG walk_list RStr (fun j => kp[j]?.bind fun x => if decide (x ≠ n) = true then some x else none) RStr.stab hD1 (by rw [List.length_map]; omega) (fun H5 e5 => SqL.of (e5 _ _ hok)) (fun i H5 x H6 _ _ h => yat_ex h) (fun j v H5 H6 R0 N0 hj e5 hy hno hsm => ?_) (fun H5 xs e5 hx5 hps => ?_)
    · obtain ⟨rfl, hxi⟩ := hy
      rw [List.getElem?_map] at hxi
      obtain ⟨m, hm, rfl⟩ := Option.map_eq_some_iff.mp hxi
      refine ⟨rfl, _, rfl, _, rfl, rfl, _, rfl, ?_⟩
      by_cases c : m = n
      · exact ifF (by simp [c]) (hno (by rw [hm]; simp [c]) _ (Ex.refl _))
      · exact ifT (by simp [c]) ⟨_, rfl, hsm m (by rw [hm]; simp [c]) _ _ (Ex.refl _) rfl⟩
    · rw [List.length_map, range_fm, filt_fm] at hps
      rw [rstr_map hps] at hx5
      exact q _ D1 e5 hD1 hx5
  refine ⟨_, pss_cons (ps_set (i := 8) scDeed.nd rfl (Or.inr rfl) (pe_cmpR op_in_seq (pv 13) (pe_dget hu1 (pv 2) pe_str (fun _ _ => rfl)) (by rfl)))
    (pss_cons (ps_if (pt_cmpR op_eq (pe_cmpR op_eq (lam_told ve hr (lamS_by (by show lamSB (defScope sDeed) _ = true; decide +kernel)) rfl (fun _ _ _ _ _ => rfl)
        (fun A outer s H E f c' hr' => pe_meth (pv 1) ve.B.cl m1 G1 (hr'.mono (by decide)) b1 .nil (passes_call (takes_of rfl rfl rfl rfl) (fun _ _ _ _ h => h)) (pa_cons (pv 13) pa_nil))) pe_str (nomark _)) (pv 8) (nomark _)) (pss_one (ps_ret pe_bl)) pss_nil)
    (pss_one (ps_if (pt_truth (pv 8) (fun _ => rfl))
      (pss_cons (ps_dput hu1 (pv 2) pe_str (pe_weak (t' := tWo "up") (pe_lc (own := [("one", 14)]) (g := gName 14) (tt := tTest (tOp rNe (tVar 14) (tVar 13))) (te := tVar 14) rfl scDeed.nd (pi_list (pe_dget hu1 (pv 2) pe_str (fun _ _ => rfl))) (blkOk_by (N := nDeed) (sc := defScope sDeed) (by decide +kernel))
        (fun _ _ _ _ _ => pg_name (i := 14) scDeed.nd rfl (Or.inl rfl)) (fun _ _ _ _ _ => pts_one (pt_cmpR op_ne (pv 14) (pv 13) (nomark _))) (fun _ _ _ _ _ => pv 14)) (wo "up")) rfl)
      (pss_cons (ps_dput hu1 (pv 2) pe_str (pe_ifExp (pt_cmpR op_gt (pe_callB call_len_seq (by rfl) ve.T.len PySem.boot_len (pa_cons (pe_dget hu1 (pv 2) pe_str (fun _ _ => rfl)) pa_nil)) pe_int (nomark _))
        (pe_weak (t' := tWo "keeping") (pe_lc (own := [("one", 14)]) (g := gName 14) (tt := tTest (tOp rNe (tVar 14) (tVar 13))) (te := tVar 14) rfl scDeed.nd (pi_list (pe_dget hu1 (pv 2) pe_str (fun _ _ => rfl))) (blkOk_by (N := nDeed) (sc := defScope sDeed) (by decide +kernel))
        (fun _ _ _ _ _ => pg_name (i := 14) scDeed.nd rfl (Or.inl rfl)) (fun _ _ _ _ _ => pts_one (pt_cmpR op_ne (pv 14) (pv 13) (nomark _))) (fun _ _ _ _ _ => pv 14)) (wo "keeping")) (pe_dget hu1 (pv 2) pe_str (fun _ _ => rfl))) rfl)
      (pss_one (ps_dput hu1 (pv 2) pe_str (pe_ifExp (pt_cmpR op_eq (pv 7) (pv 13) (nomark _)) pe_non (pv 7)) rfl)))) pss_nil))), ?_⟩
  intro D a8 a9 a10 a11 a12 a14 H names least so stp n d g dc kl ow ok ou na ca la st ups count G kept x iv hn hlt hst fin
  have n9 := x.grp.n9
  have hn9 := (x.grp.ns n hn).1
  have hk9 := x.grp.k9
  have ul : ups.length ≤ 9 := Nat.le_trans (nodup_len iv.un fun m hm => ((iv.um m).mp hm).1) n9
  have o4 : DGet H ow (.str "up") (some (.ref ou)) := DGet.k (k := Sum.inr "up") x.own.o
  refine ⟨_, rfl, _, rfl, ow, _, rfl, o4, ou, _, rfl, .inl (SqL.of x.own.u), rfl, flat_strs _, ?_⟩
  refine ⟨x.tabs, fun H1 e1 t1 => ?_⟩
  have x1 := x.lam e1 t1
  obtain ⟨dx, ho⟩ := x1.grp.o
  refine ⟨_, rfl, g, dx, _, rfl, ho, gF_m (by decide +kernel) (by decide +kernel) (by decide +kernel) (by decide +kernel) (by decide +kernel), _, rfl, down_step x1.grp hn9 iv.ok.k0 iv.ok.kd (fun hb => ⟨true, ve.J.e, fun _ => ?_, fun z => nomatch z⟩) (fun _ hup H3 kl3 hk3 x3 g3 => ?_)⟩
  · have hm : n ∉ ups := fun z => by
      have := (iv.um n).mp z
      rcases hb with h | h
      · exact h hn
      · rw [this.2] at h; cases h
    have hv : V.bl (if false = true then !inV (V.str n) (ups.map V.str) else inV (V.str n) (ups.map V.str)) = V.bl false := by simp [inV_strs, hm]
    refine ⟨rfl, _, rfl, rfl, _, rfl, ifF (by rw [hv]; simp) ?_⟩
    refine ⟨_, rfl, _, rfl, ifF (by simp [inV_strs, hm]) ?_⟩
    exact fin H1 kl ok ou la st ups count G kept x1 iv ⟨List.prefix_refl _, fun _ => rfl⟩ (fun n hn => by have := hlt n hn; omega) (FrD.lam e1) _ _ _ _ _ _
  · have hm : n ∈ ups := (iv.um n).mpr ⟨hn, hup⟩
    have hv : V.bl (if false = true then !inV (V.str n) (ups.map V.str) else inV (V.str n) (ups.map V.str)) = V.bl true := by simp [inV_strs, hm]
    have x4 := x1.move x3 hk3 LaN.refl g3
    have f4 := x1.fr x3 LaN.refl
    refine ⟨rfl, _, rfl, rfl, _, rfl, ifF (by rw [hv]; simp) ?_⟩
    refine ⟨_, rfl, _, rfl, ifT (by simp [inV_strs, hm]) ?_⟩
    have o5 : DGet H3 ow (.str "up") (some (.ref ou)) := DGet.k (k := Sum.inr "up") x4.own.o
    refine ⟨_, _, _, _, _, _, _, _, _, _, _, _, _, ow, ou, n, ups, rfl, o5, x4.own.u, ul, fun H5 q e5 hq h5 => ?_⟩
    have x5 := x4.ex e5
    refine ⟨_, rfl, ow, _, rfl, DPut.k (k := Sum.inr "up") x5.own.o (by show 5 < sizeLine; decide), ?_⟩
    have ep : putK [((Sum.inr "leader" : Key), ldV st.leader), (Sum.inr "time", .int st.time), (Sum.inr "keeping", .ref ok), (Sum.inr "up", .ref ou), (Sum.inr "count", .int (count : Int))] (Sum.inr "up") (.ref q) = [((Sum.inr "leader" : Key), ldV st.leader), (Sum.inr "time", .int st.time), (Sum.inr "keeping", .ref ok), (Sum.inr "up", .ref q), (Sum.inr "count", .int (count : Int))] := rfl
    rw [ep]
    obtain ⟨da, db, dk, hd⟩ := x4.dice
    have nlq : ∀ m ∈ names, q ≠ la m := fun m hm z => by
      obtain ⟨us, hc, _⟩ := (x4.grp.cp m hm).r
      rw [← z, hq] at hc
      cases hc
    have x6 := x5.write (ld' := st.leader) (T' := st.time) (kp' := st.keep) (ups' := without ups n) (count' := (count : Int)) x5.own.k h5 x5.nd.2.1 (ne_of_none hd hq) (fun m hm => ⟨(x5.nl m hm).1, nlq m hm⟩)
    have f6 := x5.frW [((Sum.inr "leader" : Key), ldV st.leader), (Sum.inr "time", .int st.time), (Sum.inr "keeping", .ref ok), (Sum.inr "up", .ref q), (Sum.inr "count", .int (count : Int))]
    generalize upd H5 ow (.dK [((Sum.inr "leader" : Key), ldV st.leader), (Sum.inr "time", .int st.time), (Sum.inr "keeping", .ref ok), (Sum.inr "up", .ref q), (Sum.inr "count", .int (count : Int))]) = H6 at x6 f6
    have lead3 : ∀ (H7 : Hp) (ok7 : Addr) (b8 : Option V), Ds CR CC Pd Pl names least d g dc kl3 ow ok7 q na ca la (downS st n) st.leader st.time (if 1 < st.keep.length then without st.keep n else st.keep) (without ups n) (count : Int) H7 → FrD d names la la H6 H7 →
        sDPut (tVar 2) (tC (.str "leader")) (tIf (tTest (tOp rEq (tVar 7) (tVar 13))) (tC .non) (tVar 7)) D [some (.ref d), some (.ref g), some (.ref ow), some (.ref na), some (.int least), some (.int (stp : Int)), some (.int so), some (ldV st.leader), b8, a9, a10, a11, a12, some (.str n), a14] H7 := by
      intro H7 ok7 b8 x7 f7
      have hf : ∀ H8, FrD d names la la H7 H8 → Ds CR CC Pd Pl names least d g dc kl3 ow ok7 q na ca la (downS st n) (if st.leader = some n then none else st.leader) st.time (if 1 < st.keep.length then without st.keep n else st.keep) (without ups n) (count : Int) H8 → D.nx [some (.ref d), some (.ref g), some (.ref ow), some (.ref na), some (.int least), some (.int (stp : Int)), some (.int so), some (ldV st.leader), b8, a9, a10, a11, a12, some (.str n), a14] H8 := by
        intro H8 f8 x8
        obtain ⟨kept', ok', kp', kn'⟩ := inv_down (n := n) iv.ok
        have d1 : (downS st n).leader = if st.leader = some n then none else st.leader := by unfold downS; rw [firmed_leader]
        have d2 : (downS st n).time = st.time := by unfold downS; rw [firmed_time]
        have d3 : (downS st n).keep = if 1 < st.keep.length then without st.keep n else st.keep := by unfold downS; rw [firmed_keep, ← down_keep iv.ok.k0]
        have d4 : (downS st n).up = Q6.set st.up n false := by unfold downS; rw [firmed_up]
        refine fin H8 kl3 ok7 q la (downS st n) (without ups n) count G kept' ?_ ⟨ok', ?_, List.Pairwise.filter _ iv.un, fun m => ?_, iv.nn⟩ ⟨kp', fun z => kn' (by rw [d1] at z; exact z)⟩ (fun m hm => ?_) ((((((FrD.lam e1).trans f4).trans (FrD.of e5)).trans f6).trans f7).trans f8) _ _ _ _ _ _
        · rw [d1, d2, d3]; exact x8
        · rw [d3]
          split
          · exact without_sorted iv.so _
          · exact iv.so
        · rw [d4]
          show m ∈ ups.filter (fun x => decide (x ≠ n)) ↔ _
          rw [List.mem_filter, iv.um m]
          by_cases z : m = n
          · rw [z, set_same]; simp
          · rw [set_ne z]; simp [z]
        · unfold downS
          rw [firmed_lg]
          have := hlt m hm
          show (st.lg m).length ≤ _
          omega
      have ls : scal (ldV st.leader) (.str n) = true := by cases st.leader <;> rfl
      refine ⟨_, rfl, _, rfl, ls, _, rfl, ?_⟩
      by_cases c : st.leader = some n
      · refine ifT (by rw [ldV_str]; simp [c]) ⟨_, rfl, ow, _, rfl, DPut.k (k := Sum.inr "leader") x7.own.o (by show 5 < sizeLine; decide), ?_⟩
        refine hf _ (x7.frW _) ?_
        rw [if_pos c]
        exact x7.write (ld' := none) (T' := st.time) (kp' := (if 1 < st.keep.length then without st.keep n else st.keep)) (ups' := without ups n) (count' := (count : Int)) x7.own.k x7.own.u x7.nd.2.1 x7.nd.2.2.1 (fun m hm => ⟨(x7.nl m hm).1, (x7.nl m hm).2.1⟩)
      · refine ifF (by rw [ldV_str]; simp [c]) ⟨_, rfl, _, rfl, ow, _, rfl, DPut.k (k := Sum.inr "leader") x7.own.o (by show 5 < sizeLine; decide), ?_⟩
        refine hf _ (x7.frW _) ?_
        rw [if_neg c]
        exact x7.write (ld' := st.leader) (T' := st.time) (kp' := (if 1 < st.keep.length then without st.keep n else st.keep)) (ups' := without ups n) (count' := (count : Int)) x7.own.k x7.own.u x7.nd.2.1 x7.nd.2.2.1 (fun m hm => ⟨(x7.nl m hm).1, (x7.nl m hm).2.1⟩)
    have o6 : DGet H6 ow (.str "keeping") (some (.ref ok)) := DGet.k (k := Sum.inr "keeping") x6.own.o
    refine ⟨_, rfl, ow, _, rfl, o6, ok, _, rfl, .inl (SqL.of x6.own.k), _, _, rfl, rfl, _, rfl, ?_⟩
    by_cases c : 1 < st.keep.length
    · refine ifT (by simp; omega) ⟨_, _, _, _, _, _, _, _, _, _, _, _, _, ow, ok, n, st.keep, rfl, o6, x6.own.k, hk9, fun H7 q7 e7 hq7 h7 => ?_⟩
      have x7 := x6.ex e7
      refine ⟨_, rfl, ow, _, rfl, DPut.k (k := Sum.inr "keeping") x7.own.o (by show 5 < sizeLine; decide), ?_⟩
      obtain ⟨da, db, dk, hd⟩ := x6.dice
      refine lead3 _ q7 _ ?_ ((FrD.of e7).trans (x7.frW _))
      rw [if_pos c]
      exact x7.write (ld' := st.leader) (T' := st.time) (kp' := without st.keep n) (ups' := without ups n) (count' := (count : Int)) h7 x7.own.u (ne_of_none hd hq7) x7.nd.2.2.1 (fun m hm => ⟨(fun z => by
        obtain ⟨us, hc, _⟩ := (x6.grp.cp m hm).r
        rw [← z, hq7] at hc
        cases hc), (x7.nl m hm).2.1⟩)
    · refine ifF (by simp; omega) ⟨_, rfl, ow, _, rfl, o6, _, rfl, ow, _, rfl, DPut.k (k := Sum.inr "keeping") x6.own.o (by show 5 < sizeLine; decide), ?_⟩
      refine lead3 _ ok _ ?_ (x6.frW _)
      rw [if_neg c]
      exact x6.write (ld' := st.leader) (T' := st.time) (kp' := st.keep) (ups' := without ups n) (count' := (count : Int)) x6.own.k x6.own.u x6.nd.2.1 x6.nd.2.2.1 (fun m hm => ⟨(x6.nl m hm).1, (x6.nl m hm).2.1⟩)
end
end K6
set_option Elab.async false
set_option linter.all false
set_option maxRecDepth 100000
set_option maxHeartbeats 4000000
namespace K6
open PySem PySem.Spec PyProof.Rows L2 KB KC KD KS LamX R8 Q6
def eD (e : Ent) : PyData := .tuple [.int e.1, rD e.2]
theorem Es.dp {K : PySem.W.Frag} {H : Hp} : ∀ {us : List Addr} {c : Lg}, Es H us c → DpAll K H (us.map V.ref) (c.map eD)
  | _, _, .nil => .nil
  | _, _, .cons ⟨r, h1, h2⟩ t => .cons (.tup (SqT.of h1) (.cons (.int _) (.cons (.tup (SqT.of h2) (.cons (.str _) (.cons (.int _) .nil))) .nil))) (Es.dp t)
theorem eqvAll_eD : ∀ a : Lg, PyData.eqvAll (a.map eD) (a.map eD) = true
  | [] => rfl
  | x :: a => by
    rw [List.map_cons]
    show (PyData.eqv (eD x) (eD x) && PyData.eqvAll (a.map eD) (a.map eD)) = true
    rw [eqvAll_eD a]
    unfold eD rD
    simp [PyData.eqv, PyData.eqvAll]
theorem eqv_eD (a : Lg) : PyData.eqv (.list (a.map eD)) (.list (a.map eD)) = true := by
  unfold PyData.eqv
  exact eqvAll_eD a
theorem lay_eD : ∀ ns : Lg, PyData.canLayAll0 (ns.map eD) = true
  | [] => by simp [PyData.canLayAll0]
  | n :: ns => by
    rw [List.map_cons]
    unfold PyData.canLayAll0
    rw [lay_eD ns]
    have : PyData.strOk "row" = true := by decide +kernel
    simp [eD, rD, PyData.canLay0, PyData.canLayAll0, this]
theorem depth_eD : ∀ ns : Lg, PyData.depthAll (ns.map eD) ≤ 3
  | [] => by simp [PyData.depthAll]
  | p :: S => by
    have h := depth_eD S
    rw [List.map_cons]
    unfold PyData.depthAll
    have : (eD p).depth ≤ 2 := by simp [eD, rD, PyData.depth, PyData.depthAll]
    omega
theorem sh_eD (S : Lg) : SeqAt.shaped (.list (S.map eD)) = true := by
  have h := depth_eD S
  unfold SeqAt.shaped
  rw [Bool.and_eq_true, decide_eq_true_eq]
  refine ⟨?_, ?_⟩
  · unfold PyData.canLay0
    exact lay_eD S
  · unfold PyData.depth
    omega
theorem FrD.roll {d : Addr} {names : List Str} {la : Str → Addr} {H H' : Hp} (i : IsDice H d) (e : ExD d H H') : FrD d names la la H H' := by
  obtain ⟨a, b, k, hd⟩ := i
  exact ⟨fun c xs h n1 n => ⟨e _ _ n1 h, n⟩, fun c xs h => e _ _ (ne_ty h hd (fun z => nomatch z)) h⟩
def good1 (s : Rp Str) (ups : List Str) (n : Str) : Bool := match s.leader with
  | some l => decide (n ≠ l) && decide (n ∈ ups)
  | none => false
def tGood1 (CR CC Pd Pl : Addr) : TE := fun σ H Q => ∃ (names : List Str) (least so : Int) (stp : Int) (n : Str) (d g dc kl ow ok ou na : Addr) (ca la : Str → Addr) (st : Rp Str) (ups : List Str) (count : Int) (a8 a9 a10 a11 a12 a14 : Option V),
  σ = [some (.ref d), some (.ref g), some (.ref ow), some (.ref na), some (.int least), some (.int stp), some (.int so), some (ldV st.leader), a8, a9, a10, a11, a12, some (.str n), a14] ∧ Ds CR CC Pd Pl names least d g dc kl ow ok ou na ca la st st.leader st.time st.keep ups count H ∧ n ∈ names ∧ Q (.bl (good1 st ups n)) H
def tKeep1 : TE := fun σ H Q => ∃ (a0 a1 a3 a4 a5 a6 a7 a8 a9 a12 a14 : Option V) (ow ok ou m1 w1 : Addr) (us vs : List V) (n : Str) (ld : Option Str) (T : Int) (kp : List Str) (count : Int),
  σ = [a0, a1, some (.ref ow), a3, a4, a5, a6, a7, a8, a9, some (.ref m1), some (.ref w1), a12, some (.str n), a14] ∧ H ow = some (.dK [(Sum.inr "leader", ldV ld), (Sum.inr "time", .int T), (Sum.inr "keeping", .ref ok), (Sum.inr "up", .ref ou), (Sum.inr "count", .int count)]) ∧ H ok = some (.lst (kp.map V.str)) ∧ kp.length ≤ 9 ∧ H m1 = some (.lst us) ∧ H w1 = some (.lst vs) ∧
    ∀ H' q ys, Ex H H' → H q = none → H' q = some (.lst (ys.map V.str)) → ys.Perm (kp ++ if us.length = vs.length ∧ n ∉ kp then [n] else []) → sortedS ys = true → Q (.ref q) H'
section
variable {P : Program} {w : World} {K : PySem.W.Frag} {mg : Str → Option Value} {base : Heap} {CR CC CE Pd Pl cD fTo fD : Addr} {fdTo : FuncData} {A : Around} {outer : List PySem.Env} {s : Shared} {H0 : Hp} {E0' : XK}
theorem deed_pull (ve : DeedE P w K mg base CR CC CE Pd Pl cD fTo fdTo) (hr : Room 11 (xDeed P w K mg base fD cD A outer s H0 E0').A) :
    ∃ t, PSs (xDeed P w K mg base fD cD A outer s H0 E0') (ifBody (deedIf 1)) t ∧ ∀ (D : Ends) (a8 a9 a10 a11 a12 a14 : Option V) (H : Hp) (names : List Str) (least so : Int) (stp : Nat) (n : Str) (d g dc kl ow ok ou na : Addr) (ca la : Str → Addr) (st : Rp Str) (ups : List Str) (count : Nat) (G : Int → Lg) (kept : List Int),
      Ds CR CC Pd Pl names least d g dc kl ow ok ou na ca la st st.leader st.time st.keep ups (count : Int) H → InvD names st G kept ups count → n ∈ names → (∀ n ∈ names, (st.lg n).length ≤ stp) → stp ≤ 90 →
      DeedFin CR CC Pd Pl names least d g dc ow na ca la kept stp H (fun H' => ∀ b8 b9 b10 b11 b12 b14, D.nx [some (.ref d), some (.ref g), some (.ref ow), some (.ref na), some (.int least), some (.int (stp : Int)), some (.int so), some (ldV st.leader), b8, b9, b10, b11, b12, some (.str n), b14] H') →
      t D [some (.ref d), some (.ref g), some (.ref ow), some (.ref na), some (.int least), some (.int (stp : Int)), some (.int so), some (ldV st.leader), a8, a9, a10, a11, a12, some (.str n), a14] H := by
  obtain ⟨f1, fd1, G1, m1, b1⟩ := ve.pull
  obtain ⟨f2, fd2, G2, g2, k2, b2⟩ := ve.roll
  have hu := hr.units
  have hu1 := Nat.lt_trans (Nat.add_lt_add_left (by decide : 1 < 64) _) hu
  refine ⟨_, pss_cons (ps_set (i := 8) scDeed.nd rfl (Or.inr rfl) (pe_weak (t' := tGood1 CR CC Pd Pl) (pe_and (pe_cmp (pc_notN (pv 7))) (pe_and (pe_cmpR op_ne (pv 13) (pv 7) (nomark _)) (pe_one (pe_cmpR op_in_seq (pv 13) (pe_dget hu1 (pv 2) pe_str (fun _ _ => rfl)) (by rfl))))) ?_))
    (pss_cons (ps_if (pt_cmpR op_eq (pe_cmpR op_eq (lam_told ve hr (lamS_by (by show lamSB (defScope sDeed) _ = true; decide +kernel)) rfl (fun _ _ _ _ _ => rfl)
        (fun A outer s H E f c' hr' => pe_meth (pv 1) ve.B.cl m1 G1 (hr'.mono (by decide)) b1 .nil (passes_call (takes_of rfl rfl rfl rfl) (fun _ _ _ _ h => h)) (pa_cons (pv 13) (pa_cons (pe_op op_add pe_int (pe_call G2 (hr'.mono (by decide)) (by rfl) g2 k2 b2 .nil pass0 (pa_cons (pv 0) (pa_cons pe_int pa_nil)))) pa_nil)))) pe_str (nomark _)) (pv 8) (nomark _)) (pss_one (ps_ret pe_bl)) pss_nil)
    (pss_one (ps_if (pt_truth (pv 8) (fun _ => rfl))
      (pss_cons (ps_par (i := 10) (j := 11) rfl scDeed.nd rfl rfl (by decide) rfl rfl (pa_cons (pe_fld (pe_dget hu1 (pf 1) (pv 13) (fun _ _ => rfl)) (by rfl)) (pa_cons (pe_fld (pe_dget hu1 (pf 1) (pv 7) (fun _ _ => rfl)) (by rfl)) pa_nil)) rfl)
      (pss_cons (ps_if (pt_cmpR (op_neD hu) (pv 10) (pe_slice sl_list (pv 11) po_none (po_some (pe_callB call_len_seq (by rfl) ve.T.len PySem.boot_len (pa_cons (pv 10) pa_nil)))) (nomark _)) (pss_one (ps_ret pe_bl)) pss_nil)
      (pss_one (ps_dput hu1 (pv 2) pe_str (pe_weak (t' := tKeep1) (pe_callB cr_sortedS (by rfl) ve.T.sorted (by decide +kernel) (pa_cons (pe_op op_cat (pe_dget hu1 (pv 2) pe_str (fun _ _ => rfl)) (pe_op op_rep (pe_lst (pa_cons (pv 13) pa_nil)) (pe_callTy call_int1 (by rfl) ve.T.int (by decide +kernel)
        (pa_cons (pe_and (pe_cmpR op_eq (pe_callB call_len_seq (by rfl) ve.T.len PySem.boot_len (pa_cons (pv 10) pa_nil)) (pe_callB call_len_seq (by rfl) ve.T.len PySem.boot_len (pa_cons (pv 11) pa_nil)) (nomark _)) (pe_one (pe_cmpR op_notIn_seq (pv 13) (pe_dget hu1 (pv 2) pe_str (fun _ _ => rfl)) (by rfl)))) pa_nil)))) pa_nil)) ?_) rfl)))) pss_nil))), ?_⟩
  · rintro σ H Q ⟨names, least, so, stp, n, d, g, dc, kl, ow, ok, ou, na, ca, la, st, ups, count, a8, a9, a10, a11, a12, a14, rfl, x, hn, q⟩
    refine ⟨_, rfl, _, rfl, ?_⟩
    rw [ldV_non]
    by_cases e : st.leader = none
    · have : good1 st ups n = false := by unfold good1; rw [e]
      rw [this] at q
      exact ifF (by simp [e]) q
    · obtain ⟨l, e⟩ := Option.ne_none_iff_exists'.mp e
      have gv : good1 st ups n = (decide (n ≠ l) && decide (n ∈ ups)) := by unfold good1; rw [e]
      have o4 : DGet H ow (.str "up") (some (.ref ou)) := DGet.k (k := Sum.inr "up") x.own.o
      refine ifT (by simp [e]) ⟨_, rfl, _, rfl, by rw [e]; rfl, _, rfl, ?_⟩
      rw [e]
      by_cases c2 : n = l
      · have : good1 st ups n = false := by rw [gv]; simp [c2]
        rw [this] at q
        exact ifF (by simp [ldV, c2]) q
      · refine ifT (by simp [ldV, c2]) ⟨_, rfl, _, rfl, ow, _, rfl, o4, ou, _, rfl, .inl (SqL.of x.own.u), rfl, flat_strs _, ?_⟩
        have : good1 st ups n = (if false = true then !inV (V.str n) (ups.map V.str) else inV (V.str n) (ups.map V.str)) := by rw [gv]; simp [inV_strs, c2]
        rw [this] at q
        exact q
  · rintro σ H Q ⟨a0, a1, a3, a4, a5, a6, a7, a8, a9, a12, a14, ow, ok, ou, m1, w1, us, vs, n, ld, T, kp, count, rfl, how, hok, hk9, hm1, hw1, q⟩
    have hsl : sizeLine = 16777216 := rfl
    have o3 : DGet H ow (.str "keeping") (some (.ref ok)) := DGet.k (k := Sum.inr "keeping") how
    refine ⟨_, rfl, ow, _, rfl, o3, _, rfl, (by show 1 ≤ sizeLine; decide), fun l1 hl1 => ?_⟩
    have e2 : Ex H (upd H l1 (.lst [.str n])) := Ex.upd hl1
    have h2 : (upd H l1 (.lst [.str n])) l1 = some (.lst [.str n]) := upd_same
    generalize upd H l1 (.lst [.str n]) = H5 at e2 h2
    have tail : ∀ (b : Bool) (v : V), v = .bl b → (b = true ↔ us.length = vs.length ∧ n ∉ kp) → (∃ i, [v] = [V.int i] ∧ rRep (.ref l1) (V.int i) H5 fun y' H3 => rCat (.ref ok) y' H3 fun z H4 => rSortedS K [z] H4 Q) ∨ ∃ k, [v] = [V.bl k] ∧ rRep (.ref l1) (V.int (if k then 1 else 0)) H5 fun y' H3 => rCat (.ref ok) y' H3 fun z H4 => rSortedS K [z] H4 Q := by
      intro b v hv hb
      subst hv
      refine .inr ⟨b, rfl, l1, _, _, rfl, rfl, h2, ?_, ?_, ?_, fun p3 hp3 => ?_⟩
      · cases b <;> decide
      · cases b <;> decide
      · show 1 * _ ≤ _
        cases b <;> decide
      have er : (List.replicate (if b = true then (1 : Int) else 0).toNat [V.str n]).flatten = (if us.length = vs.length ∧ n ∉ kp then [n] else []).map V.str := by
        cases b with
        | true => rw [if_pos (hb.mp rfl)]; rfl
        | false =>
          have hb' : ¬ (us.length = vs.length ∧ n ∉ kp) := fun z => by have := hb.mpr z; cases this
          rw [if_neg hb']; rfl
      rw [er]
      have l1b : ((if us.length = vs.length ∧ n ∉ kp then [n] else []) : List Str).length ≤ 1 := by split <;> simp
      generalize hw : (if us.length = vs.length ∧ n ∉ kp then [n] else []) = wl at er l1b q
      have e3 : Ex H (upd H5 p3 (.lst (wl.map V.str))) := e2.trans (Ex.upd hp3)
      have h3 : (upd H5 p3 (.lst (wl.map V.str))) p3 = some (.lst (wl.map V.str)) := upd_same
      generalize upd H5 p3 (.lst (wl.map V.str)) = H6 at e3 h3
      refine ⟨ok, p3, _, _, rfl, rfl, e3 _ _ hok, h3, by rw [List.length_map, List.length_map]; omega, fun p4 hp4 => ?_⟩
      rw [← List.map_append]
      have e4 : Ex H6 (upd H6 p4 (.lst ((kp ++ wl).map V.str))) := Ex.upd hp4
      have h4 : (upd H6 p4 (.lst ((kp ++ wl).map V.str))) p4 = some (.lst ((kp ++ wl).map V.str)) := upd_same
      generalize upd H6 p4 (.lst ((kp ++ wl).map V.str)) = H7 at e4 h4
      refine ⟨p4, _, rfl, SqL.of h4, by rw [List.length_append]; omega, fun ys p5 pm so hp5 => ?_⟩
      exact q _ p5 ys ((e3.trans e4).trans (Ex.upd hp5)) (none_of (e3.trans e4) hp5) upd_same pm so
    refine ⟨_, rfl, m1, _, rfl, .inl (SqL.of (e2 _ _ hm1)), _, rfl, w1, _, rfl, .inl (SqL.of (e2 _ _ hw1)), rfl, _, rfl, ?_⟩
    by_cases c1 : us.length = vs.length
    · have o3' : DGet H5 ow (.str "keeping") (some (.ref ok)) := DGet.k (k := Sum.inr "keeping") (e2 _ _ how)
      refine ifT (by simp [c1]) ⟨_, rfl, _, rfl, ow, _, rfl, o3', ok, _, rfl, .inl (SqL.of (e2 _ _ hok)), rfl, flat_strs _, ?_⟩
      exact tail (decide (n ∉ kp)) _ (by simp [inV_strs]) (by simp [c1])
    · exact ifF (by simp; omega) (tail false _ rfl (by simp [c1]))
  · intro D a8 a9 a10 a11 a12 a14 H names least so stp n d g dc kl ow ok ou na ca la st ups count G kept x iv hn hlt hst fin
    have hn9 := (x.grp.ns n hn).1
    have hk9 := x.grp.k9
    refine ⟨names, least, so, _, n, d, g, dc, kl, ow, ok, ou, na, ca, la, st, ups, _, _, _, _, _, _, _, rfl, x, hn, ?_⟩
    refine ⟨x.tabs, fun H1 e1 t1 => ?_⟩
    have x1 := x.lam e1 t1
    obtain ⟨dx, ho⟩ := x1.grp.o
    refine ⟨_, rfl, g, dx, _, rfl, ho, gF_m (by decide +kernel) (by decide +kernel) (by decide +kernel) (by decide +kernel) (by decide +kernel), _, rfl, _, rfl, roll_step x1.dice (by decide) (by decide) fun r H2 r0 r4 e2 i2 => ⟨_, _, rfl, rfl, ?_⟩⟩
    have x2 := x1.roll e2 i2
    have f2 : FrD d names la la H H2 := (FrD.lam e1).trans (FrD.roll x1.dice e2)
    refine pull_step x2.grp hn9 iv.ok.k0 iv.ok.kd (fun m hm => iv.ok.tm m hm) (by have := iv.ok.t1; omega) (fun hb => ⟨true, ve.J.e, fun _ => ?_, fun z => nomatch z⟩) (fun l hl _ hnl hup H3 kl3 la3 p keep3 hk3 ln3 x3 cp jn g3 => ?_)
    · have hv : good1 st ups n = false := by
        unfold good1
        cases e : st.leader with
        | none => rfl
        | some l =>
          rw [e] at hb
          rcases hb with z | z | z | z
          · cases z
          · exact absurd hn z
          · have : l = n := Option.some.inj z
            simp [this]
          · have : n ∉ ups := fun w => by rw [((iv.um n).mp w).2] at z; cases z
            simp [this]
      refine ⟨rfl, _, rfl, rfl, _, rfl, ifF (by rw [hv]; simp) ?_⟩
      refine ⟨_, rfl, _, rfl, ifF (by rw [hv]; simp) ?_⟩
      exact fin H2 kl ok ou la st ups count G kept x2 iv ⟨List.prefix_refl _, fun _ => rfl⟩ (fun n hn => by have := hlt n hn; omega) f2 _ _ _ _ _ _
    · have hv : good1 st ups n = true := by
        unfold good1
        rw [hl]
        simp [hnl, (iv.um n).mpr ⟨hn, hup⟩]
      have x4 := x2.move x3 hk3 ln3 g3
      have f4 := f2.trans (x2.fr x3 ln3)
      refine ⟨rfl, _, rfl, rfl, _, rfl, ifF (by rw [hv]; simp) ?_⟩
      refine ⟨_, rfl, _, rfl, ifT (by rw [hv]) ?_⟩
      obtain ⟨kept', ok', kp', cpre⟩ := inv_pull (many := 1 + r) iv.ok hl hn hnl cp jn
      have hln := x.grp.ln l hl
      generalize hc : pullL (st.lg n) (st.lg l) p (1 + r) = c at x4 f4 ok' cpre jn
      have p1 : (pullS st n l c keep3).lg = Q6.set st.lg n c := by
        show (firmed _).lg = _
        rw [firmed_lg]
      have p2 : (pullS st n l c keep3).leader = st.leader := by
        show (firmed _).leader = _
        rw [firmed_leader]
      have p3 : (pullS st n l c keep3).time = st.time := by
        show (firmed _).time = _
        rw [firmed_time]
      have p4 : (pullS st n l c keep3).keep = keep3 := by
        show (firmed _).keep = _
        rw [firmed_keep]
      have p5 : (pullS st n l c keep3).up = st.up := by
        show (firmed _).up = _
        rw [firmed_up]
      obtain ⟨dx4, ho4⟩ := x4.grp.o
      obtain ⟨dn, hcn⟩ := (x4.grp.cp n hn).o
      obtain ⟨us, hus, hes⟩ := (x4.grp.cp n hn).r
      obtain ⟨dl, hcl⟩ := (x4.grp.cp l hln).o
      obtain ⟨vs, hvs, hfs⟩ := (x4.grp.cp l hln).r
      rw [p1, set_same] at hes
      rw [p1, set_ne hnl.symm] at hfs
      have l1 := paired_len hes
      have l2 := paired_len hfs
      have hgl : DGet H3 dc (ldV st.leader) (some (.ref (ca l))) := by rw [hl]; exact x4.grp.get hln
      refine ⟨_, rfl, g, CR, dx4, _, _, rfl, ho4, ve.B.cl, ve.B.nC, rfl, _, rfl, dc, _, rfl, x4.grp.get hn, ca n, CC, dn, _, _, rfl, hcn, ve.BC.cl, ve.BC.nR, rfl, _, rfl, g, CR, dx4, _, _, rfl, ho4, ve.B.cl, ve.B.nC, rfl, _, rfl, dc, _, rfl, hgl, ca l, CC, dl, _, _, rfl, hcl, ve.BC.cl, ve.BC.nR, rfl, _, _, rfl, ?_⟩
      refine ⟨_, rfl, _, rfl, _, rfl, la3 n, _, rfl, .inl (SqL.of hus), _, rfl, la3 l, _, rfl, SqL.of hvs, fun q hq => ?_⟩
      have ec : cutV (vs.map V.ref) none (some (((us.map V.ref).length : Nat) : Int)) = (vs.take c.length).map V.ref := by rw [cutV_take, List.length_map, l1, ← List.map_take]
      rw [ec]
      have e5 : Ex H3 (upd H3 q (.lst ((vs.take c.length).map V.ref))) := Ex.upd hq
      have h5 : (upd H3 q (.lst ((vs.take c.length).map V.ref))) q = some (.lst ((vs.take c.length).map V.ref)) := upd_same
      generalize upd H3 q (.lst ((vs.take c.length).map V.ref)) = H5 at e5 h5
      have et : (st.lg l).take c.length = c := (List.prefix_iff_eq_take.mp cpre).symm
      have es5 : Es H5 (vs.take c.length) c := by
        have := paired_take c.length (hfs.kt fun b xs h => e5 _ _ h)
        rw [et] at this
        exact this
      have en5 : Es H5 us c := hes.kt fun b xs h => e5 _ _ h
      refine ⟨_, _, .lst (SqL.of (e5 _ _ hus)) (Es.dp en5), .lst (SqL.of h5) (Es.dp es5), sh_eD _, sh_eD _, _, rfl, ifF (by rw [eqv_eD]; simp) ?_⟩
      have x5 := x4.ex e5
      refine ⟨_, _, _, _, _, _, _, _, _, _, _, ow, ok, ou, la3 n, la3 l, us.map V.ref, vs.map V.ref, n, _, _, st.keep, _, rfl, x5.own.o, x5.own.k, hk9, e5 _ _ hus, e5 _ _ hvs, fun H7 q7 ys e7 hq7 h7 pm so7 => ?_⟩
      have x7 := x5.ex e7
      refine ⟨_, rfl, ow, _, rfl, DPut.k (k := Sum.inr "keeping") x7.own.o (by show 5 < sizeLine; decide), ?_⟩
      rw [List.length_map, List.length_map, l1, l2] at pm
      have ek : ys = keep3 ∧ sortedS keep3 = true := by
        unfold Join at jn
        by_cases z : c.length = (st.lg l).length ∧ n ∉ st.keep
        · rw [if_pos z] at jn pm
          exact ⟨sorted_un (pm.trans jn.1.symm) so7 jn.2, jn.2⟩
        · rw [if_neg z] at jn pm
          rw [List.append_nil] at pm
          rw [jn]
          exact ⟨sorted_un pm so7 iv.so, iv.so⟩
      rw [ek.1] at h7
      obtain ⟨da, db, dk, hd⟩ := x5.dice
      have x8 := x7.write (ld' := st.leader) (T' := st.time) (kp' := keep3) (ups' := ups) (count' := (count : Int)) h7 x7.own.u (ne_of_none hd hq7) x7.nd.2.2.1 (fun m hm => ⟨(fun z => by
        obtain ⟨us', hc', _⟩ := (x5.grp.cp m hm).r
        rw [← z, hq7] at hc'
        cases hc'), (x7.nl m hm).2.1⟩)
      refine fin _ kl3 q7 ou la3 (pullS st n l c keep3) ups count G kept' ?_ ⟨ok', ?_, iv.un, fun m => ?_, iv.nn⟩ ⟨kp', fun z => by rw [p2, hl] at z; cases z⟩ (fun m hm => ?_) (((f4.trans (FrD.of e5)).trans (FrD.of e7)).trans (x7.frW _)) _ _ _ _ _ _
      · rw [p2, p3, p4]
        exact x8
      · rw [p4]; exact ek.2
      · rw [p5]; exact iv.um m
      · rw [p1]
        by_cases z : m = n
        · rw [z, set_same]
          have := cpre.length_le
          have := hlt l hln
          omega
        · rw [set_ne z]
          have := hlt m hm
          omega
end
end K6
set_option Elab.async false
set_option linter.all false
set_option maxRecDepth 100000
set_option maxHeartbeats 4000000
namespace K6
open PySem PySem.Spec PyProof.Rows L2 KB KC KD KS LamX R8 Q6
section
variable {P : Program} {w : World} {K : PySem.W.Frag} {mg : Str → Option Value} {base : Heap} {CR CC CE Pd Pl cD fTo fD : Addr} {fdTo : FuncData} {A : Around} {outer : List PySem.Env} {s : Shared} {H0 : Hp} {E0' : XK}
theorem deed_elect (ve : DeedE P w K mg base CR CC CE Pd Pl cD fTo fdTo) (hr : Room 11 (xDeed P w K mg base fD cD A outer s H0 E0').A) :
    ∃ t, PSs (xDeed P w K mg base fD cD A outer s H0 E0') (ifBody (deedIf 4)) t ∧ ∀ (D : Ends) (a8 a9 a10 a11 a12 a14 : Option V) (H : Hp) (names : List Str) (least so : Int) (stp : Nat) (n : Str) (d g dc kl ow ok ou na : Addr) (ca la : Str → Addr) (st : Rp Str) (ups : List Str) (count : Nat) (G : Int → Lg) (kept : List Int),
      Ds CR CC Pd Pl names least d g dc kl ow ok ou na ca la st st.leader st.time st.keep ups (count : Int) H → InvD names st G kept ups count → n ∈ names → (∀ n ∈ names, (st.lg n).length ≤ stp) → stp ≤ 90 →
      DeedFin CR CC Pd Pl names least d g dc ow na ca la kept stp H (fun H' => ∀ b8 b9 b10 b11 b12 b14, D.nx [some (.ref d), some (.ref g), some (.ref ow), some (.ref na), some (.int least), some (.int (stp : Int)), some (.int so), some (ldV st.leader), b8, b9, b10, b11, b12, some (.str n), b14] H') →
      t D [some (.ref d), some (.ref g), some (.ref ow), some (.ref na), some (.int least), some (.int (stp : Int)), some (.int so), some (ldV st.leader), a8, a9, a10, a11, a12, some (.str n), a14] H := by
  obtain ⟨f1, fd1, G1, m1, b1⟩ := ve.elect
  have hu := hr.units
  have hu1 := Nat.lt_trans (Nat.add_lt_add_left (by decide : 1 < 64) _) hu
  refine ⟨_, pss_cons (ps_setLc (i := 12) (own := [("one", 14)]) (g := gName 14) (tt := tTest (tOp (rIn K false) (tVar 14) (tDGet (tVar 2) (tC (.str "up"))))) (te := tVar 14) rfl scDeed.nd rfl rfl (sw_true rfl rfl rfl (by decide +kernel)) (pi_list (pe_dget hu1 (pv 2) pe_str (fun _ _ => rfl))) (blkOk_by (N := nDeed) (sc := defScope sDeed) (by decide +kernel))
        (fun _ _ _ _ _ => pg_name (i := 14) scDeed.nd rfl (Or.inl rfl)) (fun _ _ _ _ _ => pts_one (pt_cmpR op_in_seq (pv 14) (pe_dget hu1 (pv 2) pe_str (fun _ _ => rfl)) (by rfl))) (fun _ _ _ _ _ => pv 14))
    (pss_cons (ps_if (PW.pt (pw_and (pt_cmp (pc_isN (pv 7))) (pw_and1 (pt_cmpR (op_neD hu) (pv 12) (pe_lst pa_nil) (nomark _)))))
      (pss_one (ps_asg (pe_tup (pa_cons (pe_ix ix_listD (pv 12) pe_int (fun _ _ => rfl)) (pa_cons (pe_op op_add (pe_dget hu1 (pv 2) pe_str (fun _ _ => rfl)) pe_int) (pa_cons (pv 12) pa_nil))))
        (pg_tup rfl (pgs_cons (pg_sub (pv 2) pe_str (set_dict hu1)) (pgs_cons (pg_sub (pv 2) pe_str (set_dict hu1)) (pgs_cons (pg_sub (pv 2) pe_str (set_dict hu1)) pgs_nil)))))) pss_nil)
    (pss_one (ps_if (pt_cmpR op_ne (pe_meth0 (pv 1) ve.B.cl m1 G1 (hr.mono (by decide)) b1 .nil pass0) (pe_dget hu1 (pv 2) pe_str (fun _ _ => rfl)) (nomark _)) (pss_one (ps_ret pe_bl)) pss_nil))), ?_⟩
  intro D a8 a9 a10 a11 a12 a14 H names least so stp n d g dc kl ow ok ou na ca la st ups count G kept x iv hn hlt hst fin
  have hk9 := x.grp.k9
  have o3 : DGet H ow (.str "keeping") (some (.ref ok)) := DGet.k (k := Sum.inr "keeping") x.own.o
  refine ⟨_, rfl, ow, _, rfl, o3, ok, rfl, ⟨_, SqL.of x.own.k⟩, fun D1 hD1 => ?_⟩
  refine lcG walk_list RStr (fun j => st.keep[j]?.bind fun y => if decide (y ∈ ups) = true then some y else none) RStr.stab hD1 (by rw [List.length_map]; omega) (fun H5 e5 => SqL.of (e5 _ _ x.own.k)) (fun i H5 y H6 _ _ h => yat_ex h) (fun j v H5 H6 R0 N0 hj e5 hy hno hsm => ?_) (fun H1 xs e1 hx1 hps => ?_)
  · obtain ⟨rfl, hxi⟩ := hy
    rw [List.getElem?_map] at hxi
    obtain ⟨m, hm, rfl⟩ := Option.map_eq_some_iff.mp hxi
    have x5 := x.ex e5
    have o4 : DGet H6 ow (.str "up") (some (.ref ou)) := DGet.k (k := Sum.inr "up") x5.own.o
    refine ⟨rfl, _, rfl, _, rfl, ow, _, rfl, o4, ou, _, rfl, .inl (SqL.of x5.own.u), rfl, flat_strs _, _, rfl, ?_⟩
    by_cases c : m ∈ ups
    · exact ifT (by simp [inV_strs, c]) ⟨_, rfl, hsm m (by rw [hm]; simp [c]) _ _ (Ex.refl _) rfl⟩
    · exact ifF (by simp [inV_strs, c]) (hno (by rw [hm]; simp [c]) _ (Ex.refl _))
  · rw [List.length_map, range_fm, filt_fm] at hps
    have ea : (st.keep.filter fun y => decide (y ∈ ups)) = ableOf st := by
      unfold ableOf
      refine List.filter_congr fun y hy => ?_
      rw [Bool.eq_iff_iff, decide_eq_true_eq, iv.um y]
      exact ⟨fun h => h.2, fun h => ⟨x.grp.kn y hy, h⟩⟩
    rw [rstr_map hps, ea] at hx1
    have x1 := x.ex e1
    have tm : ∀ m ∈ names, Tm st.time (st.lg m) := fun m hm => iv.ok.tm m hm
    have t0 : 0 ≤ st.time := by have := iv.ok.t1; omega
    have sc2 : ∀ o : Option Str, scal (ldV o) (ldV o) = true := fun o => by cases o <;> rfl
    refine ⟨_, rfl, _, rfl, ?_⟩
    rw [ldV_non]
    by_cases e : st.leader = none
    · refine ifT (by simp [e]) ?_
      refine ⟨_, rfl, (by show 0 ≤ sizeLine; decide), fun t2 ht2 => ?_⟩
      have e2 : Ex H (upd H1 t2 (.lst [])) := e1.trans (Ex.upd ht2)
      have hx2 := Ex.upd (o := .lst []) ht2 _ _ hx1
      have h2 : (upd H1 t2 (.lst [])) t2 = some (.lst (([] : List Str).map V.str)) := upd_same
      generalize upd H1 t2 (.lst []) = H2 at e2 hx2 h2
      have x2 := x.ex e2
      have am : ∀ m ∈ ableOf st, m ∈ names := fun m hm => x.grp.kn m (List.mem_filter.mp hm).1
      refine ⟨_, _, .lst (SqL.of hx2) (dp_strs (ableOf st)), .lst (SqL.of h2) (dp_strs []), sh_strs (fun m hm => (x.grp.ns m (am m hm)).2), rfl, _, rfl, ?_⟩
      rw [eqv_strs]
      cases eab : ableOf st with
      | nil =>
        refine ifF (by simp) ?_
        obtain ⟨dx, ho⟩ := x2.grp.o
        refine ⟨_, rfl, g, dx, _, rfl, ho, gF_m (by decide +kernel) (by decide +kernel) (by decide +kernel) (by decide +kernel) (by decide +kernel), elect_step x2.grp iv.ok.kd tm t0 (fun _ H3 e3 => ?_) (fun l r _ z => by rw [eab] at z; cases z)⟩
        have x3 := x2.ex e3
        have o5 : DGet H3 ow (.str "leader") (some (ldV st.leader)) := DGet.k (k := Sum.inr "leader") x3.own.o
        refine ⟨_, rfl, ow, _, rfl, o5, sc2 _, _, rfl, ifF (by simp) ?_⟩
        exact fin H3 kl ok ou la st ups count G kept x3 iv ⟨List.prefix_refl _, fun _ => rfl⟩ (fun n hn => by have := hlt n hn; omega) (FrD.of (e2.trans e3)) _ _ _ _ _ _
      | cons l r =>
        refine ifT (by simp) ?_
        have lab : l ∈ ableOf st := by rw [eab]; exact List.mem_cons_self
        have at0l : atI ((ableOf st).map V.str) 0 = some (.str l) := by rw [eab]; exact atI_nat (j := 0) rfl
        have o6 : DGet H2 ow (.str "time") (some (.int st.time)) := DGet.k (k := Sum.inr "time") x2.own.o
        refine ⟨_, rfl, D1, _, 0, _, rfl, rfl, hx2, at0l, _, rfl, ow, _, rfl, o6, _, _, rfl, rfl, _, rfl, (by show 3 ≤ sizeLine; decide), fun t3 ht3 => ?_⟩
        have e3 : Ex H (upd H2 t3 (.tup [.str l, .int (st.time + 1), .ref D1])) := e2.trans (Ex.upd ht3)
        have h3 : (upd H2 t3 (.tup [.str l, .int (st.time + 1), .ref D1])) t3 = some (.tup [.str l, .int (st.time + 1), .ref D1]) := upd_same
        have hx3 := Ex.upd (o := .tup [.str l, .int (st.time + 1), .ref D1]) ht3 _ _ hx2
        generalize upd H2 t3 (.tup [.str l, .int (st.time + 1), .ref D1]) = H3 at e3 h3 hx3
        have x3 := x.ex e3
        refine ⟨t3, _, rfl, SqT.of h3, rfl, _, _, rfl, _, rfl, ow, _, rfl, DPut.k (k := Sum.inr "leader") x3.own.o (by show 5 < sizeLine; decide), _, _, rfl, _, rfl, ow, _, rfl, DPut.k (k := Sum.inr "time") upd_same (by show 5 < sizeLine; decide), _, _, rfl, _, rfl, ow, _, rfl, DPut.k (k := Sum.inr "keeping") upd_same (by show 5 < sizeLine; decide), rfl, ?_⟩
        rw [upd2, upd2]
        have ep : putK (putK (putK [((Sum.inr "leader" : Key), ldV st.leader), (Sum.inr "time", .int st.time), (Sum.inr "keeping", .ref ok), (Sum.inr "up", .ref ou), (Sum.inr "count", .int (count : Int))] (Sum.inr "leader") (.str l)) (Sum.inr "time") (.int (st.time + 1))) (Sum.inr "keeping") (.ref D1) = [((Sum.inr "leader" : Key), ldV (some l)), (Sum.inr "time", .int (st.time + 1)), (Sum.inr "keeping", .ref D1), (Sum.inr "up", .ref ou), (Sum.inr "count", .int (count : Int))] := rfl
        rw [ep]
        obtain ⟨da, db, dk, hd⟩ := x.dice
        have x4 := x3.write (ld' := some l) (T' := st.time + 1) (kp' := ableOf st) (ups' := ups) (count' := (count : Int)) hx3 x3.own.u (ne_of_none hd hD1) x3.nd.2.2.1 (fun m hm => ⟨(fun z => by
          obtain ⟨us, hc, _⟩ := (x.grp.cp m hm).r
          rw [← z, hD1] at hc
          cases hc), (x3.nl m hm).2.1⟩)
        have f4 := x3.frW [((Sum.inr "leader" : Key), ldV (some l)), (Sum.inr "time", .int (st.time + 1)), (Sum.inr "keeping", .ref D1), (Sum.inr "up", .ref ou), (Sum.inr "count", .int (count : Int))]
        generalize upd H3 ow (.dK [((Sum.inr "leader" : Key), ldV (some l)), (Sum.inr "time", .int (st.time + 1)), (Sum.inr "keeping", .ref D1), (Sum.inr "up", .ref ou), (Sum.inr "count", .int (count : Int))]) = H4 at x4 f4
        obtain ⟨dx, ho⟩ := x4.grp.o
        refine ⟨_, rfl, g, dx, _, rfl, ho, gF_m (by decide +kernel) (by decide +kernel) (by decide +kernel) (by decide +kernel) (by decide +kernel), elect_step x4.grp iv.ok.kd tm t0 (fun z => ?_) (fun l' r' _ eab' H5 kl5 la5 lgf hk5 ln5 x5 hin hout g5 => ?_)⟩
        · rcases z with z | z
          · exact absurd e z
          · rw [z] at lab; cases lab
        · obtain ⟨rfl, rfl⟩ : l' = l ∧ r' = r := by
            rw [eab] at eab'
            exact ⟨(List.cons.inj eab').1.symm, (List.cons.inj eab').2.symm⟩
          obtain ⟨G', kept', ok', kp'⟩ := inv_elect iv.ok eab hin hout
          have x6 := x4.move x5 hk5 ln5 g5
          have f6 := x4.fr x5 ln5
          have o5 : DGet H5 ow (.str "leader") (some (ldV (some l'))) := DGet.k (k := Sum.inr "leader") x6.own.o
          refine ⟨_, rfl, ow, _, rfl, o5, rfl, _, rfl, ifF (by simp [ldV]) ?_⟩
          refine fin H5 kl5 D1 ou la5 (firmed ⟨lgf, st.firm, st.up, some l', st.time + 1, ableOf st⟩) ups count G' kept' ?_ ⟨ok', ?_, iv.un, fun m => ?_, iv.nn⟩ ⟨kp', fun z => by rw [firmed_leader] at z; cases z⟩ (fun m hm => ?_) (((FrD.of e3).trans f4).trans f6) _ _ _ _ _ _
          · rw [firmed_leader, firmed_time, firmed_keep]
            exact x6
          · rw [firmed_keep]; exact without_sorted iv.so _
          · rw [firmed_up]; exact iv.um m
          · rw [firmed_lg]
            show (lgf m).length ≤ _
            have := hlt m hm
            by_cases z : m ∈ ableOf st
            · obtain ⟨p, _, ez⟩ := hin m z
              rw [ez, List.length_take]
              omega
            · rw [hout m z]; omega
    · refine ifF (by simp [e]) (ifF (by simp) ?_)
      obtain ⟨dx, ho⟩ := x1.grp.o
      refine ⟨_, rfl, g, dx, _, rfl, ho, gF_m (by decide +kernel) (by decide +kernel) (by decide +kernel) (by decide +kernel) (by decide +kernel), elect_step x1.grp iv.ok.kd tm t0 (fun _ H3 e3 => ?_) (fun l r z _ => absurd z e)⟩
      have x3 := x1.ex e3
      have o5 : DGet H3 ow (.str "leader") (some (ldV st.leader)) := DGet.k (k := Sum.inr "leader") x3.own.o
      refine ⟨_, rfl, ow, _, rfl, o5, sc2 _, _, rfl, ifF (by simp) ?_⟩
      exact fin H3 kl ok ou la st ups count G kept x3 iv ⟨List.prefix_refl _, fun _ => rfl⟩ (fun n hn => by have := hlt n hn; omega) (FrD.of (e1.trans e3)) _ _ _ _ _ _
end
end K6
set_option Elab.async false
set_option linter.all false
set_option maxRecDepth 100000
set_option maxHeartbeats 4000000
namespace K6
open PySem PySem.Spec PyProof.Rows L2 KB KC KD KS LamX R8 Q6
theorem okC {P : Program} {w : World} {K : PySem.W.Frag} {mg : Str → Option Value} {base : Heap} {x qual : Str} {st : Stmt} {dvs : List V} {f c : Addr} {fd : FuncData} {CX : CXT} {N ps : List Str} {k : Nat} {sp : Sp} (F : FnP K x qual st dvs f fd) (hc : fd.code = .ref c) (S : FnScope N ps (defScope st)) (len : ∀ vs H Q E, sp vs H Q E → vs.length = ps.length)
    (hbody : ∀ (A : Around) (outer : List Env) (s : Shared) (H : Hp) (vs : List V) (Q : VK) (E : XK), Room k (A.deeper (envOfC qual (defScope st) s.heap.objs.size f (.ref c))) → sp vs H Q E →
      ∃ t, PSs (cxOf CX P w K mg base N qual (defScope st) f (.ref c) A outer s H E) (defBody st) t ∧ t { nx := fun _ H' => Q .non H', rt := Q } (start N vs) H) : FnOk P w K mg base CX (k + 1) f fd ps sp := by
  obtain ⟨oc, od, dV, kV, doc, pm, an, cdv, ct, osl, rfl, lk, hcd, hD, hK⟩ := F.ex
  have e : cdv = .ref c := hc
  subst e
  exact fn_of lk hcd S len hbody
@[irreducible] def spDeed (CR CC Pd Pl : Addr) : Sp := fun vs H Q _ => ∃ (names : List Str) (least : Int) (stp : Nat) (d g dc kl ow ok ou na : Addr) (ca la : Str → Addr) (st : Rp Str) (ups : List Str) (count : Nat) (G : Int → Lg) (kept : List Int),
  vs = [.ref d, .ref g, .ref ow, .ref na, .int least, .int (stp : Int)] ∧ Ds CR CC Pd Pl names least d g dc kl ow ok ou na ca la st st.leader st.time st.keep ups (count : Int) H ∧ InvD names st G kept ups count ∧ names ≠ [] ∧ (∀ n ∈ names, (st.lg n).length ≤ stp) ∧ stp ≤ 90 ∧ DeedFin CR CC Pd Pl names least d g dc ow na ca la kept stp H (fun H' => Q (.bl true) H')
theorem deed_step {CR CC Pd Pl : Addr} {names : List Str} {least : Int} {stp : Nat} {d g dc kl ow ok ou na : Addr} {ca la : Str → Addr} {st : Rp Str} {ups : List Str} {count : Nat} {G : Int → Lg} {kept : List Int} {H : Hp} {Q : VK} {E : XK} (x : Ds CR CC Pd Pl names least d g dc kl ow ok ou na ca la st st.leader st.time st.keep ups (count : Int) H) (iv : InvD names st G kept ups count) (hne : names ≠ []) (hlt : ∀ n ∈ names, (st.lg n).length ≤ stp) (hst : stp ≤ 90) (fin : DeedFin CR CC Pd Pl names least d g dc ow na ca la kept stp H (fun H' => Q (.bl true) H')) : spDeed CR CC Pd Pl [.ref d, .ref g, .ref ow, .ref na, .int least, .int (stp : Int)] H Q E := by
  unfold spDeed
  exact ⟨names, least, stp, d, g, dc, kl, ow, ok, ou, na, ca, la, st, ups, count, G, kept, rfl, x, iv, hne, hlt, hst, fin⟩
section
variable {P : Program} {w : World} {K : PySem.W.Frag} {mg : Str → Option Value} {base : Heap} {CR CC CE Pd Pl cD fTo f : Addr} {fd fdTo : FuncData}
theorem ok_deed (F : FnP K "_law_deed" "_law_deed" sDeed [] f fd) (hc : fd.code = .ref cD) (ve : DeedE P w K mg base CR CC CE Pd Pl cD fTo fdTo) : FnOk P w K mg base CX0 12 f fd ["dice", "group", "own", "names", "least", "step"] (spDeed CR CC Pd Pl) := by
  refine okC F hc scDeed (fun vs H Q E h => ?_) (fun A outer s H vs Q E hr h => ?_)
  · unfold spDeed at h
    obtain ⟨_, _, _, _, _, _, _, _, _, _, _, _, _, _, _, _, _, _, rfl, _⟩ := h; rfl
  · unfold spDeed at h
    obtain ⟨names, least, stp, d, g, dc, kl, ow, ok, ou, na, ca, la, st, ups, count, G, kept, rfl, x, iv, hne, hlt, hst, fin⟩ := h
    obtain ⟨t0, s0, d0⟩ := deed_0 (fD := f) (A := A) (outer := outer) (s := s) (H0 := H) (E0' := E) ve hr
    obtain ⟨tA, sA, dA⟩ := deed_app (fD := f) (A := A) (outer := outer) (s := s) (H0 := H) (E0' := E) ve hr
    obtain ⟨tB, sB, dB⟩ := deed_pull (fD := f) (A := A) (outer := outer) (s := s) (H0 := H) (E0' := E) ve hr
    obtain ⟨tC', sC, dC⟩ := deed_down (fD := f) (A := A) (outer := outer) (s := s) (H0 := H) (E0' := E) ve hr
    obtain ⟨tD, sD, dD⟩ := deed_up (fD := f) (A := A) (outer := outer) (s := s) (H0 := H) (E0' := E) ve hr
    obtain ⟨tE, sE, dE⟩ := deed_elect (fD := f) (A := A) (outer := outer) (s := s) (H0 := H) (E0' := E) ve hr
    obtain ⟨tF, sF, dF⟩ := deed_drop (fD := f) (A := A) (outer := outer) (s := s) (H0 := H) (E0' := E) ve hr
    refine ⟨_, PSs.nox <| pss_cons s0 (pss_cons (ps_if (pt_cmpR op_lt (pv 6) pe_int (nomark _)) sA (pss_one (ps_if (pt_cmpR op_lt (pv 6) pe_int (nomark _)) sB (pss_one (ps_if (pt_cmpR op_eq (pv 6) pe_int (nomark _)) sC (pss_one (ps_if (pt_cmpR op_eq (pv 6) pe_int (nomark _)) sD (pss_one (ps_if (pt_cmpR op_eq (pv 6) pe_int (nomark _)) sE (pss_one (ps_if (pt_cmpR op_eq (pv 6) pe_int (nomark _)) sF pss_nil)))))))))))
      (pss_one (ps_ret pe_bl))), ?_⟩
    refine d0 _ none none none none none none none none none H names least stp d g dc kl ow ok ou na ca la st st.leader st.time st.keep ups count x hne fun H1 so n x1 fl ft hn so0 so12 => ?_
    have fr1 : FrD d names la la H H1 := ⟨fun b xs h n1 n2 => ⟨fl b xs h n1, n2⟩, ft⟩
    have fin' : ∀ {Qd : Hp → Prop}, (∀ H', Q (.bl true) H' → Qd H') → DeedFin CR CC Pd Pl names least d g dc ow na ca la kept stp H1 Qd := fun {Qd} k H' kl' ok' ou' la' s' ups' count' G' kept' y iv' kp lt' f' => k _ (fin H' kl' ok' ou' la' s' ups' count' G' kept' y iv' kp lt' (fr1.trans f'))
    refine ⟨_, rfl, _, _, rfl, rfl, _, rfl, ?_⟩
    by_cases c0 : so < 3
    · exact ifT (by simp [c0]) (dA _ _ _ _ _ _ _ H1 names least so stp n d g dc kl ow ok ou na ca la st ups count G kept x1 iv hn hlt hst (fin' fun H' q _ _ _ _ _ _ => q))
    refine ifF (by simp [c0]) ⟨_, rfl, _, _, rfl, rfl, _, rfl, ?_⟩
    by_cases c1 : so < 7
    · exact ifT (by simp [c1]) (dB _ _ _ _ _ _ _ H1 names least so stp n d g dc kl ow ok ou na ca la st ups count G kept x1 iv hn hlt hst (fin' fun H' q _ _ _ _ _ _ => q))
    refine ifF (by simp [c1]) ⟨_, rfl, rfl, _, rfl, ?_⟩
    by_cases c2 : so = 7
    · exact ifT (by simp [c2]) (dC _ _ _ _ _ _ _ H1 names least so stp n d g dc kl ow ok ou na ca la st ups count G kept x1 iv hn hlt hst (fin' fun H' q _ _ _ _ _ _ => q))
    refine ifF (by simp [c2]) ⟨_, rfl, rfl, _, rfl, ?_⟩
    by_cases c3 : so = 8
    · exact ifT (by simp [c3]) (dD _ _ _ _ _ _ _ H1 names least so stp n d g dc kl ow ok ou na ca la st ups count G kept x1 iv hn hlt hst (fin' fun H' q _ _ _ _ _ _ => q))
    refine ifF (by simp [c3]) ⟨_, rfl, rfl, _, rfl, ?_⟩
    by_cases c4 : so = 9
    · exact ifT (by simp [c4]) (dE _ _ _ _ _ _ _ H1 names least so stp n d g dc kl ow ok ou na ca la st ups count G kept x1 iv hn hlt hst (fin' fun H' q _ _ _ _ _ _ => q))
    refine ifF (by simp [c4]) ⟨_, rfl, rfl, _, rfl, ?_⟩
    by_cases c5 : so = 10
    · exact ifT (by simp [c5]) (dF _ _ _ _ _ _ _ H1 names least so stp n d g dc kl ow ok ou na ca la st ups count G kept x1 iv hn hlt hst (fin' fun H' q _ _ _ _ _ _ => q))
    refine ifF (by simp [c5]) ?_
    exact fin H1 kl ok ou la st ups count G kept x1 iv ⟨List.prefix_refl _, fun _ => rfl⟩ (fun n hn => by have := hlt n hn; omega) fr1
end
end K6
set_option Elab.async false
set_option linter.all false
set_option maxRecDepth 100000
set_option maxHeartbeats 4000000
namespace K6
open PySem PySem.Spec PyProof.Rows L2 KB KC KD KS LamX R8 Q6
abbrev nLaw : List Str := ["script", "dice", "names", "least", "kept", "own", "step", "lead", "copy", "rows", "bad", "record", "group", "time", "row", "one", "place", "f"]
theorem scLaw : FnScope nLaw ["script"] (defScope sLaw) := ⟨rfl, rfl, rfl, by decide +kernel, rfl, by decide +kernel, by decide +kernel⟩
def forBody : Stmt → List Stmt
  | .For _ _ body _ _ => body
  | _ => []
abbrev law0 : List Stmt := forBody ((defBody sLaw).getD 0 pass0')
abbrev lBody : List Stmt := forBody (law0.getD 4 pass0')
structure LawE (P : Program) (w : World) (K : PySem.W.Frag) (mg : Str → Option Value) (base : Heap) (CR CC CE Pd Pl cL fTo : Addr) (fdTo : FuncData) : Prop where
  T : TxtL mg
  J : TxtX K mg CE
  B : TxtR K mg CR
  BC : TxtC K mg CC
  TBl : LamX.TabB base mg cL Pl
  ap : Pd ≠ Pl
  rounds : Cal P w K mg base 2 "_law_rounds" ["script", "most"] (spRounds K)
  roll : Cal P w K mg base 1 "_law_roll" ["dice", "many"] spRoll
  deed : Cal P w K mg base 12 "_law_deed" ["dice", "group", "own", "names", "least", "step"] (spDeed CR CC Pd Pl)
  states : Cal P w K mg base 1 "_law_states" ["group", "own"] (spLStates CR CC)
  firm : Cal P w K mg base 1 "_law_firm" ["copies", "kept"] (spLFirm CC)
  rinit : CalI P w K mg base CR (L2.CX P w) 3 ["self", "names", "least"] (spRInit CR CC CE)
  cinit : CalI P w K mg base CC CX0 1 ["self"] (spCInit CC)
  endOf : CalM P w K mg base CC CX0 1 "end_of" ["self", "time"] (spEnd CC)
  kept : CalM P w K mg base CR (L2.CX P w) 2 "is_kept" ["self", "place"] (spKept CR CC CE)
  read : CalM P w K mg base CR (L2.CX P w) 1 "read" ["self", "name", "place"] (spRead CR CC CE)
  pull : CalM P w K mg base CR (L2.CX P w) 3 "pull" ["self", "name", "many"] (spPull CR CC CE)
  down : CalM P w K mg base CR (L2.CX P w) 2 "go_down" ["self", "name"] (spDown CR CC CE)
  come : CalM P w K mg base CR (L2.CX P w) 1 "come_up" ["self", "name"] (spUp CR CC CE)
  drop : CalM P w K mg base CR (L2.CX P w) 2 "drop_slow" ["self", "name"] (spDrop CR CC CE)
  told : FnP K "_law_told" "_law_told" sTold [] fTo fdTo
  gTold : mg "_law_told" = some (.ref fTo)
abbrev xLaw (P : Program) (w : World) (K : PySem.W.Frag) (mg : Str → Option Value) (base : Heap) (fL cL : Addr) (A : Around) (outer : List PySem.Env) (s : Shared) (H0 : Hp) (E0' : XK) : Cx := (cxOf CX0 P w K mg base nLaw "law" (defScope sLaw) fL (.ref cL) A outer s H0 E0').nox
theorem qLaw : (Str.ofString "law" ++ Str.ofString ".<locals>.") ++ Str.ofString "<lambda>" = qL := by decide +kernel
structure Bs (Pd Pl d p : Addr) (H : Hp) : Prop where
  dice : IsDice H d
  tabs : Tabs (TT Pd Pl) H
  hp : H p = some (.lst [.ref d])
theorem Bs.ne {Pd Pl d p : Addr} {H : Hp} (b : Bs Pd Pl d p H) : p ≠ d := fun c => by
  obtain ⟨x, y, z, hd⟩ := b.dice
  have := b.hp
  rw [c, hd] at this
  injection this with h
  injection h with h
  injection h with h _
  cases h
theorem Bs.ex {Pd Pl d p : Addr} {H H' : Hp} (b : Bs Pd Pl d p H) (e : Ex H H') : Bs Pd Pl d p H' := ⟨b.dice.ex e, b.tabs.ext e, e _ _ b.hp⟩
theorem Bs.roll {Pd Pl d p : Addr} {H H' : Hp} (b : Bs Pd Pl d p H) (e : ExD d H H') (i : IsDice H' d) : Bs Pd Pl d p H' :=
  ⟨i, tabs_but b.tabs fun c o h h1 _ _ => e c o (fun z => by
    obtain ⟨x, y, k, hd⟩ := b.dice
    rw [z, hd] at h
    exact h1 _ (Option.some.inj h).symm) h, e _ _ b.ne b.hp⟩
structure NsOk (ns : List Str) : Prop where
  nd : ns.Nodup
  l1 : 1 ≤ ns.length
  l5 : ns.length ≤ 5
  ok : ∀ n ∈ ns, n.length ≤ 900 ∧ PyData.strOk n = true
  hd : ns.head? = some "a"
  so : sortedS ns = true
theorem cut_names {r : Int} (h0 : 0 ≤ r) (h1 : r < 5) : ∃ ns, cutV [V.str "a", V.str "b", V.str "c", V.str "d", V.str "e"] none (some (1 + r)) = ns.map V.str ∧ NsOk ns := by
  have : r = 0 ∨ r = 1 ∨ r = 2 ∨ r = 3 ∨ r = 4 := by omega
  rcases this with rfl | rfl | rfl | rfl | rfl
  · exact ⟨["a"], rfl, by decide +kernel, by decide, by decide, by decide +kernel, rfl, by decide +kernel⟩
  · exact ⟨["a", "b"], rfl, by decide +kernel, by decide, by decide, by decide +kernel, rfl, by decide +kernel⟩
  · exact ⟨["a", "b", "c"], rfl, by decide +kernel, by decide, by decide, by decide +kernel, rfl, by decide +kernel⟩
  · exact ⟨["a", "b", "c", "d"], rfl, by decide +kernel, by decide, by decide, by decide +kernel, rfl, by decide +kernel⟩
  · exact ⟨["a", "b", "c", "d", "e"], rfl, by decide +kernel, by decide, by decide, by decide +kernel, rfl, by decide +kernel⟩
theorem ok_rp0 {names keep : List Str} {n0 : Str} (h0 : n0 ∈ names) (pm : keep.Perm names) (nd : names.Nodup) : Q6.Ok names (rp0 n0 keep) (fun _ => []) [] 0 := by
  have ne : keep ≠ [] := fun z => by
    have := pm.mem_iff.mpr h0
    rw [z] at this
    cases this
  refine ⟨fun n _ i e h => by simp [rp0] at h, fun i e h => by simp at h, fun n _ => ⟨fun e h => by simp [rp0] at h, fun e h => by simp [rp0] at h, .nil⟩, ⟨fun e h => by simp at h, fun e h => by simp at h, .nil⟩, Int.le_refl 1, fun n hn => pm.mem_iff.mp hn, pm.nodup_iff.mpr nd, ne, fun n _ => List.prefix_refl _, fun l hl => ?_, fun n _ => Nat.zero_le _, rfl, fun n _ => ⟨Nat.le_refl _, Nat.zero_le _, rfl⟩, Nat.le_refl _⟩
  have : l = n0 := (Option.some.inj hl).symm
  rw [this]
  exact ⟨pm.mem_iff.mpr h0, rfl, rfl, rfl⟩
theorem rounds_step {K : PySem.W.Frag} {H : Hp} {s : Addr} {ns : List Int} {Q : VK} {E : XK} (h : SqL K H s (ns.map V.int)) (fin : ∀ H' p d, Ex H H' → H' p = some (.lst [.ref d]) → IsDice H' d → Q (.ref p) H') : spRounds K [.ref s, .int 1] H Q E := by
  unfold spRounds
  exact ⟨s, ns, rfl, h, fin⟩
section
variable {P : Program} {w : World} {K : PySem.W.Frag} {mg : Str → Option Value} {base : Heap} {CR CC CE Pd Pl cL fTo fL : Addr} {fdTo : FuncData} {A : Around} {outer : List PySem.Env} {s : Shared} {H0 : Hp} {E0' : XK}
theorem law_0 (ve : LawE P w K mg base CR CC CE Pd Pl cL fTo fdTo) (hr : Room 13 (xLaw P w K mg base fL cL A outer s H0 E0').A) :
    ∃ t, PS (xLaw P w K mg base fL cL A outer s H0 E0') (law0.getD 0 pass0') t ∧ ∀ (D : Ends) (a0 a2 a3 a4 a5 a6 a7 a8 a9 a10 a11 a12 a13 a14 a15 a16 a17 : Option V) (H : Hp) (d p : Addr), Bs Pd Pl d p H →
      (∀ (H' : Hp) (na : Addr) (ns : List Str), Bs Pd Pl d p H' → na ≠ d → H' na = some (.lst (ns.map V.str)) → NsOk ns → D.nx [a0, some (.ref d), some (.ref na), a3, a4, a5, a6, a7, a8, a9, a10, a11, a12, a13, a14, a15, a16, a17] H') → t D [a0, some (.ref d), a2, a3, a4, a5, a6, a7, a8, a9, a10, a11, a12, a13, a14, a15, a16, a17] H := by
  obtain ⟨f1, fd1, G1, g1, k1, b1⟩ := ve.roll
  refine ⟨_, ps_set (i := 2) scLaw.nd rfl (Or.inl rfl) (pe_slice sl_list (pe_lst (pa_cons pe_str (pa_cons pe_str (pa_cons pe_str (pa_cons pe_str (pa_cons pe_str pa_nil)))))) po_none (po_some (pe_op op_add pe_int (pe_call G1 (hr.mono (by decide)) (by rfl) g1 k1 b1 .nil pass0 (pa_cons (pv 1) (pa_cons pe_int pa_nil)))))), ?_⟩
  intro D a0 a2 a3 a4 a5 a6 a7 a8 a9 a10 a11 a12 a13 a14 a15 a16 a17 H d p b fin
  refine ⟨by decide, fun l0 hl0 => ⟨_, rfl, roll_step (b.ex (Ex.upd hl0)).dice (by decide) (by decide) fun r H2 r0 r3 e2 i2 => ⟨_, _, rfl, rfl, 1 + r, rfl, l0, _, rfl, SqL.of (e2 _ _ (fun z => ?_) upd_same), fun na hna => ?_⟩⟩⟩
  · obtain ⟨x, y, k, hd⟩ := b.dice
    rw [z, hd] at hl0
    cases hl0
  · obtain ⟨ns, e, ok⟩ := cut_names r0 r3
    rw [e]
    obtain ⟨x, y, k, hd⟩ := i2
    exact fin _ na ns (((b.ex (Ex.upd hl0)).roll e2 ⟨x, y, k, hd⟩).ex (Ex.upd hna)) (fun z => by rw [z, hd] at hna; cases hna) upd_same ok
theorem law_1 (ve : LawE P w K mg base CR CC CE Pd Pl cL fTo fdTo) (hr : Room 13 (xLaw P w K mg base fL cL A outer s H0 E0').A) :
    ∃ t, PS (xLaw P w K mg base fL cL A outer s H0 E0') (law0.getD 1 pass0') t ∧ ∀ (D : Ends) (a0 a3 a4 a5 a6 a7 a8 a9 a10 a11 a12 a13 a14 a15 a16 a17 : Option V) (H : Hp) (d p na : Addr) (ns : List Str), Bs Pd Pl d p H → na ≠ d → H na = some (.lst (ns.map V.str)) → NsOk ns →
      (∀ (H' : Hp) (least : Int), Bs Pd Pl d p H' → H' na = some (.lst (ns.map V.str)) → 1 ≤ least → least ≤ (ns.length : Int) → D.nx [a0, some (.ref d), some (.ref na), some (.int least), a4, a5, a6, a7, a8, a9, a10, a11, a12, a13, a14, a15, a16, a17] H') → t D [a0, some (.ref d), some (.ref na), a3, a4, a5, a6, a7, a8, a9, a10, a11, a12, a13, a14, a15, a16, a17] H := by
  obtain ⟨f1, fd1, G1, g1, k1, b1⟩ := ve.roll
  refine ⟨_, ps_set (i := 3) scLaw.nd rfl (Or.inl rfl) (pe_op op_add pe_int (pe_call G1 (hr.mono (by decide)) (by rfl) g1 k1 b1 .nil pass0 (pa_cons (pv 1) (pa_cons (pe_callB call_len_seq (by rfl) ve.T.len PySem.boot_len (pa_cons (pv 2) pa_nil)) pa_nil)))), ?_⟩
  intro D a0 a3 a4 a5 a6 a7 a8 a9 a10 a11 a12 a13 a14 a15 a16 a17 H d p na ns b nd hna ok fin
  have l1 := ok.l1
  have l5 := ok.l5
  refine ⟨_, rfl, _, rfl, na, _, rfl, .inl (SqL.of hna), roll_step b.dice (by rw [List.length_map]; omega) (by rw [List.length_map]; omega) fun r H1 r0 r1 e1 i1 => ⟨_, _, rfl, rfl, ?_⟩⟩
  rw [List.length_map] at r1
  exact fin H1 (1 + r) (b.roll e1 i1) (e1 _ _ nd hna) (by omega) (by omega)
end
end K6
set_option Elab.async false
set_option linter.all false
set_option maxRecDepth 100000
set_option maxHeartbeats 4000000
namespace K6
open PySem PySem.Spec PyProof.Rows L2 KB KC KD KS LamX R8 Q6
theorem rinit_step {CR CC CE : Addr} {p dx a : Addr} {names : List Str} {least : Int} {H : Hp} {Q : VK} {E : XK} (hp : H p = some (.ins CR dx [])) (ha : H a = some (.lst (names.map V.str))) (hok : ∀ n ∈ names, n.length ≤ 900 ∧ PyData.strOk n = true) (h64 : names.length < 64)
    (bad : ¬ (gFits names least ∧ names.Nodup) → ∀ H', Ex H H' → E (.ref CE) none H')
    (fin : ∀ n0 r, gFits names least → names.Nodup → names = n0 :: r → ∀ H' dc kl ca la keep, (∀ b o, b ≠ p → H b = some o → H' b = some o) → NewG names dc kl ca la H → keep.Perm names → sortedS keep = true →
      Grp CR CC names least p dc kl ca la (rp0 n0 keep) H' → Q .non H') : spRInit CR CC CE [.ref p, .ref a, .int least] H Q E := by
  unfold spRInit
  exact ⟨p, dx, a, names, least, rfl, hp, ha, hok, h64, bad, fin⟩
section
variable {P : Program} {w : World} {K : PySem.W.Frag} {mg : Str → Option Value} {base : Heap} {CR CC CE Pd Pl cL fTo fL : Addr} {fdTo : FuncData} {A : Around} {outer : List PySem.Env} {s : Shared} {H0 : Hp} {E0' : XK}
theorem law_2 (ve : LawE P w K mg base CR CC CE Pd Pl cL fTo fdTo) (hr : Room 13 (xLaw P w K mg base fL cL A outer s H0 E0').A) :
    ∃ t, PS (xLaw P w K mg base fL cL A outer s H0 E0') (law0.getD 2 pass0') t ∧ ∀ (D : Ends) (a0 a4 a5 a6 a7 a8 a9 a10 a11 a12 a13 a14 a15 a16 a17 : Option V) (H : Hp) (d p na : Addr) (ns : List Str) (least : Int), Bs Pd Pl d p H → H na = some (.lst (ns.map V.str)) → NsOk ns → 1 ≤ least → least ≤ (ns.length : Int) →
      (∀ (H' : Hp) (g dc kl ke : Addr) (ca la : Str → Addr), Ex H H' → H kl = none → (∀ n ∈ ns, H (la n) = none) → Grp CR CC ns least g dc kl ca la (rp0 "a" ns) H' → H ke = none → H' ke = some (.lst []) → (∀ n ∈ ns, ke ≠ la n) →
        D.nx [a0, some (.ref d), some (.ref na), some (.int least), some (.ref ke), a5, a6, a7, a8, a9, a10, a11, some (.ref g), a13, a14, a15, a16, a17] H') → t D [a0, some (.ref d), some (.ref na), some (.int least), a4, a5, a6, a7, a8, a9, a10, a11, a12, a13, a14, a15, a16, a17] H := by
  obtain ⟨f1, fd1, G1, M1, b1⟩ := ve.rinit
  refine ⟨_, ps_asg (pe_tup (pa_cons (pe_make (CX := L2.CX P w) M1 G1 (hr.mono (by decide)) (by rfl) ve.B.gC b1 .nil passL (pa_cons (pv 2) (pa_cons (pv 3) pa_nil))) (pa_cons (pe_lst pa_nil) pa_nil)))
    (pg_tup rfl (pgs_cons (pg_name (i := 12) scLaw.nd rfl (Or.inr rfl)) (pgs_cons (pg_name (i := 4) scLaw.nd rfl (Or.inr rfl)) pgs_nil))), ?_⟩
  intro D a0 a4 a5 a6 a7 a8 a9 a10 a11 a12 a13 a14 a15 a16 a17 H d p na ns least b hna ok l1 l2 fin
  have o5 := ok.l5
  refine ⟨_, rfl, _, rfl, fun x dx hx hdx nx => ?_⟩
  have ex : Ex H (upd (upd H dx (.own x)) x (.ins CR dx [])) := Ex.on (Ex.upd hdx) hx
  refine rinit_step upd_same (ex _ _ hna) ok.ok (by omega) (fun h => absurd ⟨⟨by omega, l2, by omega⟩, ok.nd⟩ h) (fun n0 r _ _ en H1 dc kl ca la keep fr nw pm so g1 => ⟨rfl, ?_⟩)
  have e1 : Ex H H1 := fun b' o h => fr b' o (ne_of_none h hx) (ex _ _ h)
  obtain rfl : keep = ns := sorted_un pm so ok.so
  have hn0 : n0 = "a" := by
    have := ok.hd
    rw [en] at this
    exact Option.some.inj this
  rw [hn0] at g1
  refine ⟨(by show 0 ≤ sizeLine; decide), fun ke hke => ⟨(by show 2 ≤ sizeLine; decide), fun q hq => ?_⟩⟩
  have e2 : Ex H1 (upd H1 ke (.lst [])) := Ex.upd hke
  have h2 : (upd H1 ke (.lst [])) ke = some (.lst []) := upd_same
  generalize upd H1 ke (.lst []) = H2 at e2 h2 hq
  have e3 : Ex H2 (upd H2 q (.tup [.ref x, .ref ke])) := Ex.upd hq
  have h3 : (upd H2 q (.tup [.ref x, .ref ke])) q = some (.tup [.ref x, .ref ke]) := upd_same
  generalize upd H2 q (.tup [.ref x, .ref ke]) = H3 at e3 h3
  refine ⟨q, _, rfl, SqT.of h3, rfl, _, _, rfl, _, _, rfl, rfl, ?_⟩
  refine fin H3 x dc kl ke ca la ((e1.trans e2).trans e3) (none_of ex nw.2.1) (fun n hn => none_of ex (nw.2.2 n hn).2) ((g1.ex e2).ex e3) (none_of e1 hke) (e3 _ _ h2) (fun n hn z => ?_)
  obtain ⟨us, hc, _⟩ := (g1.cp n hn).r
  rw [← z, hke] at hc
  cases hc
end
end K6
set_option Elab.async false
set_option linter.all false
set_option maxRecDepth 100000
set_option maxHeartbeats 4000000
namespace K6
open PySem PySem.Spec PyProof.Rows L2 KB KC KD KS LamX R8 Q6
section
variable {P : Program} {w : World} {K : PySem.W.Frag} {mg : Str → Option Value} {base : Heap} {CR CC CE Pd Pl cL fTo fL : Addr} {fdTo : FuncData} {A : Around} {outer : List PySem.Env} {s : Shared} {H0 : Hp} {E0' : XK}
theorem law_3 (ve : LawE P w K mg base CR CC CE Pd Pl cL fTo fdTo) (hr : Room 13 (xLaw P w K mg base fL cL A outer s H0 E0').A) :
    ∃ t, PS (xLaw P w K mg base fL cL A outer s H0 E0') (law0.getD 3 pass0') t ∧ ∀ (D : Ends) (a0 a3 a4 a5 a6 a7 a8 a9 a10 a11 a12 a13 a14 a15 a16 a17 : Option V) (H : Hp) (d p na g dc kl : Addr) (ca la : Str → Addr) (ns : List Str) (least : Int), Bs Pd Pl d p H → na ≠ d → H na = some (.lst (ns.map V.str)) → NsOk ns → Grp CR CC ns least g dc kl ca la (rp0 "a" ns) H → d ≠ kl → (∀ n ∈ ns, d ≠ la n ∧ na ≠ la n) →
      (∀ (H' : Hp) (ow ok ou : Addr), Ex H H' → Ds CR CC Pd Pl ns least d g dc kl ow ok ou na ca la (rp0 "a" ns) (some "a") 1 ns ns 0 H' →
        D.nx [a0, some (.ref d), some (.ref na), a3, a4, some (.ref ow), a6, a7, a8, a9, a10, a11, a12, a13, a14, a15, a16, a17] H') → t D [a0, some (.ref d), some (.ref na), a3, a4, a5, a6, a7, a8, a9, a10, a11, a12, a13, a14, a15, a16, a17] H := by
  refine ⟨_, ps_set (i := 5) scLaw.nd rfl (Or.inl rfl) (pe_disp (pps_cons pe_str pe_str (pps_cons pe_str pe_int (pps_cons pe_str (pe_callB cr_sortedS (by rfl) ve.T.sorted (by decide +kernel) (pa_cons (pv 2) pa_nil)) (pps_cons pe_str (pe_callTy call_list_of (by rfl) ve.T.list (by decide +kernel) (pa_cons (pv 2) pa_nil)) (pps_cons pe_str pe_int pps_nil))))) rfl rfl (by simp) (by decide)), ?_⟩
  intro D a0 a3 a4 a5 a6 a7 a8 a9 a10 a11 a12 a13 a14 a15 a16 a17 H d p na g dc kl ca la ns least b nd hna ok gr n1 n2 fin
  have o5 := ok.l5
  intro ow how
  have e1 : Ex H (upd H ow (.dK [])) := Ex.upd how
  have h1 : (upd H ow (.dK [])) ow = some (.dK []) := upd_same
  generalize upd H ow (.dK []) = H1 at e1 h1
  refine ⟨_, rfl, na, ns, rfl, SqL.of (e1 _ _ hna), by omega, fun ys okl pm so hokl => ?_⟩
  have e2 : Ex H1 (upd H1 okl (.lst (ys.map V.str))) := Ex.upd hokl
  have h2 : (upd H1 okl (.lst (ys.map V.str))) okl = some (.lst (ys.map V.str)) := upd_same
  generalize upd H1 okl (.lst (ys.map V.str)) = H2 at e2 h2
  refine ⟨_, rfl, na, _, rfl, .inl (SqL.of (e2 _ _ (e1 _ _ hna))), fun ou hou => ?_⟩
  have e3 : Ex H2 (upd H2 ou (.lst (ns.map V.str))) := Ex.upd hou
  have h3 : (upd H2 ou (.lst (ns.map V.str))) ou = some (.lst (ns.map V.str)) := upd_same
  generalize upd H2 ou (.lst (ns.map V.str)) = H3 at e3 h3
  have hw3 := e3 _ _ (e2 _ _ h1)
  refine ⟨hw3, [(Sum.inr "leader", .str "a"), (Sum.inr "time", .int 1), (Sum.inr "keeping", .ref okl), (Sum.inr "up", .ref ou), (Sum.inr "count", .int 0)], rfl, by show 5 ≤ 15; decide, ?_⟩
  have em : mergeK [] [((Sum.inr "leader" : Key), V.str "a"), (Sum.inr "time", .int 1), (Sum.inr "keeping", .ref okl), (Sum.inr "up", .ref ou), (Sum.inr "count", .int 0)] = [((Sum.inr "leader" : Key), ldV (some "a")), (Sum.inr "time", .int 1), (Sum.inr "keeping", .ref okl), (Sum.inr "up", .ref ou), (Sum.inr "count", .int 0)] := rfl
  rw [em]
  have ey : ys = ns := sorted_un pm so ok.so
  rw [ey] at h2
  have e13 : Ex H1 H3 := e2.trans e3
  have e03 : Ex H H3 := e1.trans e13
  have e04 : Ex H (upd H3 ow (.dK [((Sum.inr "leader" : Key), ldV (some "a")), (Sum.inr "time", .int 1), (Sum.inr "keeping", .ref okl), (Sum.inr "up", .ref ou), (Sum.inr "count", .int 0)])) := Ex.on e03 how
  obtain ⟨da, db, dk, hd⟩ := b.dice
  have nl : ∀ {q : Addr} {xs : List V}, H3 q = some (.lst xs) → (upd H3 ow (.dK [((Sum.inr "leader" : Key), ldV (some "a")), (Sum.inr "time", .int 1), (Sum.inr "keeping", .ref okl), (Sum.inr "up", .ref ou), (Sum.inr "count", .int 0)])) q = some (.lst xs) := fun h => by rw [L2.upd_ne (ne_of h hw3 (fun z => nomatch z))]; exact h
  have hok0 : H okl = none := none_of e1 hokl
  have hou0 : H ou = none := none_of (e1.trans e2) hou
  refine fin _ ow okl ou e04 ⟨⟨da, db, dk, e04 _ _ hd⟩, b.tabs.ext e04, gr.ex e04, ⟨upd_same, nl (e3 _ _ h2), nl h3⟩, e04 _ _ hna, ⟨n1, ne_of_none hd hok0, ne_of_none hd hou0, nd.symm⟩, fun n hn => (n2 n hn).1, fun n hn => ?_, fun z => ?_⟩
  · obtain ⟨us, hc, _⟩ := (gr.cp n hn).r
    exact ⟨(fun z => by rw [← z, hok0] at hc; cases hc), (fun z => by rw [← z, hou0] at hc; cases hc), (n2 n hn).2⟩
  · have := gr.d
    rw [← z, how] at this
    cases this
end
end K6
set_option Elab.async false
set_option linter.all false
set_option maxRecDepth 100000
set_option maxHeartbeats 4000000
namespace K6
open PySem PySem.Spec PyProof.Rows L2 KB KC KD KS LamX R8 Q6
structure Ls (CR CC Pd Pl : Addr) (ns : List Str) (least : Int) (d p g dc kl ow ok ou na ke : Addr) (ca la : Str → Addr) (st : Rp Str) (ups : List Str) (count : Nat) (G : Int → Lg) (kept lk : List Int) (rs : List V) (stp : Nat) (H : Hp) : Prop where
  ds : Ds CR CC Pd Pl ns least d g dc kl ow ok ou na ca la st st.leader st.time st.keep ups (count : Int) H
  iv : InvD ns st G kept ups count
  lt : ∀ n ∈ ns, (st.lg n).length ≤ stp
  hp : H p = some (.lst [.ref d])
  pd : p ≠ d
  pl : ∀ n ∈ ns, p ≠ la n
  hk : H ke = some (.lst rs)
  rs : Rs H rs lk
  kd : ke ≠ d
  kla : ∀ n ∈ ns, ke ≠ la n
  pre : lk <+: kept
  nn : st.leader = none → kept = lk
theorem Ls.ex {CR CC Pd Pl : Addr} {ns : List Str} {least : Int} {d p g dc kl ow ok ou na ke : Addr} {ca la : Str → Addr} {st : Rp Str} {ups : List Str} {count : Nat} {G : Int → Lg} {kept lk : List Int} {rs : List V} {stp : Nat} {H H' : Hp} (x : Ls CR CC Pd Pl ns least d p g dc kl ow ok ou na ke ca la st ups count G kept lk rs stp H) (e : Ex H H') : Ls CR CC Pd Pl ns least d p g dc kl ow ok ou na ke ca la st ups count G kept lk rs stp H' :=
  ⟨x.ds.ex e, x.iv, x.lt, e _ _ x.hp, x.pd, x.pl, e _ _ x.hk, x.rs.ex e, x.kd, x.kla, x.pre, x.nn⟩
section
variable {P : Program} {w : World} {K : PySem.W.Frag} {mg : Str → Option Value} {base : Heap} {CR CC CE Pd Pl cL fTo fL : Addr} {fdTo : FuncData} {A : Around} {outer : List PySem.Env} {s : Shared} {H0 : Hp} {E0' : XK}
theorem step_0 (ve : LawE P w K mg base CR CC CE Pd Pl cL fTo fdTo) (hr : Room 13 (xLaw P w K mg base fL cL A outer s H0 E0').A) :
    ∃ t, PS (xLaw P w K mg base fL cL A outer s H0 E0') (lBody.getD 0 pass0') t ∧ ∀ (D : Ends) (a0 a7 a8 a9 a10 a11 a13 a14 a15 a16 a17 : Option V) (H : Hp) (ns : List Str) (least : Int) (d p g dc kl ow ok ou na ke : Addr) (ca la : Str → Addr) (st : Rp Str) (ups : List Str) (count : Nat) (G : Int → Lg) (kept : List Int) (rs : List V) (stp : Nat),
      Ls CR CC Pd Pl ns least d p g dc kl ow ok ou na ke ca la st ups count G kept kept rs stp H → NsOk ns → stp ≤ 90 →
      (∀ H' kl' ok' ou' la' st' ups' count' G' kept', Ls CR CC Pd Pl ns least d p g dc kl' ow ok' ou' na ke ca la' st' ups' count' G' kept' kept rs (stp + 1) H' → D.nx [a0, some (.ref d), some (.ref na), some (.int least), some (.ref ke), some (.ref ow), some (.int (stp : Int)), a7, a8, a9, a10, a11, some (.ref g), a13, a14, a15, a16, a17] H') →
      t D [a0, some (.ref d), some (.ref na), some (.int least), some (.ref ke), some (.ref ow), some (.int (stp : Int)), a7, a8, a9, a10, a11, some (.ref g), a13, a14, a15, a16, a17] H := by
  obtain ⟨f1, fd1, G1, g1, k1, b1⟩ := ve.deed
  refine ⟨_, ps_if (pt_not (pt_truth (pe_call G1 (hr.mono (by decide)) (by rfl) g1 k1 b1 .nil pass0 (pa_cons (pv 1) (pa_cons (pv 12) (pa_cons (pv 5) (pa_cons (pv 2) (pa_cons (pv 3) (pa_cons (pv 6) pa_nil))))))) (fun _ => rfl))) (pss_one (ps_ret pe_bl)) pss_nil, ?_⟩
  intro D a0 a7 a8 a9 a10 a11 a13 a14 a15 a16 a17 H ns least d p g dc kl ow ok ou na ke ca la st ups count G kept rs stp x ok' hst fin
  have ne : ns ≠ [] := fun z => by have := ok'.l1; rw [z] at this; simp at this
  refine ⟨_, rfl, _, rfl, _, rfl, _, rfl, _, rfl, _, rfl, deed_step x.ds x.iv ne x.lt hst fun H' kl' ok2 ou' la' st' ups' count' G' kept' x' iv' kp' lt' f' => ?_⟩
  refine ⟨_, rfl, ifF (by simp) ?_⟩
  obtain ⟨p1, p2⟩ := f'.1 _ _ x.hp x.pd x.pl
  obtain ⟨k1, k2⟩ := f'.1 _ _ x.hk x.kd x.kla
  exact fin H' kl' ok2 ou' la' st' ups' count' G' kept' ⟨x', iv', lt', p1, x.pd, p2, k1, x.rs.kt f'.2, x.kd, k2, kp'.1, kp'.2⟩
theorem step_1 (ve : LawE P w K mg base CR CC CE Pd Pl cL fTo fdTo) (hr : Room 13 (xLaw P w K mg base fL cL A outer s H0 E0').A) :
    ∃ t, PS (xLaw P w K mg base fL cL A outer s H0 E0') (lBody.getD 1 pass0') t ∧ ∀ (D : Ends) (a0 a6 a7 a8 a9 a10 a11 a13 a14 a15 a16 a17 : Option V) (H : Hp) (ns : List Str) (least : Int) (d p g dc kl ow ok ou na ke : Addr) (ca la : Str → Addr) (st : Rp Str) (ups : List Str) (count : Nat) (G : Int → Lg) (kept lk : List Int) (rs : List V) (stp : Nat),
      Ls CR CC Pd Pl ns least d p g dc kl ow ok ou na ke ca la st ups count G kept lk rs stp H →
      (∀ H', Ls CR CC Pd Pl ns least d p g dc kl ow ok ou na ke ca la st ups count G kept lk rs stp H' → D.nx [a0, some (.ref d), some (.ref na), some (.int least), some (.ref ke), some (.ref ow), a6, a7, a8, a9, a10, a11, some (.ref g), a13, a14, a15, a16, a17] H') →
      t D [a0, some (.ref d), some (.ref na), some (.int least), some (.ref ke), some (.ref ow), a6, a7, a8, a9, a10, a11, some (.ref g), a13, a14, a15, a16, a17] H := by
  obtain ⟨f1, fd1, G1, g1, k1, b1⟩ := ve.states
  refine ⟨_, ps_if (pt_not (pt_truth (pe_call G1 (hr.mono (by decide)) (by rfl) g1 k1 b1 .nil pass0 (pa_cons (pv 12) (pa_cons (pv 5) pa_nil))) (fun _ => rfl))) (pss_one (ps_ret pe_bl)) pss_nil, ?_⟩
  intro D a0 a6 a7 a8 a9 a10 a11 a13 a14 a15 a16 a17 H ns least d p g dc kl ow ok ou na ke ca la st ups count G kept lk rs stp x fin
  have pm : ups.Perm (ns.filter fun n => st.up n) := (List.perm_ext_iff_of_nodup x.iv.un (List.Pairwise.filter _ x.iv.nn)).mpr fun m => by
    rw [x.iv.um m, List.mem_filter]
  refine ⟨_, rfl, _, rfl, lstates_step x.ds.grp x.ds.own pm fun H' e => ⟨_, rfl, ifF (by simp) (fin H' (x.ex e))⟩⟩
theorem step_2 (ve : LawE P w K mg base CR CC CE Pd Pl cL fTo fdTo) (hr : Room 13 (xLaw P w K mg base fL cL A outer s H0 E0').A) :
    ∃ t, PS (xLaw P w K mg base fL cL A outer s H0 E0') (lBody.getD 2 pass0') t ∧ ∀ (D : Ends) (a0 a6 a7 a8 a9 a10 a11 a13 a14 a15 a16 a17 : Option V) (H : Hp) (ns : List Str) (least : Int) (d p g dc kl ow ok ou na ke : Addr) (ca la : Str → Addr) (st : Rp Str) (ups : List Str) (count : Nat) (G : Int → Lg) (kept lk : List Int) (rs : List V) (stp : Nat),
      Ls CR CC Pd Pl ns least d p g dc kl ow ok ou na ke ca la st ups count G kept lk rs stp H →
      D.nx [a0, some (.ref d), some (.ref na), some (.int least), some (.ref ke), some (.ref ow), a6, some (ldV st.leader), a8, a9, a10, a11, some (.ref g), a13, a14, a15, a16, a17] H →
      t D [a0, some (.ref d), some (.ref na), some (.int least), some (.ref ke), some (.ref ow), a6, a7, a8, a9, a10, a11, some (.ref g), a13, a14, a15, a16, a17] H := by
  have hu := hr.units
  have hu1 := Nat.lt_trans (Nat.add_lt_add_left (by decide : 1 < 64) _) hu
  refine ⟨_, ps_set (i := 7) scLaw.nd rfl (Or.inl rfl) (pe_dget hu1 (pv 5) pe_str (fun _ _ => rfl)), ?_⟩
  intro D a0 a6 a7 a8 a9 a10 a11 a13 a14 a15 a16 a17 H ns least d p g dc kl ow ok ou na ke ca la st ups count G kept lk rs stp x fin
  have o1 : DGet H ow (.str "leader") (some (ldV st.leader)) := DGet.k (k := Sum.inr "leader") x.ds.own.o
  exact ⟨_, rfl, ow, _, rfl, o1, fin⟩
end
end K6
set_option Elab.async false
set_option linter.all false
set_option maxRecDepth 100000
set_option maxHeartbeats 4000000
namespace K6
open PySem PySem.Spec PyProof.Rows L2 KB KC KD KS LamX R8 Q6
abbrev ldBody : List Stmt := ifBody (lBody.getD 3 pass0')
section
variable {P : Program} {w : World} {K : PySem.W.Frag} {mg : Str → Option Value} {base : Heap} {CR CC CE Pd Pl cL fTo fL : Addr} {fdTo : FuncData} {A : Around} {outer : List PySem.Env} {s : Shared} {H0 : Hp} {E0' : XK}
theorem lead_0 (ve : LawE P w K mg base CR CC CE Pd Pl cL fTo fdTo) (hr : Room 13 (xLaw P w K mg base fL cL A outer s H0 E0').A) :
    ∃ t, PS (xLaw P w K mg base fL cL A outer s H0 E0') (ldBody.getD 0 pass0') t ∧ ∀ (D : Ends) (a0 a6 a8 a9 a10 a11 a13 a14 a15 a16 a17 : Option V) (H : Hp) (ns : List Str) (least : Int) (d p g dc kl ow ok ou na ke : Addr) (ca la : Str → Addr) (st : Rp Str) (ups : List Str) (count : Nat) (G : Int → Lg) (kept lk : List Int) (rs : List V) (stp : Nat) (l : Str),
      Ls CR CC Pd Pl ns least d p g dc kl ow ok ou na ke ca la st ups count G kept lk rs stp H → st.leader = some l →
      D.nx [a0, some (.ref d), some (.ref na), some (.int least), some (.ref ke), some (.ref ow), a6, some (.str l), some (.ref (ca l)), a9, a10, a11, some (.ref g), a13, a14, a15, a16, a17] H →
      t D [a0, some (.ref d), some (.ref na), some (.int least), some (.ref ke), some (.ref ow), a6, some (.str l), a8, a9, a10, a11, some (.ref g), a13, a14, a15, a16, a17] H := by
  have hu := hr.units
  have hu1 := Nat.lt_trans (Nat.add_lt_add_left (by decide : 1 < 64) _) hu
  refine ⟨_, ps_set (i := 8) scLaw.nd rfl (Or.inr rfl) (pe_dget hu1 (pf 12) (pv 7) (fun _ _ => rfl)), ?_⟩
  intro D a0 a6 a8 a9 a10 a11 a13 a14 a15 a16 a17 H ns least d p g dc kl ow ok ou na ke ca la st ups count G kept lk rs stp l x e fin
  obtain ⟨dx, ho⟩ := x.ds.grp.o
  exact ⟨_, rfl, g, CR, dx, _, _, rfl, ho, ve.B.cl, ve.B.nC, rfl, _, rfl, dc, _, rfl, x.ds.grp.get (x.ds.grp.ln l e), fin⟩
theorem lead_1 (ve : LawE P w K mg base CR CC CE Pd Pl cL fTo fdTo) (hr : Room 13 (xLaw P w K mg base fL cL A outer s H0 E0').A) :
    ∃ t, PS (xLaw P w K mg base fL cL A outer s H0 E0') (ldBody.getD 1 pass0') t ∧ ∀ (D : Ends) (a0 a6 a9 a10 a11 a13 a14 a15 a16 a17 : Option V) (H : Hp) (ns : List Str) (least : Int) (d p g dc kl ow ok ou na ke : Addr) (ca la : Str → Addr) (st : Rp Str) (ups : List Str) (count : Nat) (G : Int → Lg) (kept lk : List Int) (rs : List V) (stp : Nat) (l : Str),
      Ls CR CC Pd Pl ns least d p g dc kl ow ok ou na ke ca la st ups count G kept lk rs stp H → st.leader = some l → stp ≤ 91 →
      (∀ H' rw xs, Ls CR CC Pd Pl ns least d p g dc kl ow ok ou na ke ca la st ups count G kept lk rs stp H' → H' rw = some (.lst xs) → Rs H' xs kept → H rw = none → D.nx [a0, some (.ref d), some (.ref na), some (.int least), some (.ref ke), some (.ref ow), a6, some (.str l), some (.ref (ca l)), some (.ref rw), a10, a11, some (.ref g), a13, a14, a15, a16, a17] H') →
      t D [a0, some (.ref d), some (.ref na), some (.int least), some (.ref ke), some (.ref ow), a6, some (.str l), some (.ref (ca l)), a9, a10, a11, some (.ref g), a13, a14, a15, a16, a17] H := by
  refine ⟨_, ps_set (i := 9) scLaw.nd rfl (Or.inr rfl) (pe_lc (own := [("time", 13), ("row", 14)]) (g := gTup K 2 (gCons (gName 13) (gCons (gName 14) gNil))) (tt := tYes) (te := tVar 14) rfl scLaw.nd (pi_list (pe_slice sl_list (pf 8) po_none (po_some (pf 8)))) (blkOk_by (N := nLaw) (sc := defScope sLaw) (by decide +kernel))
      (fun _ _ _ _ _ => pg_tup rfl (pgs_cons (pg_name (i := 13) scLaw.nd rfl (Or.inl rfl)) (pgs_cons (pg_name (i := 14) scLaw.nd rfl (Or.inl rfl)) pgs_nil))) (fun _ _ _ _ _ => pts_nil) (fun _ _ _ _ _ => pv 14)), ?_⟩
  intro D a0 a6 a9 a10 a11 a13 a14 a15 a16 a17 H ns least d p g dc kl ow ok ou na ke ca la st ups count G kept lk rs stp l x e hst fin
  have hln := x.ds.grp.ln l e
  obtain ⟨dl, hcl⟩ := (x.ds.grp.cp l hln).o
  obtain ⟨us, hus, hes⟩ := (x.ds.grp.cp l hln).r
  have l1 := paired_len hes
  have l9 := x.lt l hln
  obtain ⟨k1, k2, k3, k4⟩ := x.iv.ok.ld l e
  refine ⟨_, rfl, ca l, CC, dl, _, _, rfl, hcl, ve.BC.cl, ve.BC.nR, rfl, _, rfl, ca l, CC, dl, _, _, rfl, hcl, ve.BC.cl, ve.BC.nF, rfl, _, rfl, la l, _, rfl, SqL.of hus, fun q hq => ?_⟩
  rw [cutV_take, ← List.map_take]
  have e2 : Ex H (upd H q (.lst ((us.take (st.firm l)).map V.ref))) := Ex.upd hq
  have h2 : (upd H q (.lst ((us.take (st.firm l)).map V.ref))) q = some (.lst ((us.take (st.firm l)).map V.ref)) := upd_same
  generalize upd H q (.lst ((us.take (st.firm l)).map V.ref)) = H2 at e2 h2
  have es2 : Es H2 (us.take (st.firm l)) ((st.lg l).take (st.firm l)) := Es.kt (paired_take _ hes) fun b xs h => e2 _ _ h
  have hwl := paired_len es2
  refine ⟨q, rfl, ⟨_, SqL.of h2⟩, fun D1 hD1 => ?_⟩
  refine lcG walk_list RRow (fun j => ((st.lg l).take (st.firm l))[j]?) RRow.stab hD1 (by rw [List.length_map, hwl, List.length_take]; omega) (fun H5 e5 => SqL.of (e5 _ _ h2)) (fun i H5 x H6 _ _ h => yat_ex h) (fun j v H5 H6 R0 N0 hj e5 hy hno hsm => ?_) (fun H5 xs e5 hx5 hps => ?_)
  · obtain ⟨rfl, hxi⟩ := hy
    rw [List.getElem?_map] at hxi
    obtain ⟨t, ht, rfl⟩ := Option.map_eq_some_iff.mp hxi
    obtain ⟨e', r, he, h3, h4⟩ := es2.at2 ht
    refine ⟨t, _, rfl, SqT.of (e5 _ _ h3), rfl, _, _, rfl, _, _, rfl, rfl, rfl, _, rfl, ?_⟩
    exact hsm e' he _ _ (Ex.refl _) ⟨r, rfl, e5 _ _ h4⟩
  · rw [List.length_map, hwl, range_some] at hps
    have rs5 := Es.rows hps
    have ek : Q6.rows ((st.lg l).take (st.firm l)) = kept := by rw [k4, k3]; exact x.iv.ok.kv.symm
    rw [ek] at rs5
    exact fin H5 D1 xs (x.ex (e2.trans e5)) hx5 rs5 (none_of e2 hD1)
end
end K6
set_option Elab.async false
set_option linter.all false
set_option maxRecDepth 100000
set_option maxHeartbeats 4000000
namespace K6
open PySem PySem.Spec PyProof.Rows L2 KB KC KD KS LamX R8 Q6
section
variable {P : Program} {w : World} {K : PySem.W.Frag} {mg : Str → Option Value} {base : Heap} {CR CC CE Pd Pl cL fTo fL : Addr} {fdTo : FuncData} {A : Around} {outer : List PySem.Env} {s : Shared} {H0 : Hp} {E0' : XK}
theorem lead_3 (ve : LawE P w K mg base CR CC CE Pd Pl cL fTo fdTo) (hr : Room 13 (xLaw P w K mg base fL cL A outer s H0 E0').A) :
    ∃ t, PS (xLaw P w K mg base fL cL A outer s H0 E0') (ldBody.getD 3 pass0') t ∧ ∀ (D : Ends) (a0 a6 a7 a8 a10 a11 a13 a14 a15 a16 a17 : Option V) (H : Hp) (ns : List Str) (least : Int) (d p g dc kl ow ok ou na ke rw : Addr) (ca la : Str → Addr) (st : Rp Str) (ups : List Str) (count : Nat) (G : Int → Lg) (kept lk : List Int) (rs xs : List V) (stp : Nat),
      Ls CR CC Pd Pl ns least d p g dc kl ow ok ou na ke ca la st ups count G kept lk rs stp H → H rw = some (.lst xs) → Rs H xs kept → rw ≠ d → (∀ n ∈ ns, rw ≠ la n) →
      (∀ ke' rs', Ls CR CC Pd Pl ns least d p g dc kl ow ok ou na ke' ca la st ups count G kept kept rs' stp H → D.nx [a0, some (.ref d), some (.ref na), some (.int least), some (.ref ke'), some (.ref ow), a6, a7, a8, some (.ref rw), a10, a11, some (.ref g), a13, a14, a15, a16, a17] H) →
      t D [a0, some (.ref d), some (.ref na), some (.int least), some (.ref ke), some (.ref ow), a6, a7, a8, some (.ref rw), a10, a11, some (.ref g), a13, a14, a15, a16, a17] H := by
  refine ⟨_, ps_set (i := 4) scLaw.nd rfl (Or.inr rfl) (pe_ifExp (pt_cmpR op_gt (pe_callB call_len_seq (by rfl) ve.T.len PySem.boot_len (pa_cons (pv 9) pa_nil)) (pe_callB call_len_seq (by rfl) ve.T.len PySem.boot_len (pa_cons (pv 4) pa_nil)) (nomark _)) (pv 9) (pv 4)), ?_⟩
  intro D a0 a6 a7 a8 a10 a11 a13 a14 a15 a16 a17 H ns least d p g dc kl ow ok ou na ke rw ca la st ups count G kept lk rs xs stp x hrw hrs n1 n2 fin
  have l1 : xs.length = kept.length := paired_len hrs
  have l2 : rs.length = lk.length := paired_len x.rs
  refine ⟨_, rfl, rw, _, rfl, .inl (SqL.of hrw), _, rfl, ke, _, rfl, .inl (SqL.of x.hk), _, _, rfl, rfl, _, rfl, ?_⟩
  by_cases c : lk.length < kept.length
  · refine ifT (by simp; omega) ⟨_, rfl, fin rw xs ⟨x.ds, x.iv, x.lt, x.hp, x.pd, x.pl, hrw, hrs, n1, n2, List.prefix_refl _, fun _ => rfl⟩⟩
  · refine ifF (by simp; omega) ⟨_, rfl, fin ke rs ?_⟩
    have : lk = kept := x.pre.eq_of_length (by have := x.pre.length_le; omega)
    have x' := x
    rw [this] at x'
    exact x'
end
end K6
set_option Elab.async false
set_option linter.all false
set_option maxRecDepth 100000
set_option maxHeartbeats 4000000
namespace K6
open PySem PySem.Spec PyProof.Rows L2 KB KC KD KS LamX R8 Q6
section
variable {P : Program} {w : World} {K : PySem.W.Frag} {mg : Str → Option Value} {base : Heap} {CR CC CE Pd Pl cL fTo fL : Addr} {fdTo : FuncData} {A : Around} {outer : List PySem.Env} {s : Shared} {H0 : Hp} {E0' : XK}
theorem lead_2 (ve : LawE P w K mg base CR CC CE Pd Pl cL fTo fdTo) (hr : Room 13 (xLaw P w K mg base fL cL A outer s H0 E0').A) :
    ∃ t, PS (xLaw P w K mg base fL cL A outer s H0 E0') (ldBody.getD 2 pass0') t ∧ ∀ (D : Ends) (a0 a6 a7 a10 a11 a13 a14 a15 a16 a17 : Option V) (H : Hp) (ns : List Str) (least : Int) (d p g dc kl ow ok ou na ke rw : Addr) (ca la : Str → Addr) (st : Rp Str) (ups : List Str) (count : Nat) (G : Int → Lg) (kept lk : List Int) (rs xs : List V) (stp : Nat) (l : Str),
      Ls CR CC Pd Pl ns least d p g dc kl ow ok ou na ke ca la st ups count G kept lk rs stp H → st.leader = some l → H rw = some (.lst xs) → Rs H xs kept →
      (∀ H', Ex H H' → D.nx [a0, some (.ref d), some (.ref na), some (.int least), some (.ref ke), some (.ref ow), a6, a7, some (.ref (ca l)), some (.ref rw), a10, a11, some (.ref g), a13, a14, a15, a16, a17] H') →
      t D [a0, some (.ref d), some (.ref na), some (.int least), some (.ref ke), some (.ref ow), a6, a7, some (.ref (ca l)), some (.ref rw), a10, a11, some (.ref g), a13, a14, a15, a16, a17] H := by
  have hu := hr.units
  refine ⟨_, ps_if (PW.pt (pw_or (pt_cmpR (op_neD hu) (pe_slice sl_list (pv 9) po_none (po_some (pe_callB call_len_seq (by rfl) ve.T.len PySem.boot_len (pa_cons (pv 4) pa_nil)))) (pe_slice sl_list (pv 4) po_none (po_some (pe_callB call_len_seq (by rfl) ve.T.len PySem.boot_len (pa_cons (pv 9) pa_nil)))) (nomark _))
    (pw_or (PW.pt (pw_and (pt_cmpR op_lt (pe_callB call_len_seq (by rfl) ve.T.len PySem.boot_len (pa_cons (pv 9) pa_nil)) (pe_callB call_len_seq (by rfl) ve.T.len PySem.boot_len (pa_cons (pv 4) pa_nil)) (nomark _)) (pw_and1 (pt_cmpR (op_eqD hu) (pe_slice sl_list (pf 8) po_none (po_some (pe_callB call_len_seq (by rfl) ve.T.len PySem.boot_len (pa_cons (pv 4) pa_nil)))) (pe_lst pa_nil) (nomark _)))))
    (pw_or1 (pt_cmpR (op_neD hu) (pe_slice sl_list (pe_lc (own := [("time", 13), ("row", 14)]) (g := gTup K 2 (gCons (gName 13) (gCons (gName 14) gNil))) (tt := tYes) (te := tVar 14) rfl scLaw.nd (pi_list (pf 8)) (blkOk_by (N := nLaw) (sc := defScope sLaw) (by decide +kernel))
      (fun _ _ _ _ _ => pg_tup rfl (pgs_cons (pg_name (i := 13) scLaw.nd rfl (Or.inl rfl)) (pgs_cons (pg_name (i := 14) scLaw.nd rfl (Or.inl rfl)) pgs_nil))) (fun _ _ _ _ _ => pts_nil) (fun _ _ _ _ _ => pv 14)) po_none (po_some (pe_callB call_len_seq (by rfl) ve.T.len PySem.boot_len (pa_cons (pv 4) pa_nil)))) (pv 4) (nomark _)))))) (pss_one (ps_ret pe_bl)) pss_nil, ?_⟩
  intro D a0 a6 a7 a10 a11 a13 a14 a15 a16 a17 H ns least d p g dc kl ow ok ou na ke rw ca la st ups count G kept lk rs xs stp l x e hrw hrs fin
  have l1 : xs.length = kept.length := paired_len hrs
  have l2 : rs.length = lk.length := paired_len x.rs
  have pl := x.pre.length_le
  have hln := x.ds.grp.ln l e
  refine ⟨_, rfl, _, rfl, ke, _, rfl, .inl (SqL.of x.hk), _, rfl, rw, _, rfl, SqL.of hrw, fun q1 hq1 => ?_⟩
  rw [cutV_take]
  have e1 : Ex H (upd H q1 (.lst (xs.take rs.length))) := Ex.upd hq1
  have h1 : (upd H q1 (.lst (xs.take rs.length))) q1 = some (.lst (xs.take rs.length)) := upd_same
  generalize upd H q1 (.lst (xs.take rs.length)) = H1 at e1 h1
  refine ⟨_, rfl, _, rfl, rw, _, rfl, .inl (SqL.of (e1 _ _ hrw)), _, rfl, ke, _, rfl, SqL.of (e1 _ _ x.hk), fun q2 hq2 => ?_⟩
  rw [cutV_take]
  have e2 : Ex H1 (upd H1 q2 (.lst (rs.take xs.length))) := Ex.upd hq2
  have h2 : (upd H1 q2 (.lst (rs.take xs.length))) q2 = some (.lst (rs.take xs.length)) := upd_same
  generalize upd H1 q2 (.lst (rs.take xs.length)) = H2 at e2 h2
  have e02 := e1.trans e2
  have k1 : kept.take rs.length = lk := by rw [l2]; exact (List.prefix_iff_eq_take.mp x.pre).symm
  have k2 : lk.take xs.length = lk := List.take_of_length_le (by omega)
  have r1 : Rs H2 (xs.take rs.length) lk := by
    have := paired_take rs.length (hrs.ex e02)
    rw [k1] at this
    exact this
  have r2 : Rs H2 (rs.take xs.length) lk := by
    have := paired_take xs.length (x.rs.ex e02)
    rw [k2] at this
    exact this
  refine ⟨_, _, .lst (SqL.of (e2 _ _ h1)) r1.dp, .lst (SqL.of h2) r2.dp, sh_rD _, sh_rD _, _, rfl, ?_⟩
  rw [eqv_rD]
  refine ifF (by simp) ?_
  refine ⟨_, rfl, rw, _, rfl, .inl (SqL.of (e02 _ _ hrw)), _, rfl, ke, _, rfl, .inl (SqL.of (e02 _ _ x.hk)), _, _, rfl, rfl, _, rfl, ?_⟩
  refine ifF (by simp; omega) (ifF (by simp) ?_)
  have x2 := x.ex e02
  obtain ⟨dl, hcl⟩ := (x2.ds.grp.cp l hln).o
  obtain ⟨us, hus, hes⟩ := (x2.ds.grp.cp l hln).r
  have l3 := paired_len hes
  have l9 := x2.ds.grp.lt l hln
  obtain ⟨k3, k4, k5, k6⟩ := x.iv.ok.ld l e
  refine ⟨_, rfl, ca l, CC, dl, _, _, rfl, hcl, ve.BC.cl, ve.BC.nR, rfl, la l, rfl, ⟨_, SqL.of hus⟩, fun D1 hD1 => ?_⟩
  refine lcG walk_list RRow (fun j => (st.lg l)[j]?) RRow.stab hD1 (by rw [List.length_map, l3]; omega) (fun H5 e5 => SqL.of (e5 _ _ hus)) (fun i H5 x H6 _ _ h => yat_ex h) (fun j v H5 H6 R0 N0 hj e5 hy hno hsm => ?_) (fun H5 ys e5 hx5 hps => ?_)
  · obtain ⟨rfl, hxi⟩ := hy
    rw [List.getElem?_map] at hxi
    obtain ⟨t, ht, rfl⟩ := Option.map_eq_some_iff.mp hxi
    obtain ⟨e', r, he, h3, h4⟩ := hes.at2 ht
    refine ⟨t, _, rfl, SqT.of (e5 _ _ h3), rfl, _, _, rfl, _, _, rfl, rfl, rfl, _, rfl, ?_⟩
    exact hsm e' he _ _ (Ex.refl _) ⟨r, rfl, e5 _ _ h4⟩
  · rw [List.length_map, l3, range_some] at hps
    have rs5 := Es.rows hps
    have x5 := x2.ex e5
    refine ⟨_, rfl, ke, _, rfl, .inl (SqL.of x5.hk), _, rfl, D1, _, rfl, SqL.of hx5, fun q3 hq3 => ?_⟩
    rw [cutV_take]
    have e6 : Ex H5 (upd H5 q3 (.lst (ys.take rs.length))) := Ex.upd hq3
    have h6 : (upd H5 q3 (.lst (ys.take rs.length))) q3 = some (.lst (ys.take rs.length)) := upd_same
    generalize upd H5 q3 (.lst (ys.take rs.length)) = H6 at e6 h6
    have pk : lk <+: Q6.rows (st.lg l) := by
      have h := x.iv.ok.kv
      rw [← k5] at h
      have h2 : kept <+: Q6.rows (st.lg l) := by
        rw [h, rows_take]
        exact List.take_prefix _ _
      exact x.pre.trans h2
    have r6 : Rs H6 (ys.take rs.length) lk := by
      have := paired_take rs.length (Rs.ex rs5 e6)
      rw [l2, ← List.prefix_iff_eq_take.mp pk] at this
      rw [l2]
      exact this
    refine ⟨_, rfl, _, _, .lst (SqL.of h6) r6.dp, .lst (SqL.of (e6 _ _ x5.hk)) (x5.rs.ex e6).dp, sh_rD _, sh_rD _, _, rfl, ?_⟩
    rw [eqv_rD]
    exact ifF (by simp) (fin H6 (e02.trans (e5.trans e6)))
end
end K6
set_option Elab.async false
set_option linter.all false
set_option maxRecDepth 100000
set_option maxHeartbeats 4000000
namespace K6
open PySem PySem.Spec PyProof.Rows L2 KB KC KD KS LamX R8 Q6
section
variable {P : Program} {w : World} {K : PySem.W.Frag} {mg : Str → Option Value} {base : Heap} {CR CC CE Pd Pl cL fTo fL : Addr} {fdTo : FuncData} {A : Around} {outer : List PySem.Env} {s : Shared} {H0 : Hp} {E0' : XK}
theorem lead_5 (ve : LawE P w K mg base CR CC CE Pd Pl cL fTo fdTo) (hr : Room 13 (xLaw P w K mg base fL cL A outer s H0 E0').A) :
    ∃ t, PS (xLaw P w K mg base fL cL A outer s H0 E0') (ldBody.getD 5 pass0') t ∧ ∀ (D : Ends) (a0 a6 a7 a9 a10 a11 a13 a14 a15 a16 a17 : Option V) (H : Hp) (ns : List Str) (least : Int) (d p g dc kl ow ok ou na ke : Addr) (ca la : Str → Addr) (st : Rp Str) (ups : List Str) (count : Nat) (G : Int → Lg) (kept lk : List Int) (rs : List V) (stp : Nat) (l : Str),
      Ls CR CC Pd Pl ns least d p g dc kl ow ok ou na ke ca la st ups count G kept lk rs stp H → st.leader = some l →
      (∀ H', Ex H H' → D.nx [a0, some (.ref d), some (.ref na), some (.int least), some (.ref ke), some (.ref ow), a6, a7, some (.ref (ca l)), a9, a10, a11, some (.ref g), a13, a14, a15, a16, a17] H') →
      t D [a0, some (.ref d), some (.ref na), some (.int least), some (.ref ke), some (.ref ow), a6, a7, some (.ref (ca l)), a9, a10, a11, some (.ref g), a13, a14, a15, a16, a17] H := by
  have hu := hr.units
  obtain ⟨f1, fd1, G1, m1, b1⟩ := ve.kept
  refine ⟨_, ps_if (pt_cmpR (op_neD hu) (pe_lc (own := [("place", 16)]) (g := gName 16) (tt := tTest (tOp rNe (tMeth CR "is_kept" (spKept CR CC CE) [] E0 (tVar 12) (tCons (tVar 16) tNil)) (tOp (rI0 fun i j => V.bl (decide (i < j))) (tVar 16) (tFld K (tVar 8) "firm")))) (te := tVar 16) rfl scLaw.nd (pi_range1 (by rfl) ve.T.range (pa_cons (pe_op op_add (pe_callB call_len_seq (by rfl) ve.T.len PySem.boot_len (pa_cons (pf 8) pa_nil)) pe_int) pa_nil)) (blkOk_by (N := nLaw) (sc := defScope sLaw) (by decide +kernel))
      (fun _ _ _ _ _ => pg_name (i := 16) scLaw.nd rfl (Or.inl rfl)) (fun _ _ _ _ _ => pts_one (pt_cmpR op_ne (pe_meth (CX := L2.CX P w) (pv 12) ve.B.cl m1 G1 (hr.mono (by decide)) b1 .nil passL (pa_cons (pv 16) pa_nil)) (pe_cmpR op_lt (pv 16) (pf 8) (nomark _)) (nomark _))) (fun _ _ _ _ _ => pv 16)) (pe_lst pa_nil) (nomark _)) (pss_one (ps_ret pe_bl)) pss_nil, ?_⟩
  intro D a0 a6 a7 a9 a10 a11 a13 a14 a15 a16 a17 H ns least d p g dc kl ow ok ou na ke ca la st ups count G kept lk rs stp l x e fin
  have hln := x.ds.grp.ln l e
  obtain ⟨dl, hcl⟩ := (x.ds.grp.cp l hln).o
  obtain ⟨us, hus, hes⟩ := (x.ds.grp.cp l hln).r
  have l1 := paired_len hes
  have l9 := x.ds.grp.lt l hln
  refine ⟨_, rfl, ca l, CC, dl, _, _, rfl, hcl, ve.BC.cl, ve.BC.nR, rfl, la l, _, rfl, .inl (SqL.of hus), _, _, rfl, rfl, ?_⟩
  have hn : (((us.map V.ref).length : Int) + 2).toNat = (st.lg l).length + 2 := by rw [List.length_map, l1]; omega
  refine ⟨_, rfl, by rw [List.length_map, l1]; omega, by rw [List.length_map, l1]; omega, fun D1 hD1 => ?_⟩
  refine lcG walk_range RInt (fun _ => none) RInt.stab hD1 (by rw [hn]; omega) (fun _ _ => trivial) (fun i H5 x H6 _ _ h => yfn_ex h) (fun j v H5 H6 R0 N0 hj e5 hy hno hsm => ?_) (fun H5 xs e5 hx5 hps => ?_)
  · obtain ⟨rfl, rfl⟩ := hy
    have x5 := x.ex e5
    obtain ⟨dx, ho⟩ := x5.ds.grp.o
    refine ⟨rfl, _, rfl, g, dx, _, rfl, ho, gF_m (by decide +kernel) (by decide +kernel) (by decide +kernel) (by decide +kernel) (by decide +kernel), _, rfl, kept_step x5.ds.grp (fun z => by rw [e] at z; cases z) fun l' hl' => ?_⟩
    obtain rfl : l' = l := by rw [e] at hl'; exact (Option.some.inj hl').symm
    refine ⟨_, rfl, _, rfl, ca l', CC, dl, _, _, rfl, e5 _ _ hcl, ve.BC.cl, ve.BC.nF, rfl, _, _, rfl, rfl, rfl, _, rfl, ?_⟩
    exact ifF (by simp) (hno rfl _ (Ex.refl _))
  · have en : ∀ zs : List Nat, zs.filterMap (fun _ => (none : Option Int)) = [] := fun zs => by
      induction zs with
      | nil => rfl
      | cons a r ih => exact ih
    rw [en] at hps
    cases hps
    refine ⟨(by show 0 ≤ sizeLine; decide), fun q hq => ?_⟩
    have h6 : (upd H5 q (.lst [])) q = some (.lst []) := upd_same
    refine ⟨.list [], .list [], .lst (SqL.of (Ex.upd hq _ _ hx5)) .nil, .lst (SqL.of h6) .nil, rfl, rfl, _, rfl, ifF (by decide) ?_⟩
    exact fin _ (e5.trans (Ex.upd hq))
end
end K6
set_option Elab.async false
set_option linter.all false
set_option maxRecDepth 100000
set_option maxHeartbeats 4000000
namespace K6
open PySem PySem.Spec PyProof.Rows L2 KB KC KD KS LamX R8 Q6
section
variable {P : Program} {w : World} {K : PySem.W.Frag} {mg : Str → Option Value} {base : Heap} {CR CC CE Pd Pl cL fTo fL : Addr} {fdTo : FuncData} {A : Around} {outer : List PySem.Env} {s : Shared} {H0 : Hp} {E0' : XK}
theorem lead_4 (ve : LawE P w K mg base CR CC CE Pd Pl cL fTo fdTo) (hr : Room 13 (xLaw P w K mg base fL cL A outer s H0 E0').A) :
    ∃ t, PS (xLaw P w K mg base fL cL A outer s H0 E0') (ldBody.getD 4 pass0') t ∧ ∀ (D : Ends) (a0 a6 a10 a11 a13 a14 a15 a16 a17 : Option V) (H : Hp) (ns : List Str) (least : Int) (d p g dc kl ow ok ou na ke rw : Addr) (ca la : Str → Addr) (st : Rp Str) (ups : List Str) (count : Nat) (G : Int → Lg) (kept lk : List Int) (rs xs : List V) (stp : Nat) (l : Str),
      Ls CR CC Pd Pl ns least d p g dc kl ow ok ou na ke ca la st ups count G kept lk rs stp H → st.leader = some l → H rw = some (.lst xs) → Rs H xs kept →
      (∀ H', Ex H H' → D.nx [a0, some (.ref d), some (.ref na), some (.int least), some (.ref ke), some (.ref ow), a6, some (.str l), some (.ref (ca l)), some (.ref rw), a10, a11, some (.ref g), a13, a14, a15, a16, a17] H') →
      t D [a0, some (.ref d), some (.ref na), some (.int least), some (.ref ke), some (.ref ow), a6, some (.str l), some (.ref (ca l)), some (.ref rw), a10, a11, some (.ref g), a13, a14, a15, a16, a17] H := by
  have hu := hr.units
  have hu1 := Nat.lt_trans (Nat.add_lt_add_left (by decide : 1 < 64) _) hu
  refine ⟨_, ps_if (PW.pt (pw_and (pt_cmpR op_eq (pv 7) (pf 12) (nomark _)) (pw_and1 (pt_cmpR (op_neD hu)
    (pe_lc (own := [("one", 15)]) (g := gName 15) (tt := tTest (tOp (rNeD K) (tSl (rSlL K) (tLc (iList K (tFld K (tDGet (tFld K (tVar 12) "copies") (tVar 15)) "records")) (gTup K 2 (gCons (gName 13) (gCons (gName 14) gNil))) tYes (tVar 14) [13, 14]) tNoPart (tPart (tFld K (tVar 8) "firm"))) (tVar 9))) (te := tVar 15) rfl scLaw.nd (pi_list (pe_dget hu1 (pv 5) pe_str (fun _ _ => rfl))) (blkOk_by (N := nLaw) (sc := defScope sLaw) (by decide +kernel))
      (fun _ _ _ _ _ => pg_name (i := 15) scLaw.nd rfl (Or.inl rfl))
      (fun _ _ _ _ _ => pts_one (pt_cmpR (op_neD hu) (pe_slice sl_list (pe_lc (own := [("time", 13), ("row", 14)]) (g := gTup K 2 (gCons (gName 13) (gCons (gName 14) gNil))) (tt := tYes) (te := tVar 14) rfl scLaw.nd (pi_list (pe_fld (pe_dget hu1 (pf 12) (pv 15) (fun _ _ => rfl)) (by rfl))) (blkOk_by (by rfl))
          (fun _ _ _ _ _ => pg_tup rfl (pgs_cons (pg_name (i := 13) scLaw.nd rfl (Or.inl rfl)) (pgs_cons (pg_name (i := 14) scLaw.nd rfl (Or.inl rfl)) pgs_nil))) (fun _ _ _ _ _ => pts_nil) (fun _ _ _ _ _ => pv 14)) po_none (po_some (pf 8))) (pv 9) (nomark _)))
      (fun _ _ _ _ _ => pv 15)) (pe_lst pa_nil) (nomark _))))) (pss_one (ps_ret pe_bl)) pss_nil, ?_⟩
  intro D a0 a6 a10 a11 a13 a14 a15 a16 a17 H ns least d p g dc kl ow ok ou na ke rw ca la st ups count G kept lk rs xs stp l x e hrw hrs fin
  have hk9 := x.ds.grp.k9
  obtain ⟨k3, k4, k5, k6⟩ := x.iv.ok.ld l e
  have hln := x.ds.grp.ln l e
  obtain ⟨dx, ho⟩ := x.ds.grp.o
  have o3 : DGet H ow (.str "keeping") (some (.ref ok)) := DGet.k (k := Sum.inr "keeping") x.ds.own.o
  refine ⟨_, rfl, _, rfl, g, CR, dx, _, _, rfl, ho, ve.B.cl, ve.B.nL, rfl, by rw [e]; rfl, _, rfl, ?_⟩
  refine ifT (by rw [e]; simp [ldV]) ⟨_, rfl, ow, _, rfl, o3, ok, rfl, ⟨_, SqL.of x.ds.own.k⟩, fun D1 hD1 => ?_⟩
  refine lcG walk_list RStr (fun _ => none) RStr.stab hD1 (by rw [List.length_map]; omega) (fun H5 e5 => SqL.of (e5 _ _ x.ds.own.k)) (fun i H5 y H6 _ _ h => yat_ex h) (fun j v H5 H6 R0 N0 hj e5 hy hno hsm => ?_) (fun H5 xs5 e5 hx5 hps => ?_)
  · obtain ⟨rfl, hxi⟩ := hy
    rw [List.getElem?_map] at hxi
    obtain ⟨m, hm, rfl⟩ := Option.map_eq_some_iff.mp hxi
    have hmk := List.mem_of_getElem? hm
    have hmn := x.ds.grp.kn m hmk
    have x5 := x.ex e5
    obtain ⟨dx5, ho5⟩ := x5.ds.grp.o
    obtain ⟨dm, hcm⟩ := (x5.ds.grp.cp m hmn).o
    obtain ⟨us, hus, hes⟩ := (x5.ds.grp.cp m hmn).r
    obtain ⟨dl, hcl⟩ := (x5.ds.grp.cp l hln).o
    have l3 := paired_len hes
    have l9 := x5.ds.grp.lt m hmn
    refine ⟨rfl, _, rfl, g, CR, dx5, _, _, rfl, ho5, ve.B.cl, ve.B.nC, rfl, _, rfl, dc, _, rfl, x5.ds.grp.get hmn, ca m, CC, dm, _, _, rfl, hcm, ve.BC.cl, ve.BC.nR, rfl, la m, rfl, ⟨_, SqL.of hus⟩, fun D2 hD2 => ?_⟩
    refine lcG walk_list RRow (fun j => (st.lg m)[j]?) RRow.stab hD2 (by rw [List.length_map, l3]; omega) (fun H7 e7 => SqL.of (e7 _ _ hus)) (fun i H7 y H8 _ _ h => yat_ex h) (fun j' v' H7 H8 R1 N1 hj' e7 hy' hno' hsm' => ?_) (fun H7 ys e7 hx7 hps7 => ?_)
    · obtain ⟨rfl, hxi'⟩ := hy'
      rw [List.getElem?_map] at hxi'
      obtain ⟨t, ht, rfl⟩ := Option.map_eq_some_iff.mp hxi'
      obtain ⟨e', r, he, h3, h4⟩ := hes.at2 ht
      refine ⟨t, _, rfl, SqT.of (e7 _ _ h3), rfl, _, _, rfl, _, _, rfl, rfl, rfl, _, rfl, ?_⟩
      exact hsm' e' he _ _ (Ex.refl _) ⟨r, rfl, e7 _ _ h4⟩
    · rw [List.length_map, l3, range_some] at hps7
      have rs7 := Es.rows hps7
      refine ⟨_, rfl, ca l, CC, dl, _, _, rfl, e7 _ _ hcl, ve.BC.cl, ve.BC.nF, rfl, _, rfl, D2, _, rfl, SqL.of hx7, fun q hq => ?_⟩
      rw [cutV_take]
      have e8 : Ex H7 (upd H7 q (.lst (ys.take (st.firm l)))) := Ex.upd hq
      have h8 : (upd H7 q (.lst (ys.take (st.firm l)))) q = some (.lst (ys.take (st.firm l))) := upd_same
      generalize upd H7 q (.lst (ys.take (st.firm l))) = H8 at e8 h8
      have ek : (Q6.rows (st.lg m)).take (st.firm l) = kept := by
        rw [k6, ← rows_take, pre_take (x.iv.ok.kp m hmk) (x.iv.ok.kk m hmk)]
        exact x.iv.ok.kv.symm
      have r8 : Rs H8 (ys.take (st.firm l)) kept := by
        have := paired_take (st.firm l) (Rs.ex rs7 e8)
        rw [ek] at this
        exact this
      have rr : Rs H8 xs kept := hrs.ex ((e5.trans e7).trans e8)
      refine ⟨_, rfl, _, _, .lst (SqL.of h8) r8.dp, .lst (SqL.of (e8 _ _ (e7 _ _ (e5 _ _ hrw)))) rr.dp, sh_rD _, sh_rD _, _, rfl, ?_⟩
      rw [eqv_rD]
      exact ifF (by simp) (hno rfl _ (e7.trans e8))
  · have en : ∀ zs : List Nat, zs.filterMap (fun _ => (none : Option Str)) = [] := fun zs => by
      induction zs with
      | nil => rfl
      | cons a r ih => exact ih
    rw [en] at hps
    cases hps
    refine ⟨(by show 0 ≤ sizeLine; decide), fun q hq => ?_⟩
    have h6 : (upd H5 q (.lst [])) q = some (.lst []) := upd_same
    refine ⟨.list [], .list [], .lst (SqL.of (Ex.upd hq _ _ hx5)) .nil, .lst (SqL.of h6) .nil, rfl, rfl, _, rfl, ifF (by decide) ?_⟩
    exact fin _ (e5.trans (Ex.upd hq))
end
end K6
set_option Elab.async false
set_option linter.all false
set_option maxRecDepth 100000
set_option maxHeartbeats 4000000
namespace K6
open PySem PySem.Spec PyProof.Rows L2 KB KC KD KS LamX R8 Q6
theorem Ls.lam {CR CC Pd Pl : Addr} {ns : List Str} {least : Int} {d p g dc kl ow ok ou na ke : Addr} {ca la : Str → Addr} {st : Rp Str} {ups : List Str} {count : Nat} {G : Int → Lg} {kept lk : List Int} {rs : List V} {stp : Nat} {H H' : Hp} (x : Ls CR CC Pd Pl ns least d p g dc kl ow ok ou na ke ca la st ups count G kept lk rs stp H) (e : ExtN H H') (t : Tabs (TT Pd Pl) H') : Ls CR CC Pd Pl ns least d p g dc kl ow ok ou na ke ca la st ups count G kept lk rs stp H' :=
  ⟨x.ds.lam e t, x.iv, x.lt, e _ _ x.hp (fun _ z => nomatch z), x.pd, x.pl, e _ _ x.hk (fun _ z => nomatch z), x.rs.kt (fun b xs h => e _ _ h (fun _ z => nomatch z)), x.kd, x.kla, x.pre, x.nn⟩
section
variable {P : Program} {w : World} {K : PySem.W.Frag} {mg : Str → Option Value} {base : Heap} {CR CC CE Pd Pl cL fTo fL : Addr} {fdTo : FuncData} {A : Around} {outer : List PySem.Env} {s : Shared} {H0 : Hp} {E0' : XK}
theorem lam_toldL (ve : LawE P w K mg base CR CC CE Pd Pl cL fTo fdTo) (hr : Room 13 (xLaw P w K mg base fL cL A outer s H0 E0').A) {params : Arguments} {body : Expr} {scope : Scope} {t : XK → TE} {p lpos pos : Pos} (L : LamS (defScope sLaw) scope) (hdef : defaultsOf params (xLaw P w K mg base fL cL A outer s H0 E0').env = ([], []))
    (hbind : ∀ (q : Str) (cl : List (Str × Addr)) (pm cv ctv : Value), bindArgs (PySem.W.kla_fn "<lambda>" q params body scope cl pm cv ctv) ⟨[], []⟩ = pure [])
    (hbody : ∀ (A' : Around) (outer' : List Env) (s' : Shared) (H : Hp) (E : XK) (f c' : Addr), Room 9 (A'.deeper (lamEnv (xLaw P w K mg base fL cL A outer s H0 E0') scope s'.heap.objs.size f c')) → PE (lamCx (xLaw P w K mg base fL cL A outer s H0 E0') A' outer' s' H E scope f c') body (t E)) :
    PE (xLaw P w K mg base fL cL A outer s H0 E0') (.Call (.Name "_law_told" p) [.Lambda params body scope lpos] [] pos) (tLam (TT Pd Pl) (TTold K CE "LogError") t) := by
  obtain ⟨oc, od, dV, kV, doc, pm, an, cdv, ct, osl, rfl, lk, hcd, _, _⟩ := ve.told.ex
  have bT := ve.told.bindsN (ps := ["what"]) fun _ _ _ _ _ _ us hl => match us, hl with | [_], _ => rfl
  exact pe_lamcall (T := TT Pd Pl) (P := Pl) (c := cL) (k := 9) (by rfl) ve.gTold ve.told.kp lk hcd bT scTold rfl (Or.inl rfl)
      (told_gives (by rfl) ve.J.g (by decide +kernel) (fun f => rfl)) ve.TBl rfl
      (show (Pl, (Str.ofString "law" ++ Str.ofString ".<locals>.") ++ Str.ofString "<lambda>") ∈ TT Pd Pl by rw [qLaw]; exact List.mem_cons_of_mem _ (List.mem_cons_self ..))
      (show ∀ p ∈ TT Pd Pl, p.1 = Pl → p.2 = (Str.ofString "law" ++ Str.ofString ".<locals>.") ++ Str.ofString "<lambda>" by
          rw [qLaw]
          intro p hp e
          rcases List.mem_cons.mp hp with z | h
          · rw [z] at e
            exact absurd e ve.ap
          · rcases List.mem_cons.mp h with z | h
            · rw [z]
            · cases h)
      (hr.mono (by decide)) L hdef hbind hbody
theorem none_0 (ve : LawE P w K mg base CR CC CE Pd Pl cL fTo fdTo) (hr : Room 13 (xLaw P w K mg base fL cL A outer s H0 E0').A) :
    ∃ t, PS (xLaw P w K mg base fL cL A outer s H0 E0') (ifElse (lBody.getD 3 pass0')) t ∧ ∀ (D : Ends) (a0 a1 a2 a3 a4 a5 a6 a7 a8 a9 a10 a11 a13 a14 a15 a16 a17 : Option V) (H : Hp) (ns : List Str) (least : Int) (d p g dc kl ow ok ou na ke : Addr) (ca la : Str → Addr) (st : Rp Str) (ups : List Str) (count : Nat) (G : Int → Lg) (kept lk : List Int) (rs : List V) (stp : Nat),
      Ls CR CC Pd Pl ns least d p g dc kl ow ok ou na ke ca la st ups count G kept lk rs stp H → st.leader = none →
      (∀ H', Ls CR CC Pd Pl ns least d p g dc kl ow ok ou na ke ca la st ups count G kept lk rs stp H' → D.nx [a0, a1, a2, a3, a4, a5, a6, a7, a8, a9, a10, a11, some (.ref g), a13, a14, a15, a16, a17] H') →
      t D [a0, a1, a2, a3, a4, a5, a6, a7, a8, a9, a10, a11, some (.ref g), a13, a14, a15, a16, a17] H := by
  obtain ⟨f1, fd1, G1, m1, b1⟩ := ve.kept
  refine ⟨_, ps_if (pt_cmpR op_ne (lam_toldL ve hr (lamS_by (by show lamSB (defScope sLaw) _ = true; decide +kernel)) rfl (fun _ _ _ _ _ => rfl)
        (fun A outer s H E f c' hr' => pe_meth (pv 12) ve.B.cl m1 G1 (hr'.mono (by decide)) b1 .nil (passes_call (takes_of rfl rfl rfl rfl) (fun _ _ _ _ h => h)) (pa_cons pe_int pa_nil))) pe_str (nomark _)) (pss_one (ps_ret pe_bl)) pss_nil, ?_⟩
  intro D a0 a1 a2 a3 a4 a5 a6 a7 a8 a9 a10 a11 a13 a14 a15 a16 a17 H ns least d p g dc kl ow ok ou na ke ca la st ups count G kept lk rs stp x e fin
  refine ⟨x.ds.tabs, fun H1 e1 t1 => ?_⟩
  have x1 := x.lam e1 t1
  obtain ⟨dx, ho⟩ := x1.ds.grp.o
  refine ⟨_, rfl, g, dx, _, rfl, ho, gF_m (by decide +kernel) (by decide +kernel) (by decide +kernel) (by decide +kernel) (by decide +kernel), kept_step x1.ds.grp (fun _ => ⟨true, ve.J.e, fun _ => ?_, fun z => nomatch z⟩) (fun l hl => by rw [e] at hl; cases hl)⟩
  exact ⟨rfl, _, rfl, ifF (by simp) (fin H1 x1)⟩
end
end K6
set_option Elab.async false
set_option linter.all false
set_option maxRecDepth 100000
set_option maxHeartbeats 4000000
namespace K6
open PySem PySem.Spec PyProof.Rows L2 KB KC KD KS LamX R8 Q6
section
variable {P : Program} {w : World} {K : PySem.W.Frag} {mg : Str → Option Value} {base : Heap} {CR CC CE Pd Pl cL fTo fL : Addr} {fdTo : FuncData} {A : Around} {outer : List PySem.Env} {s : Shared} {H0 : Hp} {E0' : XK}
theorem step_4 (ve : LawE P w K mg base CR CC CE Pd Pl cL fTo fdTo) (hr : Room 13 (xLaw P w K mg base fL cL A outer s H0 E0').A) :
    ∃ t, PS (xLaw P w K mg base fL cL A outer s H0 E0') (lBody.getD 4 pass0') t ∧ ∀ (D : Ends) (a0 a1 a3 a6 a7 a8 a9 a10 a11 a13 a14 a15 a16 a17 : Option V) (H : Hp) (ns : List Str) (least : Int) (d p g dc kl ow ok ou na ke : Addr) (ca la : Str → Addr) (st : Rp Str) (ups : List Str) (count : Nat) (G : Int → Lg) (kept : List Int) (rs : List V) (stp : Nat),
      Ls CR CC Pd Pl ns least d p g dc kl ow ok ou na ke ca la st ups count G kept kept rs stp H →
      (∀ H', Ls CR CC Pd Pl ns least d p g dc kl ow ok ou na ke ca la st ups count G kept kept rs stp H' → D.nx [a0, a1, some (.ref na), a3, some (.ref ke), some (.ref ow), a6, a7, a8, a9, a10, a11, some (.ref g), a13, a14, a15, a16, a17] H') →
      t D [a0, a1, some (.ref na), a3, some (.ref ke), some (.ref ow), a6, a7, a8, a9, a10, a11, some (.ref g), a13, a14, a15, a16, a17] H := by
  have hu := hr.units
  have hu1 := Nat.lt_trans (Nat.add_lt_add_left (by decide : 1 < 64) _) hu
  obtain ⟨f1, fd1, G1, g1, k1, b1⟩ := ve.firm
  obtain ⟨f2, fd2, G2, m2, b2⟩ := ve.read
  refine ⟨_, ps_if (PW.pt (pw_or (pt_not (pt_truth (pe_call G1 (hr.mono (by decide)) (by rfl) g1 k1 b1 .nil pass0 (pa_cons (pf 12) (pa_cons (pv 4) pa_nil))) (fun _ => rfl)))
    (pw_or (pt_cmpR (op_neD hu) (pe_lc (own := [("one", 15)]) (g := gName 15) (tt := tTest (tOp (rNeD K) (tCB (fun xs H Q => ∃ p ys, xs = [.ref p] ∧ (SqL K H p ys ∨ SqT K H p ys) ∧ ∀ l, H l = none → Q (.ref l) (upd H l (.lst ys))) (tCons (tMeth CR "read" (spRead CR CC CE) [] E0 (tVar 12) (tCons (tVar 15) (tCons (tC (.int 0)) tNil))) tNil)) (tSl (rSlL K) (tVar 4) tNoPart (tPart (tFld K (tDGet (tFld K (tVar 12) "copies") (tVar 15)) "firm"))))) (te := tVar 15) rfl scLaw.nd (pi_list (pv 2)) (blkOk_by (N := nLaw) (sc := defScope sLaw) (by decide +kernel))
      (fun _ _ _ _ _ => pg_name (i := 15) scLaw.nd rfl (Or.inl rfl))
      (fun _ _ _ _ _ => pts_one (pt_cmpR (op_neD hu) (pe_callTy call_list_of (by rfl) ve.T.list (by decide +kernel) (pa_cons (pe_meth (CX := L2.CX P w) (pv 12) ve.B.cl m2 G2 (hr.mono (by decide)) b2 .nil passL (pa_cons (pv 15) (pa_cons pe_int pa_nil))) pa_nil)) (pe_slice sl_list (pv 4) po_none (po_some (pe_fld (pe_dget hu1 (pf 12) (pv 15) (fun _ _ => rfl)) (by rfl)))) (nomark _)))
      (fun _ _ _ _ _ => pv 15)) (pe_lst pa_nil) (nomark _))
    (pw_or1 (pt_cmpR op_lt (pe_dget hu1 (pv 5) pe_str (fun _ _ => rfl)) (pe_callB call_len_seq (by rfl) ve.T.len PySem.boot_len (pa_cons (pv 4) pa_nil)) (nomark _)))))) (pss_one (ps_ret pe_bl)) pss_nil, ?_⟩
  intro D a0 a1 a3 a6 a7 a8 a9 a10 a11 a13 a14 a15 a16 a17 H ns least d p g dc kl ow ok ou na ke ca la st ups count G kept rs stp x fin
  obtain ⟨dx, ho⟩ := x.ds.grp.o
  have n9 := x.ds.grp.n9
  have lk : rs.length = kept.length := paired_len x.rs
  have kc : kept.length ≤ count := Nat.le_trans x.iv.ok.klen x.iv.ok.ct
  have k9 : kept.length ≤ 900 := by
    obtain ⟨m, hm⟩ := List.exists_mem_of_ne_nil _ x.iv.ok.k0
    exact Nat.le_trans (x.iv.ok.kk m hm) (x.ds.grp.lt m (x.ds.grp.kn m hm))
  refine ⟨_, rfl, g, CR, dx, _, _, rfl, ho, ve.B.cl, ve.B.nC, rfl, _, rfl, lfirm_step x.ds.grp.d ⟨x.ds.grp.cp, x.ds.grp.lt⟩ x.hk x.rs n9 k9 (fun n hn => ⟨(x.iv.ok.fm n hn).2.1, (x.iv.ok.fm n hn).2.2⟩) fun H1 e1 => ?_⟩
  refine ⟨_, rfl, ifF (by simp) ?_⟩
  have x1 := x.ex e1
  refine ⟨_, rfl, na, rfl, ⟨_, SqL.of x1.ds.hna⟩, fun D1 hD1 => ?_⟩
  refine lcG walk_list RStr (fun _ => none) RStr.stab hD1 (by rw [List.length_map]; omega) (fun H5 e5 => SqL.of (e5 _ _ x1.ds.hna)) (fun i H5 y H6 _ _ h => yat_ex h) (fun j v H5 H6 R0 N0 hj e5 hy hno hsm => ?_) (fun H5 xs5 e5 hx5 hps => ?_)
  · obtain ⟨rfl, hxi⟩ := hy
    rw [List.getElem?_map] at hxi
    obtain ⟨m, hm, rfl⟩ := Option.map_eq_some_iff.mp hxi
    have hmn := List.mem_of_getElem? hm
    have x5 := x1.ex e5
    obtain ⟨dx5, ho5⟩ := x5.ds.grp.o
    refine ⟨rfl, _, rfl, g, dx5, _, rfl, ho5, gF_m (by decide +kernel) (by decide +kernel) (by decide +kernel) (by decide +kernel) (by decide +kernel), _, rfl, read_step x5.ds.grp (x5.ds.grp.ns m hmn).1 (fun z => absurd hmn z) fun _ H7 q us e7 hq hps7 => ?_⟩
    have r7 : Rs H7 us (kept.take (st.firm m)) := by
      have := Es.rows hps7
      have hz : (0 : Int).toNat = 0 := rfl
      rw [hz, List.drop_zero, Nat.sub_zero, (x.iv.ok.fm m hmn).2.2] at this
      exact this
    refine ⟨q, _, rfl, .inr (SqT.of hq), fun l8 hl8 => ?_⟩
    have e8 : Ex H7 (upd H7 l8 (.lst us)) := Ex.upd hl8
    have h8 : (upd H7 l8 (.lst us)) l8 = some (.lst us) := upd_same
    generalize upd H7 l8 (.lst us) = H8 at e8 h8
    have x8 := x5.ex (e7.trans e8)
    obtain ⟨dx8, ho8⟩ := x8.ds.grp.o
    obtain ⟨dm, hcm⟩ := (x8.ds.grp.cp m hmn).o
    refine ⟨_, rfl, _, rfl, g, CR, dx8, _, _, rfl, ho8, ve.B.cl, ve.B.nC, rfl, _, rfl, dc, _, rfl, x8.ds.grp.get hmn, ca m, CC, dm, _, _, rfl, hcm, ve.BC.cl, ve.BC.nF, rfl, _, rfl, ke, _, rfl, SqL.of x8.hk, fun q9 hq9 => ?_⟩
    rw [cutV_take]
    have e9 : Ex H8 (upd H8 q9 (.lst (rs.take (st.firm m)))) := Ex.upd hq9
    have h9 : (upd H8 q9 (.lst (rs.take (st.firm m)))) q9 = some (.lst (rs.take (st.firm m))) := upd_same
    generalize upd H8 q9 (.lst (rs.take (st.firm m))) = H9 at e9 h9
    refine ⟨_, _, .lst (SqL.of (e9 _ _ h8)) (Rs.dp (Rs.ex (Rs.ex r7 e8) e9)), .lst (SqL.of h9) (Rs.dp (paired_take (st.firm m) (Rs.ex x8.rs e9))), sh_rD _, sh_rD _, _, rfl, ?_⟩
    rw [eqv_rD]
    exact ifF (by simp) (hno rfl _ ((e7.trans e8).trans e9))
  · have en : ∀ zs : List Nat, zs.filterMap (fun _ => (none : Option Str)) = [] := fun zs => by
      induction zs with
      | nil => rfl
      | cons a r ih => exact ih
    rw [en] at hps
    cases hps
    refine ⟨(by show 0 ≤ sizeLine; decide), fun q hq => ?_⟩
    have h6 : (upd H5 q (.lst [])) q = some (.lst []) := upd_same
    refine ⟨.list [], .list [], .lst (SqL.of (Ex.upd hq _ _ hx5)) .nil, .lst (SqL.of h6) .nil, rfl, rfl, _, rfl, ifF (by decide) ?_⟩
    have x6 := x1.ex (e5.trans (Ex.upd (o := .lst []) hq))
    have o5 : DGet (upd H5 q (.lst [])) ow (.str "count") (some (.int (count : Int))) := DGet.k (k := Sum.inr "count") x6.ds.own.o
    refine ⟨_, rfl, ow, _, rfl, o5, _, rfl, ke, _, rfl, .inl (SqL.of x6.hk), _, _, rfl, rfl, _, rfl, ifF (by rw [lk]; simp; omega) ?_⟩
    exact fin _ x6
end
end K6
set_option Elab.async false
set_option linter.all false
set_option maxRecDepth 100000
set_option maxHeartbeats 4000000
namespace K6
open PySem PySem.Spec PyProof.Rows L2 KB KC KD KS LamX R8 Q6
section
variable {P : Program} {w : World} {K : PySem.W.Frag} {mg : Str → Option Value} {base : Heap} {CR CC CE Pd Pl cL fTo fL : Addr} {fdTo : FuncData} {A : Around} {outer : List PySem.Env} {s : Shared} {H0 : Hp} {E0' : XK}
theorem step_3 (ve : LawE P w K mg base CR CC CE Pd Pl cL fTo fdTo) (hr : Room 13 (xLaw P w K mg base fL cL A outer s H0 E0').A) :
    ∃ t, PS (xLaw P w K mg base fL cL A outer s H0 E0') (lBody.getD 3 pass0') t ∧ ∀ (D : Ends) (a0 a6 a8 a9 a10 a11 a13 a14 a15 a16 a17 : Option V) (H : Hp) (ns : List Str) (least : Int) (d p g dc kl ow ok ou na ke : Addr) (ca la : Str → Addr) (st : Rp Str) (ups : List Str) (count : Nat) (G : Int → Lg) (kept lk : List Int) (rs : List V) (stp : Nat),
      Ls CR CC Pd Pl ns least d p g dc kl ow ok ou na ke ca la st ups count G kept lk rs stp H → stp ≤ 91 →
      (∀ H' ke' rs' a8' a9', Ls CR CC Pd Pl ns least d p g dc kl ow ok ou na ke' ca la st ups count G kept kept rs' stp H' → D.nx [a0, some (.ref d), some (.ref na), some (.int least), some (.ref ke'), some (.ref ow), a6, some (ldV st.leader), a8', a9', a10, a11, some (.ref g), a13, a14, a15, a16, a17] H') →
      t D [a0, some (.ref d), some (.ref na), some (.int least), some (.ref ke), some (.ref ow), a6, some (ldV st.leader), a8, a9, a10, a11, some (.ref g), a13, a14, a15, a16, a17] H := by
  obtain ⟨t0, d0, q0⟩ := lead_0 (fL := fL) (A := A) (outer := outer) (s := s) (H0 := H0) (E0' := E0') ve hr
  obtain ⟨t1, d1, q1⟩ := lead_1 (fL := fL) (A := A) (outer := outer) (s := s) (H0 := H0) (E0' := E0') ve hr
  obtain ⟨t2, d2, q2⟩ := lead_2 (fL := fL) (A := A) (outer := outer) (s := s) (H0 := H0) (E0' := E0') ve hr
  obtain ⟨t3, d3, q3⟩ := lead_3 (fL := fL) (A := A) (outer := outer) (s := s) (H0 := H0) (E0' := E0') ve hr
  obtain ⟨t4, d4, q4⟩ := lead_4 (fL := fL) (A := A) (outer := outer) (s := s) (H0 := H0) (E0' := E0') ve hr
  obtain ⟨t5, d5, q5⟩ := lead_5 (fL := fL) (A := A) (outer := outer) (s := s) (H0 := H0) (E0' := E0') ve hr
  obtain ⟨tn, dn, qn⟩ := none_0 (fL := fL) (A := A) (outer := outer) (s := s) (H0 := H0) (E0' := E0') ve hr
  have dA : PSs (xLaw P w K mg base fL cL A outer s H0 E0') ldBody _ := pss_cons d0 (pss_cons d1 (pss_cons d2 (pss_cons d3 (pss_cons d4 (pss_one d5)))))
  have dB : PSs (xLaw P w K mg base fL cL A outer s H0 E0') [ifElse (lBody.getD 3 pass0')] _ := pss_one dn
  refine ⟨_, ps_if (pt_cmp (pc_notN (pv 7))) dA dB, ?_⟩
  intro D a0 a6 a8 a9 a10 a11 a13 a14 a15 a16 a17 H ns least d p g dc kl ow ok ou na ke ca la st ups count G kept lk rs stp x hst fin
  refine ⟨_, rfl, _, rfl, ?_⟩
  rw [ldV_non]
  cases e : st.leader with
  | none =>
    refine ifF (by simp) ?_
    refine qn _ _ _ _ _ _ _ _ _ _ _ _ _ _ _ _ _ _ H ns least d p g dc kl ow ok ou na ke ca la st ups count G kept lk rs stp x e fun H' x' => ?_
    have ek := x'.nn e
    have x2 := x'
    rw [← ek] at x2
    have := fin H' ke rs a8 a9 x2
    rw [e] at this
    exact this
  | some l =>
    refine ifT (by simp) ?_
    refine q0 _ _ _ _ _ _ _ _ _ _ _ _ H ns least d p g dc kl ow ok ou na ke ca la st ups count G kept lk rs stp l x e ?_
    refine q1 _ _ _ _ _ _ _ _ _ _ _ H ns least d p g dc kl ow ok ou na ke ca la st ups count G kept lk rs stp l x e hst fun H1 rw xs x1 hrw hrs hn => ?_
    refine q2 _ _ _ _ _ _ _ _ _ _ _ H1 ns least d p g dc kl ow ok ou na ke rw ca la st ups count G kept lk rs xs stp l x1 e hrw hrs fun H2 e2 => ?_
    have n1 : rw ≠ d := fun z => by
      obtain ⟨i, j, k, hd⟩ := x.ds.dice
      rw [← z, hn] at hd
      cases hd
    have n2 : ∀ n ∈ ns, rw ≠ la n := fun n hnn z => by
      obtain ⟨us, h', _⟩ := (x.ds.grp.cp n hnn).r
      rw [← z, hn] at h'
      cases h'
    refine q3 _ _ _ _ _ _ _ _ _ _ _ _ H2 ns least d p g dc kl ow ok ou na ke rw ca la st ups count G kept lk rs xs stp (x1.ex e2) (e2 _ _ hrw) (hrs.ex e2) n1 n2 fun ke' rs' x3 => ?_
    refine q4 _ _ _ _ _ _ _ _ _ _ H2 ns least d p g dc kl ow ok ou na ke' rw ca la st ups count G kept kept rs' xs stp l x3 e (e2 _ _ hrw) (hrs.ex e2) fun H4 e4 => ?_
    refine q5 _ _ _ _ _ _ _ _ _ _ _ _ H4 ns least d p g dc kl ow ok ou na ke' ca la st ups count G kept kept rs' stp l (x3.ex e4) e fun H5 e5 => ?_
    have := fin H5 ke' rs' (some (.ref (ca l))) (some (.ref rw)) ((x3.ex e4).ex e5)
    rw [e] at this
    exact this
theorem law_4 (ve : LawE P w K mg base CR CC CE Pd Pl cL fTo fdTo) (hr : Room 13 (xLaw P w K mg base fL cL A outer s H0 E0').A) :
    ∃ t, PS (xLaw P w K mg base fL cL A outer s H0 E0') (law0.getD 4 pass0') t ∧ ∀ (D : Ends) (a0 a6 a7 a8 a9 a10 a11 a13 a14 a15 a16 a17 : Option V) (H : Hp) (ns : List Str) (least : Int) (d p g dc kl ow ok ou na ke : Addr) (ca la : Str → Addr) (st : Rp Str) (ups : List Str) (G : Int → Lg) (rs : List V),
      Ls CR CC Pd Pl ns least d p g dc kl ow ok ou na ke ca la st ups 0 G [] [] rs 0 H → NsOk ns →
      (∀ H' σ', Tabs (TT Pd Pl) H' → H' p = some (.lst [.ref d]) → σ'.length = 18 → D.nx σ' H') →
      t D [a0, some (.ref d), some (.ref na), some (.int least), some (.ref ke), some (.ref ow), a6, a7, a8, a9, a10, a11, some (.ref g), a13, a14, a15, a16, a17] H := by
  obtain ⟨f1, fd1, G1, g1, k1, b1⟩ := ve.roll
  obtain ⟨t0, d0, q0⟩ := step_0 (fL := fL) (A := A) (outer := outer) (s := s) (H0 := H0) (E0' := E0') ve hr
  obtain ⟨t1, d1, q1⟩ := step_1 (fL := fL) (A := A) (outer := outer) (s := s) (H0 := H0) (E0' := E0') ve hr
  obtain ⟨t2, d2, q2⟩ := step_2 (fL := fL) (A := A) (outer := outer) (s := s) (H0 := H0) (E0' := E0') ve hr
  obtain ⟨t3, d3, q3⟩ := step_3 (fL := fL) (A := A) (outer := outer) (s := s) (H0 := H0) (E0' := E0') ve hr
  obtain ⟨t4, d4, q4⟩ := step_4 (fL := fL) (A := A) (outer := outer) (s := s) (H0 := H0) (E0' := E0') ve hr
  have dBody : PSs (xLaw P w K mg base fL cL A outer s H0 E0') lBody _ := pss_cons d0 (pss_cons d1 (pss_cons d2 (pss_cons d3 (pss_one d4))))
  refine ⟨_, ps_for PassesOwn.never rfl (pi_range1 (by rfl) ve.T.range (pa_cons (pe_call G1 (hr.mono (by decide)) (by rfl) g1 k1 b1 .nil pass0 (pa_cons (pv 1) (pa_cons pe_int pa_nil))) pa_nil)) (pg_name (i := 6) scLaw.nd rfl (Or.inl rfl)) dBody, ?_⟩
  intro D a0 a6 a7 a8 a9 a10 a11 a13 a14 a15 a16 a17 H ns least d p g dc kl ow ok ou na ke ca la st ups G rs x hok fin
  refine ⟨_, rfl, roll_step x.ds.dice (by decide) (by decide) fun r H1 r0 r91 e i => ⟨r, rfl, by omega, by omega, ?_⟩⟩
  have x1 : Ls CR CC Pd Pl ns least d p g dc kl ow ok ou na ke ca la st ups 0 G [] [] rs 0 H1 :=
    ⟨x.ds.roll e i, x.iv, x.lt, e _ _ x.pd x.hp, x.pd, x.pl, e _ _ x.kd x.hk, by cases x.rs; exact .nil, x.kd, x.kla, x.pre, x.nn⟩
  refine for_range (n := r.toNat) (fun i σ H2 => ∃ (kl ok ou ke : Addr) (la : Str → Addr) (st : Rp Str) (ups : List Str) (count : Nat) (G : Int → Lg) (kept : List Int) (rs : List V) (a6 a7 a8 a9 : Option V), σ = [a0, some (.ref d), some (.ref na), some (.int least), some (.ref ke), some (.ref ow), a6, a7, a8, a9, a10, a11, some (.ref g), a13, a14, a15, a16, a17] ∧ Ls CR CC Pd Pl ns least d p g dc kl ow ok ou na ke ca la st ups count G kept kept rs i H2)
    ⟨kl, ok, ou, ke, la, st, ups, 0, G, [], rs, _, _, _, _, rfl, x1⟩ ?_ ?_
  · rintro i σ H2 hi ⟨kl, ok, ou, ke, la, st, ups, count, G, kept, rs, a6, a7, a8, a9, rfl, x2⟩
    have hi9 : i ≤ 90 := by omega
    show t0 _ _ _
    have hz : (0 : Int) + (i : Int) = (i : Int) := Int.zero_add _
    rw [hz]
    refine q0 _ _ _ _ _ _ _ _ _ _ _ _ H2 ns least d p g dc kl ow ok ou na ke ca la st ups count G kept rs i x2 hok hi9 fun H3 kl3 ok3 ou3 la3 st3 ups3 count3 G3 kept3 x3 => ?_
    refine q1 _ _ _ _ _ _ _ _ _ _ _ _ _ H3 ns least d p g dc kl3 ow ok3 ou3 na ke ca la3 st3 ups3 count3 G3 kept3 kept rs (i + 1) x3 fun H4 x4 => ?_
    refine q2 _ _ _ _ _ _ _ _ _ _ _ _ _ H4 ns least d p g dc kl3 ow ok3 ou3 na ke ca la3 st3 ups3 count3 G3 kept3 kept rs (i + 1) x4 ?_
    refine q3 _ _ _ _ _ _ _ _ _ _ _ _ H4 ns least d p g dc kl3 ow ok3 ou3 na ke ca la3 st3 ups3 count3 G3 kept3 kept rs (i + 1) x4 (by omega) fun H5 ke5 rs5 a8' a9' x5 => ?_
    refine q4 _ _ _ _ _ _ _ _ _ _ _ _ _ _ _ H5 ns least d p g dc kl3 ow ok3 ou3 na ke5 ca la3 st3 ups3 count3 G3 kept3 rs5 (i + 1) x5 fun H6 x6 => ?_
    exact ⟨kl3, ok3, ou3, ke5, la3, st3, ups3, count3, G3, kept3, rs5, _, _, _, _, rfl, x6⟩
  · rintro σ H2 ⟨kl, ok, ou, ke, la, st, ups, count, G, kept, rs, a6, a7, a8, a9, rfl, x2⟩
    exact fin H2 _ x2.ds.tabs x2.hp rfl
end
end K6
set_option Elab.async false
set_option linter.all false
set_option maxRecDepth 100000
set_option maxHeartbeats 4000000
namespace K6
open PySem PySem.Spec PyProof.Rows L2 KB KC KD KS LamX R8 Q6 TL
theorem paired_of {α β : Type} {R : α → β → Prop} : ∀ {l : List α} {m : List β}, l.length = m.length → (∀ (j : Nat) (a : α) (b : β), l[j]? = some a → m[j]? = some b → R a b) → Paired R l m
  | [], [], _, _ => .nil
  | [], _ :: _, h, _ => by cases h
  | _ :: _, [], h, _ => by cases h
  | a :: l, b :: m, h, g => .cons (g 0 a b rfl rfl) (paired_of (Nat.succ.inj h) fun j x y hx hy => g (j + 1) x y hx hy)
theorem call_list_text {X : Cx} (hc : X.calm = true) : CallR X (.type "list") (fun xs H Q => ∃ x : Str, xs = [.str x] ∧ x.length ≤ 900 ∧ ∀ l, H l = none → Q (.ref l) (upd H l (.lst ((signs x).map V.str)))) := by
  intro pins s σ H xs us Q I r h
  obtain ⟨x, rfl, hx, q⟩ := h
  obtain ⟨u, rfl, rx⟩ := vals1 r
  obtain ⟨t, rfl⟩ := rx
  have hx' : x.cps.size ≤ 900 := hx
  refine PySem.call_list_str (I.ok.hd hc) x t (fun h' tk acc' c' kp e hacc => ?_) (by show x.cps.size ≤ sizeLine; exact Nat.le_trans hx' (by decide))
  have rv : Vals ((signs x).map V.str) acc'.toList := by
    have hl : ((signs x).map V.str).length = acc'.toList.length := by
      rw [List.length_map, signs_length, Array.length_toList, hacc.1]
      rfl
    refine paired_of hl fun j a b ha hb => ?_
    obtain ⟨c, u, hc, rfl⟩ := hacc.2 j b (by simpa using hb)
    rw [List.getElem?_map] at ha
    have : (signs x)[j]? = some ⟨#[c]⟩ := by simp [signs, hc]
    rw [this] at ha
    cases ha
    exact ⟨u, rfl⟩
  refine ⟨.ref s.heap.objs.size, _, I.laid (t' := tk) kp (Nat.le_refl _) (show ObjOk X.prog X.w _ h' _ (.lst ((signs x).map V.str)) from ⟨?_, acc'.toList, c', rv, e⟩), rfl, q _ (I.hok.fresh (Nat.le_refl _))⟩
  rw [List.length_map, signs_length]
  exact Nat.le_trans hx (by decide)
abbrev EJ (K : PySem.W.Frag) (CE : Addr) (Q : VK) : XK := fun cls _ H' => ∃ b, PySem.W.exmOne K cls (.ref CE) = some b ∧ (b = true → Q (.str "LogError") H') ∧ (b = false → False)
def listOf : Stmt → List Expr
  | .Assign _ (.List es _) _ => es
  | _ => []
abbrev noE : Expr := .Constant (.int 0) 0 ⟨0, 0, 0, 0⟩
abbrev lamE (i : Nat) : Expr := (listOf ((defBody sLaw).getD 1 pass0')).getD i noE
def lamP : Expr → Arguments
  | .Lambda a _ _ _ => a
  | _ => { posonlyargs := [], args := [], vararg := none, kwonlyargs := [], kw_defaults := [], kwarg := none, defaults := [] }
def lamB : Expr → Expr
  | .Lambda _ b _ _ => b
  | e => e
def lamSc : Expr → Scope
  | .Lambda _ _ sc _ => sc
  | _ => defScope sLaw
theorem mk1 {CR CC CE : Addr} {H' : Hp} {Q : VK} {E : XK} {l x dx : Addr} {names : List Str} {least : Int} (hE : ∀ H'', Ex H' H'' → E (.ref CE) none H'') (hl : H' l = none) (hdx : upd H' l (.lst (names.map V.str)) dx = none) (hx : upd H' l (.lst (names.map V.str)) x = none)
    (hok : ∀ n ∈ names, n.length ≤ 900 ∧ PyData.strOk n = true) (h64 : names.length < 64)
    (fin : ∀ n0 r, gFits names least → names.Nodup → names = n0 :: r → ∀ H1 dc kl ca la keep, Ex H' H1 → keep.Perm names → Grp CR CC names least x dc kl ca la (rp0 n0 keep) H1 → Q .non H1) :
    spRInit CR CC CE [.ref x, .ref l, .int least] (upd (upd (upd H' l (.lst (names.map V.str))) dx (.own x)) x (.ins CR dx [])) Q E := by
  have e1 : Ex H' (upd H' l (.lst (names.map V.str))) := Ex.upd hl
  have h1 : (upd H' l (.lst (names.map V.str))) l = some (.lst (names.map V.str)) := upd_same
  generalize upd H' l (.lst (names.map V.str)) = H2 at hdx hx e1 h1
  have e2 : Ex H2 (upd (upd H2 dx (.own x)) x (.ins CR dx [])) := Ex.on (Ex.upd hdx) hx
  refine rinit_step upd_same (e2 _ _ h1) hok h64 (fun _ H3 e3 => hE _ ((e1.trans e2).trans e3)) fun n0 r g nd en H3 dc kl ca la keep fr nw pm so grp => ?_
  exact fin n0 r g nd en H3 dc kl ca la keep (fun b o h => fr b o (ne_of_none (e1 _ _ h) hx) (e2 _ _ (e1 _ _ h))) pm grp
section
variable {P : Program} {w : World} {K : PySem.W.Frag} {mg : Str → Option Value} {base : Heap} {CR CC CE Pd Pl cL fTo fL : Addr} {fdTo : FuncData} {A : Around} {outer : List PySem.Env} {s : Shared} {H0 : Hp} {E0' : XK}
def BadL (P : Program) (w : World) (K : PySem.W.Frag) (mg : Str → Option Value) (base : Heap) (CE f : Addr) (H : Hp) : Prop :=
  ∀ (H' : Hp) (Q : VK), ExtN H H' → (∀ H'', Ex H' H'' → Q (.str "LogError") H'') → LamAt P w K mg base 6 f H' Q (EJ K CE Q)
theorem BadL.exN {f : Addr} {H H1 : Hp} (b : BadL P w K mg base CE f H) (e : ExtN H H1) : BadL P w K mg base CE f H1 := fun H' Q e' h => b H' Q (e.trans e') h
theorem ne_tblL {f c' : Addr} {q : Str} {pa : Arguments} {bd : Expr} {sc : Scope} : ∀ ps, LamO f q pa bd sc c' ≠ .tbl ps := fun ps z => by
  unfold LamO at z
  cases z
theorem ne_tblC {q : Str} {c' : Addr} : ∀ ps, CodeO c' q ≠ .tbl ps := fun ps z => codeO_ne ps z
abbrev Beh1 (P : Program) (w : World) (K : PySem.W.Frag) (mg : Str → Option Value) (base : Heap) (CE f c' : Addr) (i : Nat) : Prop :=
  ∀ (H' : Hp) (Q : VK) (E : XK), (∀ H'', Ex H' H'' → E (.ref CE) none H'') → ∀ (A : Around) (outer : List Env) (s : Shared), Room 6 (A.deeper (envOfC qL (lamSc (lamE i)) s.heap.objs.size f (.ref c'))) →
      ∃ t, PE (cxOf (L2.CX P w) P w K mg base [] qL (lamSc (lamE i)) f (.ref c') A outer s H' E) (lamB (lamE i)) t ∧ t (start [] []) H' Q
theorem bad_of {i : Nat} {f c' : Addr} {H : Hp} (hf : H f = some (LamO f qL (lamP (lamE i)) (lamB (lamE i)) (lamSc (lamE i)) c')) (hc : H c' = some (CodeO c' qL)) (S : FnScope [] [] (lamSc (lamE i)))
    (hb : ∀ pm ctv, bindArgs (PySem.W.kla_fn "<lambda>" qL (lamP (lamE i)) (lamB (lamE i)) (lamSc (lamE i)) [] pm (.ref c') ctv) ⟨[], []⟩ = pure [])
    (beh : Beh1 P w K mg base CE f c' i) (J : TxtX K mg CE) : BadL P w K mg base CE f H := by
  intro H' Q e h
  refine ⟨c', qL, _, _, _, [], e _ _ hf ne_tblL, e _ _ hc ne_tblC, S, hb, fun E hE A outer s hr => beh H' Q E (fun H'' ex => hE _ _ _ ⟨true, J.e, fun _ => h H'' ex, fun z => nomatch z⟩) A outer s hr⟩
theorem beh_0 (ve : LawE P w K mg base CR CC CE Pd Pl cL fTo fdTo) {f c' : Addr} : Beh1 P w K mg base CE f c' 0 := fun H' Q E hE A outer s hr => by
  obtain ⟨f1, fd1, G1, M1, b1⟩ := ve.rinit
  refine ⟨_, pe_make M1 G1 (hr.mono (by decide)) (by rfl) ve.B.gC b1 .nil (passes_call (takes_of rfl rfl rfl rfl) (fun _ _ _ _ h => h)) (pa_cons (pe_lst pa_nil) (pa_cons pe_int pa_nil)), ?_⟩
  exact ⟨(by show 0 ≤ sizeLine; decide), fun l hl x dx hx hdx nx => mk1 (names := []) hE hl hdx hx (by decide) (by decide) fun _ _ g => absurd g.1 (by decide)⟩
theorem beh_1 (ve : LawE P w K mg base CR CC CE Pd Pl cL fTo fdTo) {f c' : Addr} : Beh1 P w K mg base CE f c' 1 := fun H' Q E hE A outer s hr => by
  obtain ⟨f1, fd1, G1, M1, b1⟩ := ve.rinit
  refine ⟨_, pe_make M1 G1 (hr.mono (by decide)) (by rfl) ve.B.gC b1 .nil (passes_call (takes_of rfl rfl rfl rfl) (fun _ _ _ _ h => h)) (pa_cons (pe_lst (pa_cons pe_str pa_nil)) (pa_cons pe_int pa_nil)), ?_⟩
  exact ⟨(by show 1 ≤ sizeLine; decide), fun l hl x dx hx hdx nx => mk1 (names := ["a"]) hE hl hdx hx (by decide +kernel) (by decide) fun _ _ g => absurd g.2.1 (by decide)⟩
theorem beh_2 (ve : LawE P w K mg base CR CC CE Pd Pl cL fTo fdTo) {f c' : Addr} : Beh1 P w K mg base CE f c' 2 := fun H' Q E hE A outer s hr => by
  obtain ⟨f1, fd1, G1, M1, b1⟩ := ve.rinit
  refine ⟨_, pe_make M1 G1 (hr.mono (by decide)) (by rfl) ve.B.gC b1 .nil (passes_call (takes_of rfl rfl rfl rfl) (fun _ _ _ _ h => h)) (pa_cons (pe_lst (pa_cons pe_str (pa_cons pe_str pa_nil))) (pa_cons pe_int pa_nil)), ?_⟩
  exact ⟨(by show 2 ≤ sizeLine; decide), fun l hl x dx hx hdx nx => mk1 (names := ["a", "a"]) hE hl hdx hx (by decide +kernel) (by decide) fun _ _ _ g => absurd g (by decide +kernel)⟩
theorem beh_3 (ve : LawE P w K mg base CR CC CE Pd Pl cL fTo fdTo) {f c' : Addr} : Beh1 P w K mg base CE f c' 3 := fun H' Q E hE A outer s hr => by
  obtain ⟨f1, fd1, G1, M1, b1⟩ := ve.rinit
  refine ⟨_, pe_make M1 G1 (hr.mono (by decide)) (by rfl) ve.B.gC b1 .nil (passes_call (takes_of rfl rfl rfl rfl) (fun _ _ _ _ h => h)) (pa_cons (pe_lst (pa_cons pe_str pa_nil)) (pa_cons pe_int pa_nil)), ?_⟩
  exact ⟨(by show 1 ≤ sizeLine; decide), fun l hl x dx hx hdx nx => mk1 (names := ["a"]) hE hl hdx hx (by decide +kernel) (by decide) fun _ _ g => absurd g.1 (by decide)⟩
theorem beh_4 (ve : LawE P w K mg base CR CC CE Pd Pl cL fTo fdTo) {f c' : Addr} : Beh1 P w K mg base CE f c' 4 := fun H' Q E hE A outer s hr => by
  obtain ⟨f1, fd1, G1, M1, b1⟩ := ve.rinit
  refine ⟨_, pe_make M1 G1 (hr.mono (by decide)) (by rfl) ve.B.gC b1 .nil (passes_call (takes_of rfl rfl rfl rfl) (fun _ _ _ _ h => h)) (pa_cons (pe_callTy (call_list_text rfl) (by rfl) ve.T.list (by decide +kernel) (pa_cons pe_str pa_nil)) (pa_cons pe_int pa_nil)), ?_⟩
  refine ⟨_, rfl, by decide +kernel, fun l hl x dx hx hdx nx => mk1 (names := signs "abcdefghij") hE hl hdx hx (by decide +kernel) (by decide +kernel) fun _ _ g => absurd g.2.2 (by decide +kernel)⟩
theorem beh_5 (ve : LawE P w K mg base CR CC CE Pd Pl cL fTo fdTo) {f c' : Addr} : Beh1 P w K mg base CE f c' 5 := fun H' Q E hE A outer s hr => by
  obtain ⟨f1, fd1, G1, M1, b1⟩ := ve.rinit
  obtain ⟨f2, fd2, G2, m2, b2⟩ := ve.pull
  refine ⟨_, pe_meth (pe_make M1 G1 (hr.mono (by decide)) (by rfl) ve.B.gC b1 .nil (passes_call (takes_of rfl rfl rfl rfl) (fun _ _ _ _ h => h)) (pa_cons (pe_lst (pa_cons pe_str pa_nil)) (pa_cons pe_int pa_nil))) ve.B.cl m2 G2 (hr.mono (by decide)) b2 .nil (passes_call (takes_of rfl rfl rfl rfl) (fun _ _ _ _ h => h)) (pa_cons pe_str (pa_cons pe_int pa_nil)), ?_⟩
  refine ⟨(by show 1 ≤ sizeLine; decide), fun l hl x dx hx hdx nx => mk1 (names := ["a"]) hE hl hdx hx (by decide +kernel) (by decide) fun n0 r _ _ en H1 dc kl ca la keep e1 pm g => ⟨rfl, ?_⟩⟩
  cases en
  obtain ⟨dg, ho⟩ := g.o
  refine ⟨x, dg, _, rfl, ho, gF_m (by decide +kernel) (by decide +kernel) (by decide +kernel) (by decide +kernel) (by decide +kernel), ?_⟩
  have o := ok_rp0 (n0 := "a") (List.mem_singleton.mpr rfl) pm (by decide +kernel)
  exact pull_step g (by decide +kernel) o.k0 o.kd o.tm (by show (0 : Int) ≤ 1; decide) (fun _ => hE _ e1) (fun l hl _ hne _ => absurd (Option.some.inj hl) hne)
theorem beh_6 (ve : LawE P w K mg base CR CC CE Pd Pl cL fTo fdTo) {f c' : Addr} : Beh1 P w K mg base CE f c' 6 := fun H' Q E hE A outer s hr => by
  obtain ⟨f1, fd1, G1, M1, b1⟩ := ve.rinit
  obtain ⟨f2, fd2, G2, m2, b2⟩ := ve.pull
  refine ⟨_, pe_meth (pe_make M1 G1 (hr.mono (by decide)) (by rfl) ve.B.gC b1 .nil (passes_call (takes_of rfl rfl rfl rfl) (fun _ _ _ _ h => h)) (pa_cons (pe_lst (pa_cons pe_str pa_nil)) (pa_cons pe_int pa_nil))) ve.B.cl m2 G2 (hr.mono (by decide)) b2 .nil (passes_call (takes_of rfl rfl rfl rfl) (fun _ _ _ _ h => h)) (pa_cons pe_str (pa_cons pe_int pa_nil)), ?_⟩
  refine ⟨(by show 1 ≤ sizeLine; decide), fun l hl x dx hx hdx nx => mk1 (names := ["a"]) hE hl hdx hx (by decide +kernel) (by decide) fun n0 r _ _ en H1 dc kl ca la keep e1 pm g => ⟨rfl, ?_⟩⟩
  cases en
  obtain ⟨dg, ho⟩ := g.o
  refine ⟨x, dg, _, rfl, ho, gF_m (by decide +kernel) (by decide +kernel) (by decide +kernel) (by decide +kernel) (by decide +kernel), ?_⟩
  have o := ok_rp0 (n0 := "a") (List.mem_singleton.mpr rfl) pm (by decide +kernel)
  exact pull_step g (by decide +kernel) o.k0 o.kd o.tm (by show (0 : Int) ≤ 1; decide) (fun _ => hE _ e1) (fun l hl hn _ _ => absurd hn (by decide +kernel))
theorem beh_7 (ve : LawE P w K mg base CR CC CE Pd Pl cL fTo fdTo) {f c' : Addr} : Beh1 P w K mg base CE f c' 7 := fun H' Q E hE A outer s hr => by
  obtain ⟨f1, fd1, G1, M1, b1⟩ := ve.rinit
  obtain ⟨f2, fd2, G2, m2, b2⟩ := ve.come
  refine ⟨_, pe_meth (pe_make M1 G1 (hr.mono (by decide)) (by rfl) ve.B.gC b1 .nil (passes_call (takes_of rfl rfl rfl rfl) (fun _ _ _ _ h => h)) (pa_cons (pe_lst (pa_cons pe_str pa_nil)) (pa_cons pe_int pa_nil))) ve.B.cl m2 G2 (hr.mono (by decide)) b2 .nil (passes_call (takes_of rfl rfl rfl rfl) (fun _ _ _ _ h => h)) (pa_cons pe_str pa_nil), ?_⟩
  refine ⟨(by show 1 ≤ sizeLine; decide), fun l hl x dx hx hdx nx => mk1 (names := ["a"]) hE hl hdx hx (by decide +kernel) (by decide) fun n0 r _ _ en H1 dc kl ca la keep e1 pm g => ⟨rfl, ?_⟩⟩
  cases en
  obtain ⟨dg, ho⟩ := g.o
  refine ⟨x, dg, _, rfl, ho, gF_m (by decide +kernel) (by decide +kernel) (by decide +kernel) (by decide +kernel) (by decide +kernel), ?_⟩
  exact up_step g (by decide +kernel) (fun _ => hE _ e1) (fun _ hz => by cases hz)
theorem beh_8 (ve : LawE P w K mg base CR CC CE Pd Pl cL fTo fdTo) {f c' : Addr} : Beh1 P w K mg base CE f c' 8 := fun H' Q E hE A outer s hr => by
  obtain ⟨f1, fd1, G1, M1, b1⟩ := ve.rinit
  obtain ⟨f2, fd2, G2, m2, b2⟩ := ve.down
  refine ⟨_, pe_meth (pe_make M1 G1 (hr.mono (by decide)) (by rfl) ve.B.gC b1 .nil (passes_call (takes_of rfl rfl rfl rfl) (fun _ _ _ _ h => h)) (pa_cons (pe_lst (pa_cons pe_str pa_nil)) (pa_cons pe_int pa_nil))) ve.B.cl m2 G2 (hr.mono (by decide)) b2 .nil (passes_call (takes_of rfl rfl rfl rfl) (fun _ _ _ _ h => h)) (pa_cons pe_str pa_nil), ?_⟩
  refine ⟨(by show 1 ≤ sizeLine; decide), fun l hl x dx hx hdx nx => mk1 (names := ["a"]) hE hl hdx hx (by decide +kernel) (by decide) fun n0 r _ _ en H1 dc kl ca la keep e1 pm g => ⟨rfl, ?_⟩⟩
  cases en
  obtain ⟨dg, ho⟩ := g.o
  refine ⟨x, dg, _, rfl, ho, gF_m (by decide +kernel) (by decide +kernel) (by decide +kernel) (by decide +kernel) (by decide +kernel), ?_⟩
  have o := ok_rp0 (n0 := "a") (List.mem_singleton.mpr rfl) pm (by decide +kernel)
  exact down_step g (by decide +kernel) o.k0 o.kd (fun _ => hE _ e1) (fun hn _ => absurd hn (by decide +kernel))
theorem beh_9 (ve : LawE P w K mg base CR CC CE Pd Pl cL fTo fdTo) {f c' : Addr} : Beh1 P w K mg base CE f c' 9 := fun H' Q E hE A outer s hr => by
  obtain ⟨f1, fd1, G1, M1, b1⟩ := ve.rinit
  obtain ⟨f2, fd2, G2, m2, b2⟩ := ve.read
  refine ⟨_, pe_meth (pe_make M1 G1 (hr.mono (by decide)) (by rfl) ve.B.gC b1 .nil (passes_call (takes_of rfl rfl rfl rfl) (fun _ _ _ _ h => h)) (pa_cons (pe_lst (pa_cons pe_str pa_nil)) (pa_cons pe_int pa_nil))) ve.B.cl m2 G2 (hr.mono (by decide)) b2 .nil (passes_call (takes_of rfl rfl rfl rfl) (fun _ _ _ _ h => h)) (pa_cons pe_str (pa_cons pe_int pa_nil)), ?_⟩
  refine ⟨(by show 1 ≤ sizeLine; decide), fun l hl x dx hx hdx nx => mk1 (names := ["a"]) hE hl hdx hx (by decide +kernel) (by decide) fun n0 r _ _ en H1 dc kl ca la keep e1 pm g => ⟨rfl, ?_⟩⟩
  cases en
  obtain ⟨dg, ho⟩ := g.o
  refine ⟨x, dg, _, rfl, ho, gF_m (by decide +kernel) (by decide +kernel) (by decide +kernel) (by decide +kernel) (by decide +kernel), ?_⟩
  exact read_step g (by decide +kernel) (fun _ => hE _ e1) (fun hn => absurd hn (by decide +kernel))
theorem beh_10 (ve : LawE P w K mg base CR CC CE Pd Pl cL fTo fdTo) {f c' : Addr} : Beh1 P w K mg base CE f c' 10 := fun H' Q E hE A outer s hr => by
  obtain ⟨f1, fd1, G1, M1, b1⟩ := ve.rinit
  obtain ⟨f2, fd2, G2, m2, b2⟩ := ve.drop
  refine ⟨_, pe_meth (pe_make M1 G1 (hr.mono (by decide)) (by rfl) ve.B.gC b1 .nil (passes_call (takes_of rfl rfl rfl rfl) (fun _ _ _ _ h => h)) (pa_cons (pe_lst (pa_cons pe_str (pa_cons pe_str pa_nil))) (pa_cons pe_int pa_nil))) ve.B.cl m2 G2 (hr.mono (by decide)) b2 .nil (passes_call (takes_of rfl rfl rfl rfl) (fun _ _ _ _ h => h)) (pa_cons pe_str pa_nil), ?_⟩
  refine ⟨(by show 2 ≤ sizeLine; decide), fun l hl x dx hx hdx nx => mk1 (names := ["a", "b"]) hE hl hdx hx (by decide +kernel) (by decide) fun n0 r _ _ en H1 dc kl ca la keep e1 pm g => ⟨rfl, ?_⟩⟩
  cases en
  obtain ⟨dg, ho⟩ := g.o
  refine ⟨x, dg, _, rfl, ho, gF_m (by decide +kernel) (by decide +kernel) (by decide +kernel) (by decide +kernel) (by decide +kernel), ?_⟩
  have o := ok_rp0 (n0 := "a") (names := ["a", "b"]) (List.mem_cons_self ..) pm (by decide +kernel)
  exact drop_step g (by decide +kernel) (fun l hl => (o.ld l hl).1) (fun _ => hE _ e1) (fun l hl _ _ hne => absurd rfl hne)
theorem tabM : (Pl, (Str.ofString "law" ++ Str.ofString ".<locals>.") ++ Str.ofString "<lambda>") ∈ TT Pd Pl := by rw [qLaw]; exact List.mem_cons_of_mem _ (List.mem_cons_self ..)
theorem tabU (ap : Pd ≠ Pl) : ∀ p ∈ TT Pd Pl, p.1 = Pl → p.2 = (Str.ofString "law" ++ Str.ofString ".<locals>.") ++ Str.ofString "<lambda>" := by
  rw [qLaw]
  intro p hp e
  rcases List.mem_cons.mp hp with z | h
  · rw [z] at e
    exact absurd e ap
  · rcases List.mem_cons.mp h with z | h
    · rw [z]
    · cases h
end
end K6
set_option Elab.async false
set_option linter.all false
set_option maxRecDepth 100000
set_option maxHeartbeats 4000000
namespace K6
open PySem PySem.Spec PyProof.Rows L2 KB KC KD KS LamX R8 Q6 TL
theorem toldV_step {P : Program} {w : World} {K : PySem.W.Frag} {mg : Str → Option Value} {base : Heap} {CE f : Addr} {H : Hp} {Q : VK} {E : XK} (b : BadL P w K mg base CE f H) (q : ∀ H', Ex H H' → Q (.str "LogError") H') : spToldV P w K mg base 6 CE "LogError" [.ref f] H Q E := by
  unfold spToldV
  exact ⟨f, rfl, b H Q (ExtN.refl H) q⟩
theorem cinit_stepR {C : Addr} {p dx : Addr} {H : Hp} {Q : VK} {E : XK} (hdx : H dx = none) (hp : H p = none)
    (fin : ∀ H' l, Ex H H' → H l = none → H' p = some (.ins C dx (cF l 0 true)) → H' l = some (.lst []) → Q .non H') : spCInit C [.ref p] (upd (upd H dx (.own p)) p (.ins C dx [])) Q E := by
  have e : Ex H (upd (upd H dx (.own p)) p (.ins C dx [])) := Ex.on (Ex.upd hdx) hp
  unfold spCInit
  exact ⟨p, dx, rfl, upd_same, fun H' l fr hl h1 h2 => fin H' l (fun b o h => fr b o (ne_of_none h hp) (e _ _ h)) (none_of e hl) h1 h2⟩
structure Rec3 (CC c l : Addr) (us : List Addr) (H : Hp) : Prop where
  o : ∃ dx, H c = some (.ins CC dx (cF l 0 true))
  l : H l = some (.lst (us.map V.ref))
  t : Ts H us [(1, 0), (1, 0), (3, 0)]
theorem Rec3.ex {CC c l : Addr} {us : List Addr} {H H' : Hp} (x : Rec3 CC c l us H) (e : Ex H H') : Rec3 CC c l us H' :=
  ⟨let ⟨d, h⟩ := x.o; ⟨d, e _ _ h⟩, e _ _ x.l, paired_mono (fun t b ⟨v, h⟩ => ⟨v, e _ _ h⟩) x.t⟩
section
variable {P : Program} {w : World} {K : PySem.W.Frag} {mg : Str → Option Value} {base : Heap} {CR CC CE Pd Pl cL fTo fL : Addr} {fdTo : FuncData} {A : Around} {outer : List PySem.Env} {s : Shared} {H0 : Hp} {E0' : XK}
theorem law_5 (ve : LawE P w K mg base CR CC CE Pd Pl cL fTo fdTo) (hr : Room 13 (xLaw P w K mg base fL cL A outer s H0 E0').A) :
    ∃ t, PS (xLaw P w K mg base fL cL A outer s H0 E0') ((defBody sLaw).getD 1 pass0') t ∧ ∀ (D : Ends) (σ : L2.St) (H : Hp), Tabs (TT Pd Pl) H →
      (∀ (H' : Hp) (l : Addr) (fs : List Addr), H' l = some (.lst (fs.map V.ref)) → fs.length = 11 → (∀ f ∈ fs, BadL P w K mg base CE f H') → D.nx (σ.set 10 (some (.ref l))) H') → t D σ H := by
  have U := tabU (Pd := Pd) (Pl := Pl) ve.ap
  refine ⟨_, ps_set (i := 10) scLaw.nd rfl (Or.inl rfl) (pe_lst
      (pa_cons (pe_lamV (T := TT Pd Pl) ve.TBl rfl tabM U rfl (by decide +kernel) rfl) (pa_cons (pe_lamV (T := TT Pd Pl) ve.TBl rfl tabM U rfl (by decide +kernel) rfl) (pa_cons (pe_lamV (T := TT Pd Pl) ve.TBl rfl tabM U rfl (by decide +kernel) rfl)
      (pa_cons (pe_lamV (T := TT Pd Pl) ve.TBl rfl tabM U rfl (by decide +kernel) rfl) (pa_cons (pe_lamV (T := TT Pd Pl) ve.TBl rfl tabM U rfl (by decide +kernel) rfl) (pa_cons (pe_lamV (T := TT Pd Pl) ve.TBl rfl tabM U rfl (by decide +kernel) rfl)
      (pa_cons (pe_lamV (T := TT Pd Pl) ve.TBl rfl tabM U rfl (by decide +kernel) rfl) (pa_cons (pe_lamV (T := TT Pd Pl) ve.TBl rfl tabM U rfl (by decide +kernel) rfl) (pa_cons (pe_lamV (T := TT Pd Pl) ve.TBl rfl tabM U rfl (by decide +kernel) rfl)
      (pa_cons (pe_lamV (T := TT Pd Pl) ve.TBl rfl tabM U rfl (by decide +kernel) rfl) (pa_cons (pe_lamV (T := TT Pd Pl) ve.TBl rfl tabM U rfl (by decide +kernel) rfl) pa_nil)))))))))))), ?_⟩
  intro D σ H ht fin
  refine ⟨ht, fun f0 c0 H1 e0 t0 hf0 hc0 n0 => ⟨t0, fun f1 c1 H2 e1 t1 hf1 hc1 n1 => ⟨t1, fun f2 c2 H3 e2 t2 hf2 hc2 n2 => ⟨t2, fun f3 c3 H4 e3 t3 hf3 hc3 n3 => ⟨t3, fun f4 c4 H5 e4 t4 hf4 hc4 n4 => ⟨t4, fun f5 c5 H6 e5 t5 hf5 hc5 n5 =>
    ⟨t5, fun f6 c6 H7 e6 t6 hf6 hc6 n6 => ⟨t6, fun f7 c7 H8 e7 t7 hf7 hc7 n7 => ⟨t7, fun f8 c8 H9 e8 t8 hf8 hc8 n8 => ⟨t8, fun f9 c9 H10 e9 t9 hf9 hc9 n9 => ⟨t9, fun fa cc Ha ea ta hfa hca na => ⟨(by show 11 ≤ sizeLine; decide), fun l hl => ?_⟩⟩⟩⟩⟩⟩⟩⟩⟩⟩⟩⟩
  have q : (Str.ofString "law" ++ Str.ofString ".<locals>.") ++ Str.ofString "<lambda>" = qL := qLaw
  have b0 : BadL P w K mg base CE f0 H1 := bad_of (i := 0) (by rw [← q]; exact hf0) (by rw [← q]; exact hc0) ⟨rfl, rfl, rfl, by decide +kernel, rfl, by decide +kernel, by decide +kernel⟩ (fun _ _ => rfl) (beh_0 ve) ve.J
  have b1 : BadL P w K mg base CE f1 H2 := bad_of (i := 1) (by rw [← q]; exact hf1) (by rw [← q]; exact hc1) ⟨rfl, rfl, rfl, by decide +kernel, rfl, by decide +kernel, by decide +kernel⟩ (fun _ _ => rfl) (beh_1 ve) ve.J
  have b2 : BadL P w K mg base CE f2 H3 := bad_of (i := 2) (by rw [← q]; exact hf2) (by rw [← q]; exact hc2) ⟨rfl, rfl, rfl, by decide +kernel, rfl, by decide +kernel, by decide +kernel⟩ (fun _ _ => rfl) (beh_2 ve) ve.J
  have b3 : BadL P w K mg base CE f3 H4 := bad_of (i := 3) (by rw [← q]; exact hf3) (by rw [← q]; exact hc3) ⟨rfl, rfl, rfl, by decide +kernel, rfl, by decide +kernel, by decide +kernel⟩ (fun _ _ => rfl) (beh_3 ve) ve.J
  have b4 : BadL P w K mg base CE f4 H5 := bad_of (i := 4) (by rw [← q]; exact hf4) (by rw [← q]; exact hc4) ⟨rfl, rfl, rfl, by decide +kernel, rfl, by decide +kernel, by decide +kernel⟩ (fun _ _ => rfl) (beh_4 ve) ve.J
  have b5 : BadL P w K mg base CE f5 H6 := bad_of (i := 5) (by rw [← q]; exact hf5) (by rw [← q]; exact hc5) ⟨rfl, rfl, rfl, by decide +kernel, rfl, by decide +kernel, by decide +kernel⟩ (fun _ _ => rfl) (beh_5 ve) ve.J
  have b6 : BadL P w K mg base CE f6 H7 := bad_of (i := 6) (by rw [← q]; exact hf6) (by rw [← q]; exact hc6) ⟨rfl, rfl, rfl, by decide +kernel, rfl, by decide +kernel, by decide +kernel⟩ (fun _ _ => rfl) (beh_6 ve) ve.J
  have b7 : BadL P w K mg base CE f7 H8 := bad_of (i := 7) (by rw [← q]; exact hf7) (by rw [← q]; exact hc7) ⟨rfl, rfl, rfl, by decide +kernel, rfl, by decide +kernel, by decide +kernel⟩ (fun _ _ => rfl) (beh_7 ve) ve.J
  have b8 : BadL P w K mg base CE f8 H9 := bad_of (i := 8) (by rw [← q]; exact hf8) (by rw [← q]; exact hc8) ⟨rfl, rfl, rfl, by decide +kernel, rfl, by decide +kernel, by decide +kernel⟩ (fun _ _ => rfl) (beh_8 ve) ve.J
  have b9 : BadL P w K mg base CE f9 H10 := bad_of (i := 9) (by rw [← q]; exact hf9) (by rw [← q]; exact hc9) ⟨rfl, rfl, rfl, by decide +kernel, rfl, by decide +kernel, by decide +kernel⟩ (fun _ _ => rfl) (beh_9 ve) ve.J
  have ba : BadL P w K mg base CE fa Ha := bad_of (i := 10) (by rw [← q]; exact hfa) (by rw [← q]; exact hca) ⟨rfl, rfl, rfl, by decide +kernel, rfl, by decide +kernel, by decide +kernel⟩ (fun _ _ => rfl) (beh_10 ve) ve.J
  have el : ExtN Ha (upd Ha l (.lst ([f0, f1, f2, f3, f4, f5, f6, f7, f8, f9, fa].map V.ref))) := ExtN.of (Ex.upd hl)
  have x9 := ea.trans el
  have x8 := e9.trans x9
  have x7 := e8.trans x8
  have x6 := e7.trans x7
  have x5 := e6.trans x6
  have x4 := e5.trans x5
  have x3 := e4.trans x4
  have x2 := e3.trans x3
  have x1 := e2.trans x2
  have x0 := e1.trans x1
  refine fin _ l [f0, f1, f2, f3, f4, f5, f6, f7, f8, f9, fa] upd_same rfl fun f hf => ?_
  simp only [List.mem_cons, List.not_mem_nil, or_false] at hf
  rcases hf with rfl | rfl | rfl | rfl | rfl | rfl | rfl | rfl | rfl | rfl | rfl
  · exact b0.exN x0
  · exact b1.exN x1
  · exact b2.exN x2
  · exact b3.exN x3
  · exact b4.exN x4
  · exact b5.exN x5
  · exact b6.exN x6
  · exact b7.exN x7
  · exact b8.exN x8
  · exact b9.exN x9
  · exact ba.exN el
theorem law_6 (ve : LawE P w K mg base CR CC CE Pd Pl cL fTo fdTo) (hr : Room 13 (xLaw P w K mg base fL cL A outer s H0 E0').A) :
    ∃ t, PS (xLaw P w K mg base fL cL A outer s H0 E0') ((defBody sLaw).getD 2 pass0') t ∧ ∀ (D : Ends) (σ : L2.St) (H : Hp) (l : Addr) (fs : List Addr), σ[10]? = some (some (.ref l)) → σ.length = 18 → H l = some (.lst (fs.map V.ref)) → fs.length = 11 → (∀ f ∈ fs, BadL P w K mg base CE f H) → (∀ H', D.nx σ H') → t D σ H := by
  have GT : FnOk P w K mg base CX0 8 fTo fdTo ["what"] (spToldV P w K mg base 6 CE "LogError") := ok_toldV ve.told scTold rfl (Or.inl rfl) (fun f => rfl) (by rfl) ve.J.g (by decide +kernel) (by decide +kernel) (by decide +kernel)
  have bT : L2.Binds K fdTo ["what"] [] := ve.told.bindsN (ps := ["what"]) fun _ _ _ _ _ _ us hl => match us, hl with | [_], _ => rfl
  have hu := hr.units
  refine ⟨_, ps_if (pt_cmpR (op_neD hu) (pe_lc (own := [("f", 17)]) (g := gName 17) (tt := tTest (tOp rNe (tCall (spToldV P w K mg base 6 CE "LogError") [] E0 (tCons (tVar 17) tNil)) (tC (.str "LogError")))) (te := tC (.int 1)) rfl scLaw.nd (pi_list (pv 10)) (blkOk_by (N := nLaw) (sc := defScope sLaw) (by decide +kernel))
        (fun _ _ _ _ _ => pg_name (i := 17) scLaw.nd rfl (Or.inl rfl)) (fun _ _ _ _ _ => pts_one (pt_cmpR op_ne (pe_call GT (hr.mono (by decide)) (by rfl) ve.gTold ve.told.kp bT .nil pass0 (pa_cons (pv 17) pa_nil)) pe_str (nomark _))) (fun _ _ _ _ _ => pe_int)) (pe_lst pa_nil) (nomark _)) (pss_one (ps_ret pe_bl)) pss_nil, ?_⟩
  intro D σ H l fs hσ hσl hl hlen hb fin
  have zero : 0 ≤ sizeLine := by decide
  refine ⟨_, hσ, l, rfl, ⟨_, SqL.of hl⟩, fun D1 hD1 => ?_⟩
  refine lcG walk_list RInt (fun _ => none) RInt.stab hD1 (by rw [List.length_map, hlen]; decide) (fun H5 e5 => SqL.of (e5 _ _ hl)) (fun i H5 x H6 _ _ h => yat_ex h) (fun j x H5 H6 R0 N0 hj e5 hy hno hsm => ?_) (fun H1 xs e1 hx1 hps => ?_)
  · obtain ⟨rfl, hxi⟩ := hy
    rw [List.getElem?_map] at hxi
    obtain ⟨f, hf, rfl⟩ := Option.map_eq_some_iff.mp hxi
    have hfm := List.mem_of_getElem? hf
    have hw : ((wipe σ [17]).set 17 (some (V.ref f)))[17]? = some (some (V.ref f)) := by
      rw [List.getElem?_set_self]
      rw [wipe_length, hσl]
      decide
    refine ⟨wipe_set, _, hw, toldV_step ((hb f hfm).exN (ExtN.of e5)) fun H7 e7 => ⟨rfl, _, rfl, ?_⟩⟩
    exact ifF (by simp) (hno rfl _ e7)
  · have en : ∀ zs : List Nat, zs.filterMap (fun _ => (none : Option Int)) = [] := fun zs => by
      induction zs with
      | nil => rfl
      | cons a r ih => exact ih
    rw [en] at hps
    cases hps
    refine ⟨zero, fun q hq => ?_⟩
    have h6 : (upd H1 q (.lst [])) q = some (.lst []) := upd_same
    exact ⟨.list [], .list [], .lst (SqL.of (Ex.upd hq _ _ hx1)) .nil, .lst (SqL.of h6) .nil, rfl, rfl, _, rfl, ifF (by decide) (fin _)⟩
theorem law_7 (ve : LawE P w K mg base CR CC CE Pd Pl cL fTo fdTo) (hr : Room 13 (xLaw P w K mg base fL cL A outer s H0 E0').A) :
    ∃ t, PS (xLaw P w K mg base fL cL A outer s H0 E0') ((defBody sLaw).getD 3 pass0') t ∧ ∀ (D : Ends) (σ : L2.St) (H : Hp),
      (∀ H' c dx l, H' c = some (.ins CC dx (cF l 0 true)) → H' l = some (.lst []) → D.nx (σ.set 8 (some (.ref c))) H') → t D σ H := by
  obtain ⟨f1, fd1, G1, M1, b1⟩ := ve.cinit
  refine ⟨_, ps_set (i := 8) scLaw.nd rfl (Or.inr rfl) (pe_make0 M1 G1 (hr.mono (by decide)) (by rfl) ve.BC.gC b1 .nil pass0), ?_⟩
  intro D σ H fin
  exact fun x dx hx hdx nx => cinit_stepR hdx hx fun H' l e hl h1 h2 => ⟨rfl, fin H' x dx l h1 h2⟩
theorem law_8 (ve : LawE P w K mg base CR CC CE Pd Pl cL fTo fdTo) (hr : Room 13 (xLaw P w K mg base fL cL A outer s H0 E0').A) :
    ∃ t, PS (xLaw P w K mg base fL cL A outer s H0 E0') ((defBody sLaw).getD 4 pass0') t ∧ ∀ (D : Ends) (σ : L2.St) (H : Hp) (c dx l : Addr), σ[8]? = some (some (.ref c)) → σ.length = 18 → H c = some (.ins CC dx (cF l 0 true)) → H l = some (.lst []) →
      (∀ H' σ' us, σ'[8]? = some (some (.ref c)) → σ'.length = 18 → Rec3 CC c l us H' → D.nx σ' H') → t D σ H := by
  refine ⟨_, ps_for PassesOwn.never rfl (pi_list (pe_lst (pa_cons (pe_tup (pa_cons pe_int (pa_cons pe_str pa_nil))) (pa_cons (pe_tup (pa_cons pe_int (pa_cons pe_str pa_nil))) (pa_cons (pe_tup (pa_cons pe_int (pa_cons pe_str pa_nil))) pa_nil))))) (pg_name (i := 11) scLaw.nd rfl (Or.inl rfl))
    (pss_one (ps_expr (pe_bm PySem.F.plainAttrs_list PySem.F.slot_list_append PySem.F.type_list_append mt_append (pf 8) (pa_cons (pv 11) pa_nil)))), ?_⟩
  intro D σ H c dx l hσ hσl hc hl fin
  have two : 2 ≤ sizeLine := by decide
  refine ⟨two, fun t0 ht0 => ⟨two, fun t1 ht1 => ⟨two, fun t2 ht2 => ⟨(by show 3 ≤ sizeLine; decide), fun L hL => ?_⟩⟩⟩⟩
  have k0 := Ex.upd (o := .tup [.int 1, .str "x"]) ht0
  have k1 := Ex.upd (o := .tup [.int 1, .str "y"]) ht1
  have k2 := Ex.upd (o := .tup [.int 3, .str "z"]) ht2
  have k3 := Ex.upd (o := .lst [.ref t0, .ref t1, .ref t2]) hL
  have k23 := k2.trans k3
  have k13 := k1.trans k23
  have k03 := k0.trans k13
  have hc3 := k03 _ _ hc
  have hl3 := k03 _ _ hl
  have hL3 : (upd (upd (upd (upd H t0 (.tup [.int 1, .str "x"])) t1 (.tup [.int 1, .str "y"])) t2 (.tup [.int 3, .str "z"])) L (.lst [.ref t0, .ref t1, .ref t2])) L = some (.lst [.ref t0, .ref t1, .ref t2]) := upd_same
  have h0 := k13 _ _ (upd_same (H := H) (a := t0) (o := .tup [.int 1, .str "x"]))
  have h1 := k23 _ _ (upd_same (H := upd H t0 (.tup [.int 1, .str "x"])) (a := t1) (o := .tup [.int 1, .str "y"]))
  have h2 := k3 _ _ (upd_same (H := upd (upd H t0 (.tup [.int 1, .str "x"])) t1 (.tup [.int 1, .str "y"])) (a := t2) (o := .tup [.int 3, .str "z"]))
  have nL : l ≠ L := fun z => by
    have := k0.trans (k1.trans k2) _ _ hl
    rw [z, hL] at this
    cases this
  generalize upd (upd (upd (upd H t0 (.tup [.int 1, .str "x"])) t1 (.tup [.int 1, .str "y"])) t2 (.tup [.int 3, .str "z"])) L (.lst [.ref t0, .ref t1, .ref t2]) = H3 at hc3 hl3 hL3 h0 h1 h2
  refine ⟨L, rfl, ⟨_, SqL.of hL3⟩, for_list (xs := [V.ref t0, .ref t1, .ref t2]) (fun i σ H2 => σ[8]? = some (some (.ref c)) ∧ σ.length = 18 ∧ H2 c = some (.ins CC dx (cF l 0 true)) ∧ H2 l = some (.lst (([t0, t1, t2].take i).map V.ref)) ∧ H2 L = some (.lst [.ref t0, .ref t1, .ref t2]) ∧
      H2 t0 = some (.tup [.int 1, .str "x"]) ∧ H2 t1 = some (.tup [.int 1, .str "y"]) ∧ H2 t2 = some (.tup [.int 3, .str "z"])) ⟨hσ, hσl, hc3, hl3, hL3, h0, h1, h2⟩ (fun i σ H2 _ h => SqL.of h.2.2.2.2.1) ?_ ?_⟩
  · rintro i x σ H2 hx ⟨s8, sl, qc, ql, qL, q0, q1, q2⟩
    have h11 : (σ.set 11 (some x))[11]? = some (some x) := by
      rw [List.getElem?_set_self]
      rw [sl]
      decide
    have h8 : (σ.set 11 (some x))[8]? = some (some (.ref c)) := by
      rw [List.getElem?_set_ne (by decide)]
      exact s8
    have hi : i < 3 := by
      have := (List.getElem?_eq_some_iff.mp hx).1
      exact this
    refine ⟨_, h8, c, CC, dx, _, _, rfl, qc, ve.BC.cl, ve.BC.nR, rfl, .inl ⟨rfl, _, SqL.of ql⟩, _, h11, l, _, _, rfl, rfl, ql, ?_, ?_⟩
    · rw [List.length_map, List.length_take]
      have : sizeLine = 16777216 := rfl
      show min i 3 < _
      omega
    · have nc : c ≠ l := fun z => by rw [z, ql] at qc; cases qc
      have n0 : t0 ≠ l := fun z => by rw [z, ql] at q0; cases q0
      have n1 : t1 ≠ l := fun z => by rw [z, ql] at q1; cases q1
      have n2 : t2 ≠ l := fun z => by rw [z, ql] at q2; cases q2
      refine ⟨h8, by rw [List.length_set]; exact sl, by rw [L2.upd_ne nc]; exact qc, ?_, by rw [L2.upd_ne nL.symm]; exact qL, by rw [L2.upd_ne n0]; exact q0, by rw [L2.upd_ne n1]; exact q1, by rw [L2.upd_ne n2]; exact q2⟩
      rw [upd_same]
      have : i = 0 ∨ i = 1 ∨ i = 2 := by omega
      rcases this with rfl | rfl | rfl <;> (cases hx; rfl)
  · rintro σ H2 ⟨s8, sl, qc, ql, qL, q0, q1, q2⟩
    exact fin H2 σ [t0, t1, t2] s8 sl ⟨⟨dx, qc⟩, ql, .cons ⟨_, q0⟩ (.cons ⟨_, q1⟩ (.cons ⟨_, q2⟩ .nil))⟩
end
end K6
set_option Elab.async false
set_option linter.all false
set_option maxRecDepth 100000
set_option maxHeartbeats 4000000
namespace K6
open PySem PySem.Spec PyProof.Rows L2 KB KC KD KS LamX Q1 R8 Q6 TL
def RPair : Hp → V → Sp2 → Prop := fun H v p => ∃ t, v = .ref t ∧ H t = some (.tup [.int p.1, .int p.2])
theorem RPair.stab : ∀ H H' v a, KT' H H' → RPair H v a → RPair H' v a := fun _ _ _ _ k ⟨t, e, h⟩ => ⟨t, e, k _ _ h⟩
theorem rpair_map {H : Hp} : ∀ {xs : List V} {S : List Sp2}, Paired (RPair H) xs S → ∃ us, xs = us.map V.ref ∧ Ps H us S
  | _, _, .nil => ⟨[], rfl, .nil⟩
  | _, _, .cons ⟨t, e, h⟩ r => by
    obtain ⟨us, e2, p⟩ := rpair_map r
    exact ⟨t :: us, by rw [e, e2]; rfl, .cons h p⟩
theorem end_stepT {C : Addr} {H : Hp} {a dx l : Addr} {f t : Int} {u : Bool} {us : List Addr} {c : Lg} {Q : VK} {E : XK} (o : H a = some (.ins C dx (cF l f u))) (hl : H l = some (.lst (us.map V.ref))) (ts : Ts H us c) (hc : c.length ≤ 1000)
    (fin : ∀ H' q, Ex H H' → H' q = some (.tup [.int (endOf c t).1, .int ((endOf c t).2 : Nat)]) → Q (.ref q) H') : spEnd C [.ref a, .int t] H Q E := by
  unfold spEnd
  exact ⟨a, dx, l, f, t, u, us, c, rfl, o, hl, ts, hc, fin⟩
abbrev c3 : Lg := [(1, 0), (1, 0), (3, 0)]
abbrev tms : List Int := [0, 1, 2, 3, 9]
abbrev ans : List Sp2 := [(0, 0), (1, 2), (1, 2), (3, 3), (3, 3)]
theorem ans_eq : tms.filterMap (fun t => some ((endOf c3 t).1, (((endOf c3 t).2 : Nat) : Int))) = ans := by decide +kernel
def spLaw (K : PySem.W.Frag) (Pd Pl : Addr) : Sp := fun vs H Q _ => ∃ (a : Addr) (ns : List Int), vs = [.ref a] ∧ SqL K H a (ns.map V.int) ∧ Tabs (TT Pd Pl) H ∧ ∀ H', Q (.bl true) H'
section
variable {P : Program} {w : World} {K : PySem.W.Frag} {mg : Str → Option Value} {base : Heap} {CR CC CE Pd Pl cL fTo fL : Addr} {fdTo fdL : FuncData} {A : Around} {outer : List PySem.Env} {s : Shared} {H0 : Hp} {E0' : XK}
theorem law_9 (ve : LawE P w K mg base CR CC CE Pd Pl cL fTo fdTo) (hr : Room 13 (xLaw P w K mg base fL cL A outer s H0 E0').A) :
    ∃ t, PS (xLaw P w K mg base fL cL A outer s H0 E0') ((defBody sLaw).getD 5 pass0') t ∧ ∀ (D : Ends) (σ : L2.St) (H : Hp) (c l : Addr) (us : List Addr), σ[8]? = some (some (.ref c)) → σ.length = 18 → Rec3 CC c l us H → (∀ H', D.rt (.bl true) H') → t D σ H := by
  obtain ⟨f1, fd1, G1, M1, b1⟩ := ve.cinit
  obtain ⟨f2, fd2, G2, m2, b2⟩ := ve.endOf
  have hu := hr.units
  refine ⟨_, ps_ret (pe_and (pe_cmpR (op_eqD hu) (pe_lc (own := [("time", 13)]) (g := gName 13) (tt := tYes) (te := tMeth CC "end_of" (spEnd CC) [] E0 (tVar 8) (tCons (tVar 13) tNil)) rfl scLaw.nd (pi_list (pe_lst (pa_cons pe_int (pa_cons pe_int (pa_cons pe_int (pa_cons pe_int (pa_cons pe_int pa_nil))))))) (blkOk_by (N := nLaw) (sc := defScope sLaw) (by decide +kernel))
        (fun _ _ _ _ _ => pg_name (i := 13) scLaw.nd rfl (Or.inl rfl)) (fun _ _ _ _ _ => pts_nil) (fun _ _ _ _ _ => pe_meth (pv 8) ve.BC.cl m2 G2 (hr.mono (by decide)) b2 .nil pass0 (pa_cons (pv 13) pa_nil)))
      (pe_lst (pa_cons (pe_tup (pa_cons pe_int (pa_cons pe_int pa_nil))) (pa_cons (pe_tup (pa_cons pe_int (pa_cons pe_int pa_nil))) (pa_cons (pe_tup (pa_cons pe_int (pa_cons pe_int pa_nil))) (pa_cons (pe_tup (pa_cons pe_int (pa_cons pe_int pa_nil))) (pa_cons (pe_tup (pa_cons pe_int (pa_cons pe_int pa_nil))) pa_nil)))))) (nomark _))
    (pe_one (pe_cmpR (op_eqD hu) (pe_meth (pe_make0 M1 G1 (hr.mono (by decide)) (by rfl) ve.BC.gC b1 .nil pass0) ve.BC.cl m2 G2 (hr.mono (by decide)) b2 .nil pass0 (pa_cons pe_int pa_nil)) (pe_tup (pa_cons pe_int (pa_cons pe_int pa_nil))) (nomark _)))), ?_⟩
  intro D σ H c l us hσ hσl x fin
  have two : 2 ≤ sizeLine := by decide
  have five : 5 ≤ sizeLine := by decide
  refine ⟨five, fun L hL => ?_⟩
  have eL : Ex H (upd H L (.lst [.int 0, .int 1, .int 2, .int 3, .int 9])) := Ex.upd hL
  have hL1 : (upd H L (.lst [.int 0, .int 1, .int 2, .int 3, .int 9])) L = some (.lst [.int 0, .int 1, .int 2, .int 3, .int 9]) := upd_same
  have x1 := x.ex eL
  refine ⟨L, rfl, ⟨_, SqL.of hL1⟩, fun D1 hD1 => ?_⟩
  refine lcG walk_list RPair (fun j => tms[j]?.bind fun t => some ((endOf c3 t).1, (((endOf c3 t).2 : Nat) : Int))) RPair.stab hD1 (by decide) (fun H5 e5 => SqL.of (e5 _ _ hL1)) (fun i H5 x H6 _ _ h => yat_ex h) (fun j v H5 H6 R0 N0 hj e5 hy hno hsm => ?_) (fun H2 xs e2 hx2 hps => ?_)
  · obtain ⟨rfl, hxi⟩ := hy
    have hxi : (tms.map V.int)[j]? = some v := hxi
    rw [List.getElem?_map] at hxi
    obtain ⟨t, ht, rfl⟩ := Option.map_eq_some_iff.mp hxi
    have h13 : ((wipe σ [13]).set 13 (some (V.int t)))[13]? = some (some (V.int t)) := by
      rw [List.getElem?_set_self]
      rw [wipe_length, hσl]
      decide
    have h8 : ((wipe σ [13]).set 13 (some (V.int t)))[8]? = some (some (V.ref c)) := by
      rw [List.getElem?_set_ne (by decide)]
      show (σ.set 13 none)[8]? = _
      rw [List.getElem?_set_ne (by decide)]
      exact hσ
    have x5 := x1.ex e5
    obtain ⟨dc, hc⟩ := x5.o
    refine ⟨wipe_set, _, h8, c, dc, _, rfl, hc, cF_m (by decide +kernel) (by decide +kernel) (by decide +kernel), _, h13, end_stepT hc x5.l x5.t (by decide) fun H7 q e7 hq => ?_⟩
    exact hsm _ (by rw [ht]; rfl) _ _ e7 ⟨q, rfl, hq⟩
  · have er : (List.range 5).filterMap (fun j => tms[j]?.bind fun t => some ((endOf c3 t).1, (((endOf c3 t).2 : Nat) : Int))) = ans := by
      rw [← ans_eq]
      exact range_fm _ tms
    have er' : (List.range [V.int 0, .int 1, .int 2, .int 3, .int 9].length).filterMap (fun j => tms[j]?.bind fun t => some ((endOf c3 t).1, (((endOf c3 t).2 : Nat) : Int))) = ans := er
    rw [er'] at hps
    obtain ⟨ws, ew, pw⟩ := rpair_map hps
    rw [ew] at hx2
    refine ⟨two, fun u0 k0 => ⟨two, fun u1 k1 => ⟨two, fun u2 k2 => ⟨two, fun u3 k3 => ⟨two, fun u4 k4 => ⟨five, fun M hM => ?_⟩⟩⟩⟩⟩⟩
    have j0 := Ex.upd (o := .tup [.int 0, .int 0]) k0
    have j1 := Ex.upd (o := .tup [.int 1, .int 2]) k1
    have j2 := Ex.upd (o := .tup [.int 1, .int 2]) k2
    have j3 := Ex.upd (o := .tup [.int 3, .int 3]) k3
    have j4 := Ex.upd (o := .tup [.int 3, .int 3]) k4
    have j5 := Ex.upd (o := .lst [.ref u0, .ref u1, .ref u2, .ref u3, .ref u4]) hM
    have j45 := j4.trans j5
    have j35 := j3.trans j45
    have j25 := j2.trans j35
    have j15 := j1.trans j25
    have j05 := j0.trans j15
    have pM : Ps _ [u0, u1, u2, u3, u4] ans := .cons (j15 _ _ upd_same) (.cons (j25 _ _ upd_same) (.cons (j35 _ _ upd_same) (.cons (j45 _ _ upd_same) (.cons (j5 _ _ upd_same) .nil))))
    refine ⟨.list (ans.map pD), .list (ans.map pD), .lst (SqL.of (j05 _ _ hx2)) (Ps.dp (pw.ex fun b xs h => j05 _ _ h)), .lst (SqL.of upd_same) (Ps.dp pM), by decide +kernel, by decide +kernel, true, by decide +kernel, ifT rfl ?_⟩
    refine fun y dy hy hdy ny => cinit_stepR hdy hy fun H6 l6 e6 hl6 h1 h2 => ⟨rfl, ?_⟩
    refine ⟨y, dy, _, rfl, h1, cF_m (by decide +kernel) (by decide +kernel) (by decide +kernel), end_stepT (us := []) (c := []) h1 h2 .nil (by decide) fun H7 q e7 hq => ⟨two, fun z hz => ?_⟩⟩
    refine ⟨.tuple [.int 0, .int 0], .tuple [.int 0, .int 0], .tup (SqT.of (Ex.upd hz _ _ hq)) (.cons (.int _) (.cons (.int _) .nil)), .tup (SqT.of upd_same) (.cons (.int _) (.cons (.int _) .nil)), by decide +kernel, by decide +kernel, ?_⟩
    exact fin _
theorem ok_law (F : FnP K "law" "law" sLaw [] fL fdL) (hc : fdL.code = .ref cL) (ve : LawE P w K mg base CR CC CE Pd Pl cL fTo fdTo) : FnOk P w K mg base CX0 14 fL fdL ["script"] (spLaw K Pd Pl) := by
  refine okC F hc scLaw (fun vs H Q E h => ?_) (fun A outer s H vs Q E hr h => ?_)
  · obtain ⟨_, _, rfl, _⟩ := h; rfl
  · obtain ⟨a, ns, rfl, hS, ht, fin⟩ := h
    obtain ⟨fR, fdR, GR, gR, kR, bR⟩ := ve.rounds
    obtain ⟨t0, d0, q0⟩ := law_0 (fL := fL) (A := A) (outer := outer) (s := s) (H0 := H) (E0' := E) ve hr
    obtain ⟨t1, d1, q1⟩ := law_1 (fL := fL) (A := A) (outer := outer) (s := s) (H0 := H) (E0' := E) ve hr
    obtain ⟨t2, d2, q2⟩ := law_2 (fL := fL) (A := A) (outer := outer) (s := s) (H0 := H) (E0' := E) ve hr
    obtain ⟨t3, d3, q3⟩ := law_3 (fL := fL) (A := A) (outer := outer) (s := s) (H0 := H) (E0' := E) ve hr
    obtain ⟨t4, d4, q4⟩ := law_4 (fL := fL) (A := A) (outer := outer) (s := s) (H0 := H) (E0' := E) ve hr
    obtain ⟨t5, d5, q5⟩ := law_5 (fL := fL) (A := A) (outer := outer) (s := s) (H0 := H) (E0' := E) ve hr
    obtain ⟨t6, d6, q6⟩ := law_6 (fL := fL) (A := A) (outer := outer) (s := s) (H0 := H) (E0' := E) ve hr
    obtain ⟨t7, d7, q7⟩ := law_7 (fL := fL) (A := A) (outer := outer) (s := s) (H0 := H) (E0' := E) ve hr
    obtain ⟨t8, d8, q8⟩ := law_8 (fL := fL) (A := A) (outer := outer) (s := s) (H0 := H) (E0' := E) ve hr
    obtain ⟨t9, d9, q9⟩ := law_9 (fL := fL) (A := A) (outer := outer) (s := s) (H0 := H) (E0' := E) ve hr
    have dBody : PSs (xLaw P w K mg base fL cL A outer s H E) law0 _ := pss_cons d0 (pss_cons d1 (pss_cons d2 (pss_cons d3 (pss_one d4))))
    refine ⟨_, PSs.nox <| (pss_cons (ps_for PassesOwn.never rfl (pi_list (pe_call GR (hr.mono (by decide)) (by rfl) gR kR bR .nil pass0 (pa_cons (pv 0) (pa_cons pe_int pa_nil)))) (pg_name (i := 1) scLaw.nd rfl (Or.inl rfl)) dBody) (pss_cons d5 (pss_cons d6 (pss_cons d7 (pss_cons d8 (pss_one d9))))) : PSs (xLaw P w K mg base fL cL A outer s H E) (defBody sLaw) _), ?_⟩
    refine ⟨_, rfl, rounds_step hS fun H1 p d e1 hp hd => ⟨p, rfl, ⟨_, SqL.of hp⟩, for_list (xs := [V.ref d]) (fun i σ H2 => Tabs (TT Pd Pl) H2 ∧ H2 p = some (.lst [.ref d]) ∧ σ.length = 18 ∧ (i = 0 → σ = L2.start nLaw [.ref a] ∧ H2 = H1)) ⟨ht.ext e1, hp, rfl, fun _ => ⟨rfl, rfl⟩⟩ (fun i σ H2 _ h => SqL.of h.2.1) ?_ ?_⟩⟩
    · rintro i x σ H2 hx ⟨tt, hp2, _, hi⟩
      cases i with
      | succ i => cases hx
      | zero =>
        obtain ⟨rfl, rfl⟩ := hi rfl
        cases hx
        have B0 : Bs Pd Pl d p H2 := ⟨hd, tt, hp2⟩
        refine q0 _ _ _ _ _ _ _ _ _ _ _ _ _ _ _ _ _ _ H2 d p B0 fun H3 na ns' B3 nd hna ok => ?_
        refine q1 _ _ _ _ _ _ _ _ _ _ _ _ _ _ _ _ _ H3 d p na ns' B3 nd hna ok fun H4 least B4 hna4 l1 l2 => ?_
        refine q2 _ _ _ _ _ _ _ _ _ _ _ _ _ _ _ _ H4 d p na ns' least B4 hna4 ok l1 l2 fun H5 g dc kl ke ca la e5 nkl nla gr nke hke kla => ?_
        have B5 := B4.ex e5
        obtain ⟨da, db, dk, hd4⟩ := B4.dice
        refine q3 _ _ _ _ _ _ _ _ _ _ _ _ _ _ _ _ _ H5 d p na g dc kl ca la ns' least B5 nd (e5 _ _ hna4) ok gr (ne_of_none hd4 nkl) (fun n hn => ⟨ne_of_none hd4 (nla n hn), ne_of_none hna4 (nla n hn)⟩) fun H6 ow okl ou e6 x6 => ?_
        have ha : ("a" : Str) ∈ ns' := List.mem_of_head? ok.hd
        have L0 : Ls CR CC Pd Pl ns' least d p g dc kl ow okl ou na ke ca la (rp0 "a" ns') ns' 0 (fun _ => []) [] [] [] 0 H6 :=
          ⟨x6, ⟨ok_rp0 ha (List.Perm.refl _) ok.nd, ok.so, ok.nd, fun m => ⟨fun h => ⟨h, rfl⟩, fun h => h.1⟩, ok.nd⟩, fun n _ => Nat.le_refl _, e6 _ _ B5.hp, B5.ne, fun n hn => ne_of_none B4.hp (nla n hn), e6 _ _ hke, .nil, (ne_of_none hd4 nke).symm, kla, List.prefix_refl _, fun z => nomatch z⟩
        refine q4 _ _ _ _ _ _ _ _ _ _ _ _ _ H6 ns' least d p g dc kl ow okl ou na ke ca la _ _ _ _ L0 ok fun H7 σ' t7 p7 l7 => ?_
        exact ⟨t7, p7, l7, fun z => nomatch z⟩
    · rintro σ H2 ⟨tt, hp2, hl, _⟩
      refine q5 _ σ H2 tt fun H3 l fs h3 hl3 hb3 => ?_
      have l1 : (σ.set 10 (some (V.ref l))).length = 18 := by rw [List.length_set, hl]
      refine q6 _ _ H3 l fs ?_ l1 h3 hl3 hb3 fun H4 => ?_
      · rw [List.getElem?_set_self]
        rw [hl]
        decide
      refine q7 _ _ H4 fun H5 c dx l5 hc5 hl5 => ?_
      refine q8 _ _ H5 c dx l5 ?_ (by rw [List.length_set]; exact l1) hc5 hl5 fun H6 σ' us s8 sl x6 => ?_
      · rw [List.getElem?_set_self]
        rw [l1]
        decide
      exact q9 _ σ' H6 c l5 us s8 sl x6 fun H' => fin H'
end
end K6
set_option Elab.async false
set_option linter.all false
set_option maxRecDepth 100000
set_option maxHeartbeats 0
namespace K6
open PySem PySem.Spec PyProof.Rows L2
def dD (x : Str) (st : Stmt) : He.DefD := ⟨(x, none), x, x, defArgs st, defBody st, defScope st, [], []⟩
def dM (c m q : Str) (st : Stmt) : He.DefD := ⟨(c, some m), m, q, defArgs st, defBody st, defScope st, [], []⟩
def fnL : List He.DefD := [dD "_law_dice" sDice, dD "_law_roll" sRoll, dD "_law_rounds" sRounds, dD "_law_told" sTold, dD "_law_firm" sFirm, dD "_law_states" sStates, dD "_law_deed" sDeed, dD "law" sLaw, dM "Copy" "__init__" "Copy.__init__" (sCM 0), dM "Copy" "end_of" "Copy.end_of" (sCM 1), dM "Replicas" "__init__" "Replicas.__init__" (sRM 0), dM "Replicas" "leading" "Replicas.leading" (sRM 1), dM "Replicas" "append" "Replicas.append" (sRM 2), dM "Replicas" "make_firm" "Replicas.make_firm" (sRM 3), dM "Replicas" "is_kept" "Replicas.is_kept" (sRM 4), dM "Replicas" "pull" "Replicas.pull" (sRM 5), dM "Replicas" "cut" "Replicas.cut" (sRM 6), dM "Replicas" "go_down" "Replicas.go_down" (sRM 7), dM "Replicas" "come_up" "Replicas.come_up" (sRM 8), dM "Replicas" "elect" "Replicas.elect" (sRM 9), dM "Replicas" "drop_slow" "Replicas.drop_slow" (sRM 10), dM "Replicas" "read" "Replicas.read" (sRM 11)]
def faL : List He.Fa := [.glo "_law_dice", .glo "_law_roll", .glo "_law_rounds", .glo "_law_told", .glo "_law_firm", .glo "_law_states", .glo "_law_deed", .glo "law", .glo "Copy", .glo "Replicas", .glo "LogError", .free "abs", .free "int", .free "range", .free "dict", .free "list", .free "tuple", .free "len", .free "sorted", .free "max", .free "min", .free "reversed", .cls "Copy", .noat "Copy" "records", .noat "Copy" "firm", .noat "Copy" "is_up", .mkr "Copy", .meth "Copy" "end_of", .cls "Replicas", .noat "Replicas" "copies", .noat "Replicas" "leader", .noat "Replicas" "time", .noat "Replicas" "keeping", .noat "Replicas" "least", .mkr "Replicas", .meth "Replicas" "leading", .meth "Replicas" "append", .meth "Replicas" "make_firm", .meth "Replicas" "is_kept", .meth "Replicas" "pull", .meth "Replicas" "cut", .meth "Replicas" "go_down", .meth "Replicas" "come_up", .meth "Replicas" "elect", .meth "Replicas" "drop_slow", .meth "Replicas" "read", .exc "LogError", .exm "LogError" "LogError" true, .int "MOST_COPIES" 9]
def tD : He.Defn := ("_law_deed", none)
def tL : He.Defn := ("law", none)
def tfL : List He.Defn := [tD, tL]
def exL (K : PySem.W.Frag) : Bool := ((He.cT K tD).2 != (He.cT K tL).2)
abbrev RL : PySem.W.OpenRow := PySem.W.OpenLaw.row PySem.Challenge.rw_streamstack_k16_copies_that_lose_nothing
abbrev hkL : PySem.W.Hook := He.hookX 6 faL fnL [] tfL exL
def obL (s : PySem.W.SharedT) : He.AlX := He.obsX 6 faL fnL [] tfL exL (HandSHeadRun.getT s)
theorem obL_eq (s : PySem.W.SharedT) : obL s = hkL.obs s.abs := He.obsX_eq (HandSHeadRun.getT_eq s)
def looseL : List Str := ["StreamError", "LogError", "MOST_COPIES", "Copy", "Replicas", "_law_dice", "_law_roll", "_law_rounds", "_law_told", "_law_firm", "_law_states", "_law_deed"]
theorem runL (w : World) : HandSHeadRun.RunEq RL (PySem.W.view RL.prog [15]) hkL obL 3000 looseL w := by
  intro os
  kernel_rfl
end K6
set_option Elab.async false
set_option linter.all false
set_option maxRecDepth 100000
set_option maxHeartbeats 4000000
namespace K6
open PySem PySem.Spec PyProof.Rows L2 KB KC KD KS LamX Q1 R8 Q6 TL
theorem code_at {K : PySem.W.Frag} {x q : Str} {st : Stmt} {dvs : List V} {p : He.Defn} {fd : FuncData} (F : FnP K x q st dvs (He.fAd K p) fd) : fd.code = .ref (He.cT K p).1 := by
  obtain ⟨oc, od, dV, kV, doc, pm, an, cdv, ct, osl, rfl, lk, hcd, _, _⟩ := F.ex
  obtain ⟨c, e⟩ := He.codeIn_ref hcd
  subst e
  have z : He.codeOf K p = c := He.codeOf_eq lk rfl
  show Value.ref c = Value.ref (He.codeOf K p)
  rw [z]
def pickL (K : PySem.W.Frag) : List (Addr × Addr) := [He.cT K tD, He.cT K tL]
theorem lawAt {w : World} {mg : Str → Option Value} {fa : Addr} {h : Heap} {K : PySem.W.Frag} (X : K.In h) (G : h.Ns mainGlobals mg) (hmg : mg ("law" : Str) = some (.ref fa)) (c : He.SaysX faL fnL [] tfL exL w h K) :
    LawAtS PySem.Challenge.rw_streamstack_k16_copies_that_lose_nothing w K CX0 14 63 "script" mg fa h := by
  have D := c.t.d
  obtain ⟨fd0, F0⟩ := D.def_ 0 (d := dD "_law_dice" sDice) rfl
  obtain ⟨fd1, F1⟩ := D.def_ 1 (d := dD "_law_roll" sRoll) rfl
  obtain ⟨fd2, F2⟩ := D.def_ 2 (d := dD "_law_rounds" sRounds) rfl
  obtain ⟨fd3, F3⟩ := D.def_ 3 (d := dD "_law_told" sTold) rfl
  obtain ⟨fd4, F4⟩ := D.def_ 4 (d := dD "_law_firm" sFirm) rfl
  obtain ⟨fd5, F5⟩ := D.def_ 5 (d := dD "_law_states" sStates) rfl
  obtain ⟨fd6, F6⟩ := D.def_ 6 (d := dD "_law_deed" sDeed) rfl
  obtain ⟨fd7, F7⟩ := D.def_ 7 (d := dD "law" sLaw) rfl
  obtain ⟨fd8, F8⟩ := D.def_ 8 (d := dM "Copy" "__init__" "Copy.__init__" (sCM 0)) rfl
  obtain ⟨fd9, F9⟩ := D.def_ 9 (d := dM "Copy" "end_of" "Copy.end_of" (sCM 1)) rfl
  obtain ⟨fd10, F10⟩ := D.def_ 10 (d := dM "Replicas" "__init__" "Replicas.__init__" (sRM 0)) rfl
  obtain ⟨fd11, F11⟩ := D.def_ 11 (d := dM "Replicas" "leading" "Replicas.leading" (sRM 1)) rfl
  obtain ⟨fd12, F12⟩ := D.def_ 12 (d := dM "Replicas" "append" "Replicas.append" (sRM 2)) rfl
  obtain ⟨fd13, F13⟩ := D.def_ 13 (d := dM "Replicas" "make_firm" "Replicas.make_firm" (sRM 3)) rfl
  obtain ⟨fd14, F14⟩ := D.def_ 14 (d := dM "Replicas" "is_kept" "Replicas.is_kept" (sRM 4)) rfl
  obtain ⟨fd15, F15⟩ := D.def_ 15 (d := dM "Replicas" "pull" "Replicas.pull" (sRM 5)) rfl
  obtain ⟨fd16, F16⟩ := D.def_ 16 (d := dM "Replicas" "cut" "Replicas.cut" (sRM 6)) rfl
  obtain ⟨fd17, F17⟩ := D.def_ 17 (d := dM "Replicas" "go_down" "Replicas.go_down" (sRM 7)) rfl
  obtain ⟨fd18, F18⟩ := D.def_ 18 (d := dM "Replicas" "come_up" "Replicas.come_up" (sRM 8)) rfl
  obtain ⟨fd19, F19⟩ := D.def_ 19 (d := dM "Replicas" "elect" "Replicas.elect" (sRM 9)) rfl
  obtain ⟨fd20, F20⟩ := D.def_ 20 (d := dM "Replicas" "drop_slow" "Replicas.drop_slow" (sRM 10)) rfl
  obtain ⟨fd21, F21⟩ := D.def_ 21 (d := dM "Replicas" "read" "Replicas.read" (sRM 11)) rfl
  have gl : ∀ (i : Nat) (x : Str), faL[i]? = some (.glo x) → mg x = some (.ref (He.ga K x)) := fun i x h => He.glo_ok X G (D.fact i h)
  have fr : ∀ (i : Nat) (x : Str), faL[i]? = some (.free x) → mg x = none := fun i x h => He.free_ok X G (D.fact i h)
  have me : ∀ (i : Nat) (C m : Str), faL[i]? = some (.meth C m) → Meth K (He.ga K C) m (He.ma K (He.ga K C) m) := fun i C m h => He.meth_ok (D.fact i h)
  have na : ∀ (i : Nat) (C m : Str), faL[i]? = some (.noat C m) → NoAttr K (He.ga K C) m := fun i C m h => He.noat_ok (D.fact i h)
  have T : TxtL mg := ⟨fr 11 _ rfl, fr 12 _ rfl, fr 13 _ rfl, fr 14 _ rfl, fr 15 _ rfl, fr 16 _ rfl, fr 17 _ rfl, fr 18 _ rfl, fr 19 _ rfl, fr 20 _ rfl, fr 21 _ rfl⟩
  have BC : TxtC K mg (He.ga K "Copy") := ⟨He.cls_ok (D.fact 22 (f := .cls "Copy") rfl), na 23 _ _ rfl, na 24 _ _ rfl, na 25 _ _ rfl, gl 8 _ rfl⟩
  have B : TxtR K mg (He.ga K "Replicas") := ⟨He.cls_ok (D.fact 28 (f := .cls "Replicas") rfl), na 29 _ _ rfl, na 30 _ _ rfl, na 31 _ _ rfl, na 32 _ _ rfl, na 33 _ _ rfl, gl 9 _ rfl⟩
  obtain ⟨x1, x2, x3, x4⟩ := He.exc_ok (D.fact 46 (f := .exc "LogError") rfl)
  have J : TxtX K mg (He.ga K "LogError") := ⟨gl 10 _ rfl, x1, x2, x3, x4, He.exm_ok (D.fact 47 (f := .exm "LogError" "LogError" true) rfl)⟩
  have hM : ∃ t, mg "MOST_COPIES" = some (.int 9 t) := He.int_ok X G (D.fact 48 (f := .int "MOST_COPIES" 9) rfl)
  have MC := He.mkr_ok (D.fact 26 (f := .mkr "Copy") rfl)
  have MR := He.mkr_ok (D.fact 34 (f := .mkr "Replicas") rfl)
  have mL := me 35 _ _ rfl
  have mM := me 37 _ _ rfl
  have mCt := me 40 _ _ rfl
  have mE := me 27 _ _ rfl
  have hex := c.more
  unfold exL at hex
  rw [bne_iff_ne] at hex
  have ap : (He.cT K tD).2 ≠ (He.cT K tL).2 := hex
  have e := hmg.symm.trans (gl 7 _ rfl)
  cases e
  have memL : ∀ p ∈ pickL K, ∃ q ∈ tfL, p = He.cT K q := fun p hp => by
    rcases List.mem_cons.mp hp with rfl | hp
    · exact ⟨tD, List.mem_cons_self .., rfl⟩
    rcases List.mem_cons.mp hp with rfl | hp
    · exact ⟨tL, List.mem_cons_of_mem _ (List.mem_cons_self ..), rfl⟩
    cases hp
  refine ⟨fd7, pickL K, spLaw K (He.cT K tD).2 (He.cT K tL).2, fun p hp => ?_, fun p hp => ?_, fun p hp => ?_, fun s u => ?_, fun H a ns hl hb hT hS => ?_, fun base KB GB TB => ?_⟩
  · obtain ⟨q, hq, rfl⟩ := memL p hp
    exact c.empty q hq
  · obtain ⟨q, hq, rfl⟩ := memL p hp
    exact c.out q hq
  · obtain ⟨q, hq, rfl⟩ := memL p hp
    exact PySem.W.codeHd_of_K X (c.hd q hq)
  · exact F7.bindsA (ps := ["script"]) (fun _ _ _ _ _ _ us hl => match us, hl with | [_], _ => rfl) s [u] rfl
  · refine ⟨a, ns, rfl, hS, fun p hp => ?_, fun _ => rfl⟩
    rcases List.mem_cons.mp hp with rfl | hp
    · exact TabS.nil (hT (He.cT K tD) (List.mem_cons_self ..))
    rcases List.mem_cons.mp hp with rfl | hp
    · exact TabS.nil (hT (He.cT K tL) (List.mem_cons_of_mem _ (List.mem_cons_self ..)))
    cases hp
  · have tbD := TB (He.cT K tD) (List.mem_cons_self ..)
    have tbL := TB (He.cT K tL) (List.mem_cons_of_mem _ (List.mem_cons_self ..))
    have de : DeedE PySem.Challenge.rw_streamstack_k16_copies_that_lose_nothing.prog w K mg base (He.ga K "Replicas") (He.ga K "Copy") (He.ga K "LogError") (He.cT K tD).2 (He.cT K tL).2 (He.cT K tD).1 (He.ga K "_law_told") fd3 :=
      { T := T, J := J, B := B, BC := BC, TBd := tbD, ap := ap
        roll := ⟨_, _, ok_roll F1 T, gl 1 _ rfl, F1.kp, F1.bindsN fun _ _ _ _ _ _ us hl => match us, hl with | [_, _], _ => rfl⟩
        append := ⟨_, _, ok_append F12 B BC J T F11 mL F13 mM, me 36 _ _ rfl, F12.bindsN fun _ _ _ _ _ _ us hl => match us, hl with | [_, _], _ => rfl⟩
        pull := ⟨_, _, ok_pull F15 B BC J T F11 mL F13 mM F16 mCt F9 mE, me 39 _ _ rfl, F15.bindsN fun _ _ _ _ _ _ us hl => match us, hl with | [_, _, _], _ => rfl⟩
        down := ⟨_, _, ok_down F17 B BC J T F13 mM, me 41 _ _ rfl, F17.bindsN fun _ _ _ _ _ _ us hl => match us, hl with | [_, _], _ => rfl⟩
        come := ⟨_, _, ok_up F18 B BC J, me 42 _ _ rfl, F18.bindsN fun _ _ _ _ _ _ us hl => match us, hl with | [_, _], _ => rfl⟩
        elect := ⟨_, _, ok_elect F19 B BC J T F11 mL F13 mM F16 mCt F9 mE, me 43 _ _ rfl, F19.bindsN fun _ _ _ _ _ _ us hl => match us, hl with | [_], _ => rfl⟩
        drop := ⟨_, _, ok_drop F20 B BC J T F11 mL F13 mM, me 44 _ _ rfl, F20.bindsN fun _ _ _ _ _ _ us hl => match us, hl with | [_, _], _ => rfl⟩
        told := F3
        gTold := gl 3 _ rfl }
    have ve : LawE PySem.Challenge.rw_streamstack_k16_copies_that_lose_nothing.prog w K mg base (He.ga K "Replicas") (He.ga K "Copy") (He.ga K "LogError") (He.cT K tD).2 (He.cT K tL).2 (He.cT K tL).1 (He.ga K "_law_told") fd3 :=
      { T := T, J := J, B := B, BC := BC, TBl := tbL, ap := ap
        rounds := ⟨_, _, ok_rounds F2 T F0 (gl 0 _ rfl), gl 2 _ rfl, F2.kp, F2.bindsN fun _ _ _ _ _ _ us hl => match us, hl with | [_, _], _ => rfl⟩
        roll := ⟨_, _, ok_roll F1 T, gl 1 _ rfl, F1.kp, F1.bindsN fun _ _ _ _ _ _ us hl => match us, hl with | [_, _], _ => rfl⟩
        deed := ⟨_, _, ok_deed F6 (code_at (p := tD) (st := sDeed) (dvs := []) F6) de, gl 6 _ rfl, F6.kp, F6.bindsN fun _ _ _ _ _ _ us hl => match us, hl with | [_, _, _, _, _, _], _ => rfl⟩
        states := ⟨_, _, ok_lstates F5 B BC T, gl 5 _ rfl, F5.kp, F5.bindsN fun _ _ _ _ _ _ us hl => match us, hl with | [_, _], _ => rfl⟩
        firm := ⟨_, _, ok_lfirm F4 BC T, gl 4 _ rfl, F4.kp, F4.bindsN fun _ _ _ _ _ _ us hl => match us, hl with | [_, _], _ => rfl⟩
        rinit := ⟨_, _, ok_rinit F10 B BC J T hM MC F8, MR, F10.bindsN fun _ _ _ _ _ _ us hl => match us, hl with | [_, _, _], _ => rfl⟩
        cinit := ⟨_, _, ok_cinit F8 BC, MC, F8.bindsN fun _ _ _ _ _ _ us hl => match us, hl with | [_], _ => rfl⟩
        endOf := ⟨_, _, ok_end F9 BC T, mE, F9.bindsN fun _ _ _ _ _ _ us hl => match us, hl with | [_, _], _ => rfl⟩
        kept := ⟨_, _, ok_kept F14 B BC J F11 mL, me 38 _ _ rfl, F14.bindsN fun _ _ _ _ _ _ us hl => match us, hl with | [_, _], _ => rfl⟩
        read := ⟨_, _, ok_read F21 B BC J T, me 45 _ _ rfl, F21.bindsN fun _ _ _ _ _ _ us hl => match us, hl with | [_, _, _], _ => rfl⟩
        pull := ⟨_, _, ok_pull F15 B BC J T F11 mL F13 mM F16 mCt F9 mE, me 39 _ _ rfl, F15.bindsN fun _ _ _ _ _ _ us hl => match us, hl with | [_, _, _], _ => rfl⟩
        down := ⟨_, _, ok_down F17 B BC J T F13 mM, me 41 _ _ rfl, F17.bindsN fun _ _ _ _ _ _ us hl => match us, hl with | [_, _], _ => rfl⟩
        come := ⟨_, _, ok_up F18 B BC J, me 42 _ _ rfl, F18.bindsN fun _ _ _ _ _ _ us hl => match us, hl with | [_, _], _ => rfl⟩
        drop := ⟨_, _, ok_drop F20 B BC J T F11 mL F13 mM, me 44 _ _ rfl, F20.bindsN fun _ _ _ _ _ _ us hl => match us, hl with | [_, _], _ => rfl⟩
        told := F3
        gTold := gl 3 _ rfl }
    exact ok_law F7 (code_at (p := tL) (st := sLaw) (dvs := []) F7) ve
end K6
open PySem PySem.W PySem.Calls PyProof.Rows
theorem PySem.Challenge.cw_streamstack_k16_copies_that_lose_nothing_holds : PySem.Challenge.rw_streamstack_k16_copies_that_lose_nothing.Holds := by
  w_on; o_law
  refine HandSHeadRun.head_any (r := OpenLaw.row PySem.Challenge.rw_streamstack_k16_copies_that_lose_nothing) (q := view (OpenLaw.row PySem.Challenge.rw_streamstack_k16_copies_that_lose_nothing).prog [15]) (H := K6.hkL) (ob := K6.obL) (M := 3000) (loose := K6.looseL) (d := HandSHeadRun.topDef (OpenLaw.row PySem.Challenge.rw_streamstack_k16_copies_that_lose_nothing).prog 15) (kwd := []) K6.obL_eq
    (by kernel_rfl) (fun s => by kernel_rfl) K6.runL (by kernel_rfl) (by kernel_rfl) (by kernel_rfl) (by rfl) (by first | assumption | decide +kernel) (by decide +kernel) ⟨rfl, rfl, rfl, rfl, rfl, by decide +kernel⟩ ?hw ?hc
  case hw => w_witness2
  case hc =>
    refine LamX.walk_ofTsE (l := PySem.Challenge.rw_streamstack_k16_copies_that_lose_nothing) (n := 63) (k := 14) (x := "script") (CX := fun _ => L2.CX0) rfl (by decide) (by kernel_rfl) ⟨rfl, by decide, by decide⟩ ?F (fun _ _ _ _ _ z => z)
    intro w mg fa h Y G hmg0
    obtain ⟨K, KX, c⟩ := Y
    have hmg : mg ("law" : PySem.Str) = some (.ref fa) := by
      have e : (HandSHeadRun.topDef (OpenLaw.row PySem.Challenge.rw_streamstack_k16_copies_that_lose_nothing).prog 15).name = ("law" : PySem.Str) := by kernel_rfl
      rw [← e]
      exact hmg0
    exact ⟨K, KX, K6.lawAt KX G hmg c⟩
