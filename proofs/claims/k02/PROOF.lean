import PyProof.Rows.All
import Wide.All
import OpenK.AllK
import Wide.FinOn
import HandS.ForMost
import HandS.Lambda
import HandS.AnyAll
import HandS.EndTab
import HandS.TupAny
import HandS.Zip
import HandS.DictTup
import HandS.Codes
import HandS.ExcOwn
import HandS.TryOnly
import HandS.IsInst
import HandS.Wide
import HandS.DictComp
import HandS.DictEq
import HandS.ListItems
import KE.LtSeq
import KE.KSortTup
import HandS.SortOrd
import HandS.SortKw
import HandS.SortRule
import KE.KDictPairs
import KE.KDictWalk
import PyProof.DictMoreH
import HandS.Defaults
import PySem.Challenge.RW_streamstack_k02_rows_with_weights
import HandS.Walk
import HandS.TupLen
import HandS.WordsExc
import KE.KStateDown
import Lean
import HandS.Ends
import HandS.More
import HandS.Words
import HandS.Head0
import HandS.Head1
import HandS.Head2
import HandS.HeadEnd
import HandS.HeadHook1
import HandS.HeadHook2
import HandS.HeadHook3
import HandS.HeadHook4
import HandS.HeadWalk
set_option Elab.async false
set_option linter.all false
set_option maxRecDepth 100000
set_option maxHeartbeats 4000000
namespace KB
open PySem PySem.Spec PyProof.Rows L2
section
variable {prog : Program} {w : World} {K : Type} [DecidableEq K] {knd : HeapKind prog w K} {A : Around} {E : Value → Shared → Prop} {s : Shared}
def hitH (ys : List (K × Addr × Value)) (eqb : Value → Value → Bool) (x : K × Addr × Value) : Bool :=
  match atKey ys x.1 with
  | none => false
  | some q => eqb x.2.2 q.2
theorem samePairsH {nm : String} {a b : Addr} {xs ys : List (K × Addr × Value)} {eqb : Value → Value → Bool} {Q : Bool → Shared → Prop} (ha : (a == sysModules) = false) (hb : (b == sysModules) = false)
    (da : s.heap.DictOfH knd a xs) (db : s.heap.DictOfH knd b ys) (hu : knd.room A)
    (heq : ∀ x ∈ xs, ∀ q, atKey ys x.1 = some q → ∀ (R : Bool → Shared → Prop) (F : Value → Shared → Prop), R (eqb x.2.2 q.2) s → wpAny (model prog w) A (eqBool x.2.2 q.2) R F s)
    (h : Q (xs.length == ys.length && xs.all (hitH ys eqb)) s) :
    wpAny (model prog w) A (Builtin.Dict.samePairs nm a b) Q E s := by
  obtain ⟨oa, es, ep, hoa, _, hda, hka, hia, hna⟩ := da
  obtain ⟨ob, es', ep', hob, _, hdb, hkb, hib, hnb⟩ := db
  have hla : xs.length = es.size := (size_of_entries hka).symm
  have hlb : ys.length = es'.size := (size_of_entries hkb).symm
  rw [hla, hlb] at h
  unfold Builtin.Dict.samePairs Builtin.Dict.showsAll
  rw [if_neg (show ¬ (a == sysModules) = true by rw [ha]; exact Bool.false_ne_true), if_neg (show ¬ (b == sysModules) = true by rw [hb]; exact Bool.false_ne_true)]
  refine wpAny_bind (wpAny_pure (wpAny_bind (wpAny_pure ?_)))
  refine wpAny_bind (wpAny_dictEntries hoa hda ?_)
  dsimp only
  refine wpAny_bind (wpAny_dictEntries hob hdb ?_)
  by_cases hsz : es.size = es'.size
  case neg =>
    rw [if_pos (by simpa using hsz)]
    have hbf : (es.size == es'.size) = false := by simpa using hsz
    rw [hbf, Bool.false_and] at h
    exact wpAny_bind (wpAny_rule (wpAny_pure h))
  case pos =>
    have h' : Q (xs.all (hitH ys eqb)) s := by simpa [hsz] using h
    rw [if_neg (by rw [hsz]; simp)]
    refine wpAny_bind (wpAny_dictEpoch hoa hda ?_)
    refine wpAny_bind ?_
    rw [Std.Legacy.Range.forIn_eq_forIn_range']
    simp only [Std.Legacy.Range.size, Nat.sub_zero, Nat.add_sub_cancel, Nat.div_one]
    refine wpAny_forIn_list _
      (fun rest q s' => s' = s ∧ q = (none, ()) ∧ ∃ i, rest = List.range' i (es.size - i) ∧ i ≤ es.size ∧ (xs.drop i).all (hitH ys eqb) = xs.all (hitH ys eqb))
      _ ?_ ?_ _ _ ⟨rfl, rfl, 0, by simp, Nat.zero_le _, by simp⟩
    · rintro x rest q s' ⟨rfl, rfl, i, hr, hi, hpre⟩
      have hlt : i < es.size := by
        rcases Nat.lt_or_ge i es.size with h | h
        · exact h
        · rw [Nat.sub_eq_zero_of_le h] at hr; simp at hr
      obtain ⟨rfl, hrest⟩ : x = i ∧ rest = List.range' (i + 1) (es.size - (i + 1)) := by
        have e : es.size - i = (es.size - (i + 1)) + 1 := by omega
        rw [e, List.range'_succ] at hr
        injection hr with h1 h2
        exact ⟨h1, h2⟩
      refine wpAny_bind (wpAny_dictEntries hoa hda ?_)
      have hlt' : x < xs.length := by rw [hla]; exact hlt
      obtain ⟨k, c, v, hkv⟩ : ∃ k c v, xs[x] = (k, c, v) := ⟨_, _, _, rfl⟩
      have hdrop : xs.drop x = (k, c, v) :: xs.drop (x + 1) := by rw [← hkv]; exact List.drop_eq_getElem_cons hlt'
      have hget : xs[x]? = some (k, c, v) := by rw [List.getElem?_eq_getElem hlt', hkv]
      have hmem : (k, c, v) ∈ xs := List.mem_of_getElem? hget
      have hex : es[x]? = some (entryOfKey knd (k, c, v)) := by rw [entry_at hka x, hget]; rfl
      rw [hex]
      rw [hdrop, List.all_cons] at hpre
      have hkey : knd.is s'.heap k c := hia _ hmem
      show wpAny _ _ (holding [Value.ref c, v] _ >>= _) _ _ _
      refine wpAny_bind (wpAny_holding (wpAny_bind (wpAny_dictFind_heap hu hkey hob hdb hkb hib hnb ?_ ?_)))
      · intro hno
        have hn : atKey ys k = none := atKey_none_of_get hno
        have e1 : hitH ys eqb (k, c, v) = false := by unfold hitH; simp only [hn]
        rw [e1, Bool.false_and] at hpre
        rw [← hpre] at h'
        refine wpAny_pure ?_
        show wpAny _ _ (if (!false) = true then _ else _) _ _ _
        rw [if_pos (by decide)]
        exact wpAny_pure (wpAny_pure h')
      · intro j p hj
        have hp : atKey ys k = some p := atKey_of_get hnb hj
        have e1 : hitH ys eqb (k, c, v) = eqb v p.2 := by unfold hitH; simp only [hp]
        have hey : es'[j]? = some (entryOfKey knd (k, p)) := by rw [entry_at hkb j, hj]; rfl
        refine wpAny_bind (wpAny_dictEntries hob hdb ?_)
        rw [hey]
        refine wpAny_holding (heq _ hmem p hp _ _ ?_)
        show wpAny _ _ (if (!eqb v p.2) = true then _ else _) _ _ _
        cases he : eqb v p.2 with
        | false =>
          rw [e1, he, Bool.false_and] at hpre
          rw [← hpre] at h'
          rw [if_pos (by decide)]
          exact wpAny_pure (wpAny_pure h')
        | true =>
          rw [e1, he, Bool.true_and] at hpre
          rw [if_neg (by decide)]
          refine wpAny_bind (wpAny_dictEpoch hoa hda ?_)
          rw [if_neg (by simp)]
          exact wpAny_pure ⟨rfl, rfl, x + 1, hrest, hlt, hpre⟩
    · rintro q s' ⟨rfl, rfl, i, hr, hi, hpre⟩
      have hin : i = es.size := by
        rcases Nat.lt_or_ge i es.size with h | h
        · have e : es.size - i = (es.size - (i + 1)) + 1 := by omega
          rw [e, List.range'_succ] at hr; exact nomatch hr
        · exact Nat.le_antisymm hi h
      have e2 : xs.all (hitH ys eqb) = true := by
        rw [← hpre, hin, ← hla, List.drop_length]; rfl
      rw [e2] at h'
      exact wpAny_pure h'
end
section
variable {prog : Program} {w : World} {K : Type} [DecidableEq K] {knd : HeapKind prog w K} {A : Around} {E : Value → Shared → Prop} {s : Shared}
theorem eqH {a b : Addr} {xs ys : List (K × Addr × Value)} {eqb : Value → Value → Bool} {Q : Value → Shared → Prop} (ha : (a == sysModules) = false) (hb : (b == sysModules) = false)
    (da : s.heap.DictOfH knd a xs) (db : s.heap.DictOfH knd b ys) (hA : A.units < cLine) (hu : knd.room A.in1)
    (heq : ∀ x ∈ xs, ∀ q, atKey ys x.1 = some q → ∀ (R : Bool → Shared → Prop) (F : Value → Shared → Prop), R (eqb x.2.2 q.2) s → wpAny (model prog w) A.in1 (eqBool x.2.2 q.2) R F s)
    (h : Q (.bool (xs.length == ys.length && xs.all (hitH ys eqb))) s) :
    wpAny (model prog w) A (compareOp .Eq (.ref a) (.ref b)) Q E s := by
  refine wpAny_richCompare_same_room (op := .Eq) da.typeIs db.typeIs PySem.F.slot_dict_eq (wpAny_call_entry PySem.F.slot_dict_eq da.typeIs PySem.F.entry_dict_eq ?_ (PySem.F.args_dict_eq_2 _ _)) hA
  show wpAny _ _ (Builtin.Dict.dictSlotArgs "__eq__" ⟨[.ref a, .ref b], []⟩ >>= _) _ _ s
  refine wpAny_bind ?_
  unfold Builtin.Dict.dictSlotArgs
  refine wpAny_bind (wpAny_notOrdered_dict da.typeIs ?_)
  show wpAny _ _ (pure (Value.ref a, Value.ref b)) _ _ s
  refine wpAny_pure ?_
  refine wpAny_bind (wpAny_isInstance (T := "dict") db.typeIs PySem.F.sub_dict_dict ?_)
  simp only [Bool.not_true, Bool.false_eq_true, if_false]
  refine wpAny_bind (wpAny_pure (wpAny_bind (wpAny_pure ?_)))
  refine wpAny_bind (samePairsH ha hb da db hu heq ?_)
  refine wpAny_pure ⟨_, rfl, ?_, ?_⟩
  · exact fun x => nomatch x
  · simpa using h
theorem neH {a b : Addr} {xs ys : List (K × Addr × Value)} {eqb : Value → Value → Bool} {Q : Value → Shared → Prop} (ha : (a == sysModules) = false) (hb : (b == sysModules) = false)
    (da : s.heap.DictOfH knd a xs) (db : s.heap.DictOfH knd b ys) (hA : A.units < cLine) (hu : knd.room A.in1)
    (heq : ∀ x ∈ xs, ∀ q, atKey ys x.1 = some q → ∀ (R : Bool → Shared → Prop) (F : Value → Shared → Prop), R (eqb x.2.2 q.2) s → wpAny (model prog w) A.in1 (eqBool x.2.2 q.2) R F s)
    (h : Q (.bool (!(xs.length == ys.length && xs.all (hitH ys eqb)))) s) :
    wpAny (model prog w) A (compareOp .NotEq (.ref a) (.ref b)) Q E s := by
  refine wpAny_richCompare_same_room (op := .NotEq) da.typeIs db.typeIs PySem.F.slot_dict_ne (wpAny_call_entry PySem.F.slot_dict_ne da.typeIs PySem.F.entry_dict_ne ?_ (PySem.F.args_dict_ne_2 _ _)) hA
  show wpAny _ _ (Builtin.Dict.dictSlotArgs "__ne__" ⟨[.ref a, .ref b], []⟩ >>= _) _ _ s
  refine wpAny_bind ?_
  unfold Builtin.Dict.dictSlotArgs
  refine wpAny_bind (wpAny_notOrdered_dict da.typeIs ?_)
  show wpAny _ _ (pure (Value.ref a, Value.ref b)) _ _ s
  refine wpAny_pure ?_
  refine wpAny_bind (wpAny_isInstance (T := "dict") db.typeIs PySem.F.sub_dict_dict ?_)
  simp only [Bool.not_true, Bool.false_eq_true, if_false]
  refine wpAny_bind (wpAny_pure (wpAny_bind (wpAny_pure ?_)))
  refine wpAny_bind (samePairsH ha hb da db hu heq ?_)
  refine wpAny_pure ⟨_, rfl, ?_, ?_⟩
  · exact fun x => nomatch x
  · simpa using h
end
def eqT (ks ls : List (List Key × V)) : Bool := (ks.length == ls.length) && ks.all fun p => decide (valV ls p.1 = some p.2)
def intB : Value → Value → Bool
  | .int i _, .int j _ => i == j
  | _, _ => false
def IntVals (ks : List (List Key × V)) : Prop := ∀ p ∈ ks, ∃ i, p.2 = V.int i
theorem mem_r {α β : Type} {R : α → β → Prop} : ∀ {l : List α} {m : List β}, Paired R l m → ∀ y ∈ m, ∃ x ∈ l, R x y
  | _, _, .nil, y, h => nomatch h
  | _, _, .cons (a := a) (b := b) r t, y, h => by
    rcases List.mem_cons.mp h with rfl | h
    · exact ⟨a, List.mem_cons_self, r⟩
    · obtain ⟨x, hx, q⟩ := mem_r t y h
      exact ⟨x, List.mem_cons_of_mem _ hx, q⟩
theorem kt_int {H : Hp} {ks : List (List Key × V)} {xs : List (List Key × Addr × Value)} (r : KT H ks xs) (hi : IntVals ks) : ∀ x ∈ xs, ∃ i t, x.2.2 = Value.int i t := by
  intro x hx
  obtain ⟨p, hp, _, _, rv⟩ := mem_r r x hx
  obtain ⟨i, e⟩ := hi p hp
  rw [e] at rv
  obtain ⟨t, rv⟩ := rv
  exact ⟨i, t, rv⟩
theorem atKey_mem {K : Type} [DecidableEq K] {xs : List (K × Addr × Value)} {k : K} {q : Addr × Value} (h : atKey xs k = some q) : (k, q) ∈ xs := by
  unfold atKey at h
  rw [Option.map_eq_some_iff] at h
  obtain ⟨x, h1, h2⟩ := h
  have h3 := List.find?_some h1
  have h4 := List.mem_of_find?_eq_some h1
  have h5 : x.1 = k := of_decide_eq_true h3
  rw [← h5, ← h2]
  exact h4
theorem all_hits {H : Hp} {ls : List (List Key × V)} {ys : List (List Key × Addr × Value)} (rb : KT H ls ys) : ∀ {ks : List (List Key × V)} {xs : List (List Key × Addr × Value)}, KT H ks xs → IntVals ks → IntVals ls →
    xs.all (hitH ys intB) = ks.all fun p => decide (valV ls p.1 = some p.2)
  | _, _, .nil, _, _ => rfl
  | _, _, .cons (a := p) (b := x) (l₁ := ks) (l₂ := xs) h t, hi, hj => by
    rw [List.all_cons, List.all_cons, all_hits rb t (fun q hq => hi q (List.mem_cons_of_mem _ hq)) hj]
    refine congrArg (fun z => z && _) ?_
    obtain ⟨h1, _, h2⟩ := h
    obtain ⟨i, ei⟩ := hi p List.mem_cons_self
    have rv := rb.val p.1
    unfold hitH
    rw [← h1]
    cases hx : atKey ys p.1 with
    | none =>
      rw [hx] at rv
      cases hv : valV ls p.1 with
      | none => simp
      | some v => rw [hv] at rv; exact rv.elim
    | some q =>
      rw [hx] at rv
      cases hv : valV ls p.1 with
      | none => rw [hv] at rv; exact rv.elim
      | some v =>
        rw [hv] at rv
        have rv : RelV v q.2 := rv
        obtain ⟨j, ej⟩ : ∃ j, v = V.int j := by
          have hm : (p.1, v) ∈ ls := by
            unfold valV at hv
            rw [Option.map_eq_some_iff] at hv
            obtain ⟨y, y1, y2⟩ := hv
            have y3 : y.1 = p.1 := by
              have z := List.find?_some y1
              simpa using z
            have y4 := List.mem_of_find?_eq_some y1
            rw [← y3, ← y2]
            exact y4
          exact hj _ hm
        rw [ei] at h2
        rw [ej] at rv
        obtain ⟨t1, e1⟩ := h2
        obtain ⟨t2, e2⟩ := rv
        show intB x.2.2 q.2 = _
        rw [e1, e2, ei, ej]
        unfold intB
        rw [Bool.eq_iff_iff]
        simp
        exact ⟨fun z => z.symm, fun z => z.symm⟩
def rEqDT : R2 := fun x y H Q => ∃ a b ks ls, x = .ref a ∧ y = .ref b ∧ H a = some (.dT ks) ∧ H b = some (.dT ls) ∧ IntVals ks ∧ IntVals ls ∧ Q (.bl (eqT ks ls)) H
def rNeDT : R2 := fun x y H Q => ∃ a b ks ls, x = .ref a ∧ y = .ref b ∧ H a = some (.dT ks) ∧ H b = some (.dT ls) ∧ IntVals ks ∧ IntVals ls ∧ Q (.bl (!eqT ks ls)) H
section
variable {X : Cx}
theorem eq_ints {A : Around} {s : Shared} {H : Hp} {ks ls : List (List Key × V)} {xs ys : List (List Key × Addr × Value)} (ra : KT H ks xs) (rb : KT H ls ys) (hi : IntVals ks) (hj : IntVals ls) :
    ∀ x ∈ xs, ∀ q, atKey ys x.1 = some q → ∀ (R : Bool → Shared → Prop) (F : Value → Shared → Prop), R (intB x.2.2 q.2) s → wpAny (model X.prog X.w) A (eqBool x.2.2 q.2) R F s := by
  intro x hx q hq R F hR
  obtain ⟨i, t, e1⟩ := kt_int ra hi x hx
  obtain ⟨j, u, e2⟩ := kt_int rb hj (x.1, q) (atKey_mem hq)
  have e2 : q.2 = Value.int j u := e2
  rw [e1, e2] at hR ⊢
  exact SeqAt.EqAt.int_int i t j u _ _ _ _ (by unfold intB at hR; exact hR)
theorem op_eqDT (hu : X.A.units + 1 < cLine) : OpR X (compareOp .Eq) rEqDT := by
  intro pins s σ H x y v u Q I rx ry h
  obtain ⟨a, b, ks, ls, rfl, rfl, ea, eb, hi, hj, q⟩ := h
  obtain rfl : v = Value.ref a := rx
  obtain rfl : u = Value.ref b := ry
  obtain ⟨_, ya, xs, ra, da⟩ := dt_of I.hok ea
  obtain ⟨_, yb, ys, rb, db⟩ := dt_of I.hok eb
  refine eqH (eqb := intB) ya yb da db (by omega) (tupleKind_room_in1 hu) (eq_ints ra rb hi hj) (fin_bl I q ?_)
  unfold eqT
  rw [all_hits rb ra hi hj, Paired.length ra, Paired.length rb]
theorem op_neDT (hu : X.A.units + 1 < cLine) : OpR X (compareOp .NotEq) rNeDT := by
  intro pins s σ H x y v u Q I rx ry h
  obtain ⟨a, b, ks, ls, rfl, rfl, ea, eb, hi, hj, q⟩ := h
  obtain rfl : v = Value.ref a := rx
  obtain rfl : u = Value.ref b := ry
  obtain ⟨_, ya, xs, ra, da⟩ := dt_of I.hok ea
  obtain ⟨_, yb, ys, rb, db⟩ := dt_of I.hok eb
  refine neH (eqb := intB) ya yb da db (by omega) (tupleKind_room_in1 hu) (eq_ints ra rb hi hj) (fin_bl I q ?_)
  unfold eqT
  rw [all_hits rb ra hi hj, Paired.length ra, Paired.length rb]
end
theorem paired_of {α β : Type} {R : α → β → Prop} : ∀ {l : List α} {m : List β}, l.length = m.length → (∀ (j : Nat) a b, l[j]? = some a → m[j]? = some b → R a b) → Paired R l m
  | [], [], _, _ => .nil
  | [], _ :: _, h, _ => by cases h
  | _ :: _, [], h, _ => by cases h
  | a :: l, b :: m, h, k => .cons (k 0 a b rfl rfl) (paired_of (Nat.succ.inj h) fun j x y e1 e2 => k (j + 1) x y e1 e2)
def PairsOf (H : Hp) (ts : List Addr) (kvs : List (List Key × V)) : Prop := Paired (fun (t : Addr) (p : List Key × V) => ∃ q, H t = some (.tup [.ref q, p.2]) ∧ H q = some (.tup (p.1.map kV))) ts kvs
section
variable {X : Cx}
theorem take_all {pins : List (Addr × Obj)} {σ : L2.St} {H0 : Hp} {s : Shared} {h' : Heap} {tk : Nat} {P : Addr → List V → Prop} (I0 : Inv X pins σ H0 s) (L : List Addr) : ∀ H1 : Hp, Inv X pins σ H1 { s with heap := h', toks := tk } → L.Nodup →
    (∀ a ∈ L, s.heap.objs.size ≤ a ∧ H1 a = none ∧ ∃ vs, P a vs ∧ ∀ H2, ObjOk X.prog X.w H2 h' a (.tup vs)) →
    ∃ H2, Inv X pins σ H2 { s with heap := h', toks := tk } ∧ (∀ b o, H1 b = some o → H2 b = some o) ∧ (∀ a ∈ L, ∃ vs, P a vs ∧ H2 a = some (.tup vs)) ∧ ∀ b, b ∉ L → H2 b = H1 b := by
  induction L with
  | nil => exact fun H1 I1 _ _ => ⟨H1, I1, fun _ _ e => e, (fun _ h => nomatch h), fun _ _ => rfl⟩
  | cons a L ih =>
    intro H1 I1 hn h
    obtain ⟨hb, hnone, vs, hP, ok⟩ := h a List.mem_cons_self
    obtain ⟨na, nd⟩ := List.nodup_cons.mp hn
    have J := I1.take (h' := h') (t' := tk) (fun b ob _ e => e) (I0.fpOk hb hnone) (ok _)
    obtain ⟨H2, I3, g, q, off⟩ := ih _ J nd fun c hc => by
      obtain ⟨c1, c2, c3⟩ := h c (List.mem_cons_of_mem _ hc)
      exact ⟨c1, by rw [upd_ne fun z => na (by rw [← z]; exact hc)]; exact c2, c3⟩
    refine ⟨H2, I3, fun b o e => g b o (by rw [upd_ne (ne_of_none e hnone)]; exact e), fun c hc => ?_, fun b hb' => ?_⟩
    · rcases List.mem_cons.mp hc with rfl | hc
      · exact ⟨vs, hP, g _ _ upd_same⟩
      · exact q c hc
    · rw [off b fun z => hb' (List.mem_cons_of_mem _ z), upd_ne fun z => hb' (by rw [z]; exact List.mem_cons_self)]
theorem made_tracked {pins : List (Addr × Obj)} {σ : L2.St} {H H1 : Hp} {s : Shared} {h' : Heap} {tk : Nat} {kvs : List (List Key × V)} {xs : List (List Key × Addr × Value)} {es : Array DictEntry} {as : List Addr} (I : Inv X pins σ H s)
    (rel : KT H kvs xs) (hes : es.toList = xs.map (entryOfKey (tupleKind (mixKind X.prog X.w)))) (hl : as.length = es.size) (hG : DT.Made es s.heap.objs.size h' as)
    (I1 : Inv X pins σ H1 { s with heap := h', toks := tk }) (g1 : ∀ b o, H b = some o → H1 b = some o) (hn : ∀ b ∈ as, H1 b = none) :
    ∃ H2, Inv X pins σ H2 { s with heap := h', toks := tk } ∧ (∀ b o, H1 b = some o → H2 b = some o) ∧ PairsOf H2 as kvs ∧ ∀ b, b ∉ as → H2 b = H1 b := by
  have l1 : kvs.length = xs.length := Paired.length rel
  have l2 : es.size = xs.length := size_of_entries hes
  have nd : as.Nodup := List.Pairwise.imp (fun h => Nat.ne_of_lt h) hG.rise
  have pr : ∀ (j : Nat) (b : Addr), as[j]? = some b → ∃ (p : List Key × V) (q : Addr) (u : Value), kvs[j]? = some p ∧ H q = some (.tup (p.1.map kV)) ∧ RelV p.2 u ∧ h'.get? b = some { cls := .type "tuple", data := .seq #[Value.ref q, u] } := by
    intro j b hj
    obtain ⟨en, he, hg⟩ := hG.pairs j b hj
    rw [entry_at hes j] at he
    cases hxj : xs[j]? with
    | none =>
      rw [hxj] at he
      exact nomatch (show (none : Option DictEntry) = some en from he)
    | some x =>
      rw [hxj] at he
      have een : entryOfKey (tupleKind (mixKind X.prog X.w)) x = en := Option.some.inj he
      obtain ⟨e0, he0, r1, r2, r3⟩ := L2.DX.pget rel hxj
      exact ⟨e0, x.2.1, x.2.2, he0, r2, r3, by rw [hg, ← een]; rfl⟩
  obtain ⟨H2, I2, g, qt, off⟩ := take_all (P := fun b vs => ∃ (j : Nat) (p : List Key × V) (q : Addr), as[j]? = some b ∧ kvs[j]? = some p ∧ vs = [.ref q, p.2] ∧ H q = some (.tup (p.1.map kV))) I as H1 I1 nd fun b hb => by
    obtain ⟨j, hj⟩ := List.mem_iff_getElem?.mp hb
    obtain ⟨p, q, u, hp, hq, ru, hg⟩ := pr j b hj
    exact ⟨Nat.le_of_lt (hG.above b hb), hn b hb, [.ref q, p.2], ⟨j, p, q, hj, hp, rfl, hq⟩, fun H3 => ⟨(by rw [sizeLine_eq]; show 2 ≤ 16777216; omega), [Value.ref q, u], .cons rfl (.cons ru .nil), ⟨_, hg, rfl, 0, rfl⟩⟩⟩
  refine ⟨H2, I2, g, paired_of (by omega) fun j b p hj hp => ?_, off⟩
  obtain ⟨vs, ⟨i, p', q, i1, i2, ev, hq⟩, hH⟩ := qt b (List.mem_of_getElem? hj)
  have eij : j = i := (List.getElem?_inj (List.getElem?_eq_some_iff.mp hj).1 nd).mp (hj.trans i1.symm)
  subst eij
  have ep : p' = p := Option.some.inj (i2.symm.trans hp)
  rw [ev, ep] at hH
  rw [ep] at hq
  exact ⟨q, hH, g _ _ (g1 _ _ hq)⟩
theorem vals_refs : ∀ as : List Addr, Vals (as.map V.ref) (as.map Value.ref)
  | [] => .nil
  | _ :: as => .cons rfl (vals_refs as)
end
section
variable {prog : Program} {w : World} {A : Around} {E : Value → Shared → Prop} {s : Shared} {r d : Addr} {es : Array DictEntry} {ep : Nat}
theorem initI {R : Result → Shared → Prop} (hh : A.handled = none) (hv : s.heap.IsItemsView r d) (hm : DT.Raw s.heap d es ep) (S : Addr) (hSr : S ≠ r) (hSd : d ≠ S) (hS : s.heap.get? S = some { cls := .type "list", data := .seq #[] })
    (hR : ∀ h' tk acc c as, (∀ b o, b ≠ S → s.heap.get? b = some o → h'.get? b = some o) → h'.get? S = some { cls := .type "list", dict := none, data := .seq acc c, slots := #[] } → as.length = es.size → DT.Made es S h' as →
      acc.toList = as.map Value.ref → R (.ok (.ret .none)) { s with heap := h', toks := tk }) (hn : es.size ≤ sizeLine) :
    wpAny (model prog w) A.in1 (Builtin.«list.__init__» ⟨[.ref S, .ref r], []⟩)
      (fun fin s' => match fin with | .done f => R (.ok f) s' | .again c' => c'.quiet = true ∧ codeAny (model prog w) A c' R s') (fun e s' => R (.error e) s') s := by
  show wpAny _ _ (do let old ← Builtin.List.listItems (.ref S); Builtin.List.listUpdate (.ref S) (fun _ => #[]); letGo old.toList.reverse; Builtin.List.listExtendWith (.ref S) (.ref r) .none) _ _ s
  refine wpAny_bind ?_
  unfold Builtin.List.listItems
  refine wpAny_bind (wpAny_seqItems hS rfl (wpAny_pure ?_))
  show wpAny _ _ (updateSeq S (fun _ => #[]) >>= fun _ => letGo (#[] : Array Value).toList.reverse >>= fun _ => Builtin.List.listExtendWith (.ref S) (.ref r) .none) _ _ s
  refine wpAny_bind (wpAny_updateSeq hS rfl ?_)
  have hS₂ := Heap.get?_update_self (Obj.mapSeq (fun _ => (#[] : Array Value))) hS rfl
  have oth : ∀ b o, b ≠ S → s.heap.get? b = some o → (s.heap.update S (Obj.mapSeq (fun _ => (#[] : Array Value)))).get? b = some o :=
    fun b o hb e => (Heap.get?_update_other _ _ (Ne.symm hb)).trans e
  refine wpAny_bind (wpAny_letGo ?_)
  refine DT.extI (es := es) (ep := ep) hh (let ⟨o, ho, x⟩ := hv; ⟨o, oth r o hSr.symm ho, x⟩) (hm.at' fun o e => oth d o hSd e) S hSr hSd .none _ hS₂ (fun h' tk acc c as hk hS' hl hG hacc => ?_) hn
  exact hR h' tk acc c as (fun b o hb e => hk b o hb (oth b o hb e)) hS' hl (hG.low (Nat.le_of_lt (Heap.lt_size hS₂))) hacc
theorem listCallI {Q : Value → Shared → Prop} (hh : A.handled = none) (hv : s.heap.IsItemsView r d) (hm : DT.Raw s.heap d es ep) (hn : es.size ≤ sizeLine)
    (hQ : ∀ h' tk acc c as, (∀ b o, s.heap.get? b = some o → h'.get? b = some o) → h'.get? s.heap.objs.size = some { cls := .type "list", dict := none, data := .seq acc c, slots := #[] } → as.length = es.size → DT.Made es s.heap.objs.size h' as →
      acc.toList = as.map Value.ref → Q (.ref s.heap.objs.size) { s with heap := h', toks := tk }) :
    wpAny (model prog w) A (call (.type "list") [.ref r]) Q E s := by
  refine callType_codes (Q₁ := fun obj s₁ => obj = .ref s.heap.objs.size ∧ s₁ = { s with heap := s.heap.push { cls := .type "list", data := .seq #[] } }) PySem.F.called_list (PySem.F.typeCall_list_1 _) PySem.F.entry_list_init
    (code_list_new _ ⟨rfl, rfl⟩) fun obj s₁ h₁ => ?_
  obtain ⟨rfl, rfl⟩ := h₁
  have hS : (s.heap.push { cls := .type "list", data := .seq #[] }).get? s.heap.objs.size = some { cls := .type "list", data := .seq #[] } := Heap.get?_push_size _ rfl
  have hr : r < s.heap.objs.size := let ⟨_, ho, _⟩ := hv; Heap.lt_size ho
  have hd : d < s.heap.objs.size := hm.lt
  refine ⟨⟨_, hS, rfl⟩, PySem.F.args_list_init_2 _ _, initI (es := es) (ep := ep) (A := A.in1) hh (let ⟨o, ho, x⟩ := hv; ⟨o, Heap.get?_push_of_some _ ho, x⟩) (hm.push _) _ (Nat.ne_of_gt hr) (Nat.ne_of_lt hd) hS (fun h' tk acc c as hk hS' hl hG hacc => ?_) hn⟩
  exact ⟨rfl, hQ h' tk acc c as (fun b o e => hk b o (Nat.ne_of_lt (Heap.lt_size e)) (Heap.get?_push_of_some _ e)) hS' hl hG hacc⟩
end
def rListItT : List V → Hp → VK → Prop := fun vs H Q => ∃ (p a : Addr) (kvs : List (List Key × V)), vs = [.ref p] ∧ H p = some (L2.DX.itemsO p a) ∧ H a = some (.dT kvs) ∧
  ∀ (H' : Hp) (l : Addr) (ts : List Addr), (∀ b o, H b = some o → H' b = some o) → H l = none → H' l = some (.lst (ts.map V.ref)) → PairsOf H' ts kvs → Q (.ref l) H'
section
variable {X : Cx}
theorem cr_listItT (hc : X.calm = true) : CallR X (.type "list") rListItT := by
  intro pins s σ H xs us Q I r h
  obtain ⟨p, a, kvs, rfl, hp, ha, q⟩ := h
  obtain rfl := Vals.ref1 r
  have view : s.heap.IsItemsView p a := (show ObjOk X.prog X.w H s.heap p (L2.DX.itemsO p a) from I.hok p _ hp).1
  obtain ⟨z, hd, xs', rel, o, es, ep, ho, hx, hdat, hes, his, hn⟩ := dt_of I.hok ha
  have l1 : kvs.length = xs'.length := Paired.length rel
  have l2 : es.size = xs'.length := size_of_entries hes
  refine listCallI (es := es) (ep := ep) (I.ok.hd hc) view ⟨o, ho, hx, hdat⟩ (by omega) fun h' tk acc c as hk hS hl hG hacc => ?_
  have newS : H s.heap.objs.size = none := I.hok.fresh (Nat.le_refl _)
  have nS : ∀ b ∈ as, b ≠ s.heap.objs.size := fun b hb => Nat.ne_of_gt (hG.above b hb)
  have I1 : Inv X pins σ (upd H s.heap.objs.size (.lst (as.map V.ref))) { s with heap := h', toks := tk } :=
    I.laid (t' := tk) hk (Nat.le_refl _) ⟨by rw [List.length_map]; omega, acc.toList, c, by rw [hacc]; exact vals_refs as, by rw [Array.toArray_toList]; exact hS⟩
  obtain ⟨H2, I2, g, pp, _⟩ := made_tracked (h' := h') (tk := tk) I rel hes hl hG I1 (fun b o e => by rw [upd_ne (ne_of_none e newS)]; exact e) fun b hb => by
    rw [upd_ne (nS b hb)]
    exact I.hok.fresh (Nat.le_of_lt (hG.above b hb))
  exact ⟨.ref _, H2, I2, rfl, q H2 _ as (fun b o e => g b o (by rw [upd_ne (ne_of_none e newS)]; exact e)) newS (g _ _ upd_same) pp⟩
end
end KB
set_option Elab.async false
set_option linter.all false
set_option maxRecDepth 100000
set_option maxHeartbeats 4000000
namespace PySem.SeqAt
open AutoSeq1 (wpAny_loadPart')
open MeetsSeq MeetsSeq2 MeetsSeq3 SeqRoads2
theorem kc_tuple_lt (l b : Addr) (items items2 : Array Value) (n n2 : Nat) (dd dd2 : Option Addr) (sl sl2 : Array (Option Value)) (e r : Nat → Bool) :
    Meets (Builtin.«tuple.__lt__» ⟨[.ref l, .ref b], []⟩)
      (fun A R s => s.heap.get? l = some { cls := .type "tuple", dict := dd, data := .seq items n, slots := sl } ∧ s.heap.get? b = some { cls := .type "tuple", dict := dd2, data := .seq items2 n2, slots := sl2 } ∧
        (∀ j (h1 : j < items.size) (h2 : j < items2.size), EqAt A.in1 s items[j] items2[j] (e j)) ∧ (∀ j (h1 : j < items.size) (h2 : j < items2.size), (∀ i, i < j → e i = true) → e j = false → RcLt A.in1 s items[j] items2[j] (r j)) ∧
        R (.ok (.ret (.bool (firstLt e r (decide (items.size < items2.size)) (List.range (min items.size items2.size)))))) s) :=
  .of_wp fun prog w A R s h => by
    obtain ⟨hp, g, d, tk, os⟩ := s; obtain ⟨hl, hb, he, hr, h⟩ := h
    have f2 := AutoSeq1.sub_tuple_tuple
    have hZ : (items.toList.zip items2.toList).length = min items.size items2.size := by simp
    wp_walk using wpAny_loadPart' hl, wpAny_loadPart' hb, wpAny_forIn_list _ (fun rest b s' => b.1 = none ∧ s' = ⟨hp, g, d, tk, os⟩ ∧ ∃ i, rest = (items.toList.zip items2.toList).drop i ∧ (∀ m, m < i → e m = true) ∧
      R (.ok (.ret (.bool (firstLt e r (decide (items.size < items2.size)) ((List.range (min items.size items2.size)).drop i))))) ⟨hp, g, d, tk, os⟩) _
    case turn =>
      rintro ⟨y, x⟩ rest b s' ⟨hb', rfl, i, hz, hpre, hR⟩
      have hlt : i < (items.toList.zip items2.toList).length := by
        rcases Nat.lt_or_ge i (items.toList.zip items2.toList).length with h' | h'
        · exact h'
        · rw [List.drop_of_length_le h'] at hz; cases hz
      have hm : i < min items.size items2.size := hZ ▸ hlt
      have h1 : i < items.size := Nat.lt_of_lt_of_le hm (Nat.min_le_left _ _)
      have h2 : i < items2.size := Nat.lt_of_lt_of_le hm (Nat.min_le_right _ _)
      rw [List.drop_eq_getElem_cons hlt] at hz
      injection hz with hyx hrest
      have hy : y = items[i] := by have := congrArg Prod.fst hyx; simpa using this
      have hx : x = items2[i] := by have := congrArg Prod.snd hyx; simpa using this
      subst hy hx
      have hd : (List.range (min items.size items2.size)).drop i = i :: (List.range (min items.size items2.size)).drop (i + 1) := by simp [List.drop_eq_getElem_cons, hm]
      rw [hd] at hR
      refine wpAny_bind (he i h1 h2 prog w _ _ ?_)
      cases hy : e i with
      | true =>
        rw [firstLt_yes hy] at hR
        wp_walk
        refine ⟨rfl, rfl, i + 1, hrest, fun m hm => ?_, hR⟩
        rcases Nat.lt_or_ge m i with z | z
        · exact hpre m z
        · have : m = i := by omega
          rw [this]; exact hy
      | false =>
        rw [firstLt_no hy] at hR
        rw [if_pos (by rfl)]
        show wpAny _ _ (do rule "tuple.compare.by-the-first-pair-that-differs"; let v ← richCompare CmpOp.Lt items[i] items2[i]; let v' ← ret v; pure (ForInStep.done (some v', ()))) _ _ _
        refine wpAny_bind (wpAny_rule ?_)
        refine wpAny_bind (hr i h1 h2 hpre hy prog w _ _ ?_)
        wp_walk
        exact ⟨_, rfl, hR⟩
    case fin =>
      rintro ⟨b1, b2⟩ s' ⟨hb', rfl, i, hz, hpre, hR⟩
      simp only at hb'
      subst hb'
      have hge : min items.size items2.size ≤ i := by
        rcases Nat.lt_or_ge i (items.toList.zip items2.toList).length with h' | h'
        · rw [List.drop_eq_getElem_cons h'] at hz; cases hz
        · exact hZ ▸ h'
      rw [List.drop_of_length_le (by simpa using hge)] at hR
      wp_walk
      exact ⟨_, rfl, by simpa [Builtin.Tuple.tupleCompareSizes, firstLt] using hR⟩
    case h =>
      exact ⟨rfl, rfl, 0, rfl, fun m hm => absurd hm (Nat.not_lt_zero _), by simpa using h⟩
section
variable {A : Around} {s : Shared}
theorem RcLt.tuplesF {l b : Addr} {items items2 : Array Value} {e r : Nat → Bool} (hl : s.heap.IsTuple l items) (hb : s.heap.IsTuple b items2) (hu : A.units < cLine)
    (he : ∀ j (h1 : j < items.size) (h2 : j < items2.size), EqAt A.in1 s items[j] items2[j] (e j)) (hr : ∀ j (h1 : j < items.size) (h2 : j < items2.size), (∀ i, i < j → e i = true) → e j = false → RcLt A.in1 s items[j] items2[j] (r j)) :
    RcLt A s (.ref l) (.ref b) (firstLt e r (decide (items.size < items2.size)) (List.range (min items.size items2.size))) := fun prog w E Q h => by
  obtain ⟨⟨cls, dd, data, sl⟩, ho, hc, n, hd⟩ := id hl
  obtain ⟨⟨cls2, dd2, data2, sl2⟩, ho2, hc2, n2, hd2⟩ := id hb
  simp only at hc hd hc2 hd2
  subst hc hd hc2 hd2
  exact richCompare_meets_room (op := .Lt) ⟨_, ho, rfl⟩ ⟨_, ho2, rfl⟩ F.slot_tuple_lt F.entry_tuple_lt (F.args_tuple_lt_2 _ _) (kc_tuple_lt l b items items2 n n2 dd dd2 sl sl2 e r)
    ⟨ho, ho2, he, hr, show Value.bool (firstLt e r (decide (items.size < items2.size)) (List.range (min items.size items2.size))) ≠ Value.notImplemented ∧ Q (.bool (firstLt e r (decide (items.size < items2.size)) (List.range (min items.size items2.size)))) s from ⟨(fun x => nomatch x), h⟩⟩ hu
end
end PySem.SeqAt
namespace KC
open PySem PySem.Spec PyProof.Rows L2 KB PySem.SeqAt
mutual
def ltD : PyData → PyData → Bool
  | .int i, .int j => decide (i < j)
  | .str x, .str y => decide (x.cps.toList < y.cps.toList)
  | .tuple xs, .tuple ys => ltL xs ys
  | _, _ => false
def ltL : List PyData → List PyData → Bool
  | [], [] => false
  | [], _ :: _ => true
  | _ :: _, [] => false
  | x :: xs, y :: ys => if PyData.eqv x y = true then ltL xs ys else ltD x y
end
mutual
def okD : PyData → PyData → Bool
  | .int _, .int _ => true
  | .str _, .str _ => true
  | .tuple xs, .tuple ys => okL xs ys
  | _, _ => false
def okL : List PyData → List PyData → Bool
  | [], _ => true
  | _ :: _, [] => true
  | x :: xs, y :: ys => if PyData.eqv x y = true then okL xs ys else okD x y
end
theorem firstLt_shift {e r : Nat → Bool} {fin : Bool} : ∀ l : List Nat, firstLt e r fin (l.map (· + 1)) = firstLt (fun j => e (j + 1)) (fun j => r (j + 1)) fin l
  | [] => rfl
  | j :: l => by
    show (if e (j + 1) = true then firstLt e r fin (l.map (· + 1)) else r (j + 1)) = _
    rw [firstLt_shift l]
    rfl
theorem ltL_first : ∀ (xs ys : List PyData) (e r : Nat → Bool), (∀ j x y, xs[j]? = some x → ys[j]? = some y → e j = PyData.eqv x y ∧ r j = ltD x y) →
    firstLt e r (decide (xs.length < ys.length)) (List.range (min xs.length ys.length)) = ltL xs ys
  | [], [], _, _, _ => by unfold ltL; rfl
  | [], _ :: _, _, _, _ => by
    unfold ltL
    simp [firstLt]
  | _ :: _, [], _, _, _ => by
    unfold ltL
    simp [firstLt]
  | x :: xs, y :: ys, e, r, h => by
    have h0 := h 0 x y rfl rfl
    have e1 : min (x :: xs).length (y :: ys).length = min xs.length ys.length + 1 := by simp only [List.length_cons]; omega
    rw [e1, List.range_succ_eq_map]
    have e2 : decide ((x :: xs).length < (y :: ys).length) = decide (xs.length < ys.length) := by simp
    rw [e2]
    unfold ltL
    show (if e 0 = true then firstLt e r _ (List.map Nat.succ _) else r 0) = _
    rw [h0.1, h0.2]
    by_cases q : PyData.eqv x y = true
    · rw [if_pos q, if_pos q]
      rw [show (List.map Nat.succ (List.range (min xs.length ys.length))) = (List.range (min xs.length ys.length)).map (· + 1) from rfl, firstLt_shift]
      exact ltL_first xs ys _ _ fun j a b ha hb => h (j + 1) a b ha hb
    · rw [if_neg q, if_neg q]
end KC
namespace KC
open PySem PySem.Spec PyProof.Rows L2 KB PySem.SeqAt
theorem lt_str_b {prog : Program} {w : World} {A : Around} {E : Value → Shared → Prop} {s : Shared} {x y : Str} {t u : Tok} {Q : Value → Shared → Prop} (h : Q (.bool (decide (x.cps.toList < y.cps.toList))) s) :
    wpAny (model prog w) A (richCompare .Lt (.str x t) (.str y u)) Q E s := DT.rcLt_str A s x t y u prog w E Q h
mutual
theorem rcLt_data : ∀ (da db : PyData) (A : Around) (s : Shared) (a b : Value) (as bs : List Addr), Reads s.heap a da as → Reads s.heap b db bs → da.canLay0 = true → db.canLay0 = true → okD da db = true →
    A.units + min da.depth db.depth < cLine → RcLt A s a b (ltD da db)
  | .int x, .int y, A, s, _, _, _, _, ra, rb, _, _, _, hu => by
    cases ra; cases rb
    intro prog w E Q h
    exact PyProof.Rows.lt_int (by unfold ltD at h; exact h)
  | .str x, .str y, A, s, _, _, _, _, ra, rb, _, _, _, hu => by
    cases ra; cases rb
    intro prog w E Q h
    exact lt_str_b (by unfold ltD at h; exact h)
  | .tuple xs, .tuple ys, A, s, _, _, _, _, ra, rb, ha, hb, hok, hu => by
    cases ra with
    | @tuple l o vs n _ as₁ h1 h2 h3 h4 =>
      cases rb with
      | @tuple l' o' vs' n' _ bs₁ k1 k2 k3 k4 =>
        have hl : s.heap.IsTuple l vs := ⟨_, h1, h2, _, h3⟩
        have hl' : s.heap.IsTuple l' vs' := ⟨_, k1, k2, _, k3⟩
        have n1 : vs.size = xs.length := by simpa using ReadsAll.length _ _ _ h4
        have n2 : vs'.size = ys.length := by simpa using ReadsAll.length _ _ _ k4
        have hok' : okL xs ys = true := by unfold okD at hok; exact hok
        have e : ltD (.tuple xs) (.tuple ys) = firstLt (pairEq xs ys) (fun j => ltD (xs.getD j .none) (ys.getD j .none)) (decide (vs.size < vs'.size)) (List.range (min vs.size vs'.size)) := by
          rw [n1, n2, ltL_first xs ys]
          · unfold ltD; rfl
          · intro j x y hx hy
            simp [pairEq, List.getD, hx, hy]
        rw [e]
        refine RcLt.tuplesF hl hl' (room_here hu) (fun j j1 j2 => ?_) (fun j j1 j2 hp hf => ?_)
        · have := eqAt_readsAll xs ys A.in1 s vs.toList vs'.toList _ _ h4 k4 ha hb (room_in hu) j (by simpa using j1) (by simpa using j2)
          simpa using this
        · have := rcLt_all xs ys A.in1 s vs.toList vs'.toList _ _ h4 k4 ha hb hok' (room_in hu) j (by simpa using j1) (by simpa using j2) hp hf
          simpa using this
  | .none, _, _, _, _, _, _, _, _, _, _, _, hok, _ => by unfold okD at hok; cases hok
  | .bool _, _, _, _, _, _, _, _, _, _, _, _, hok, _ => by unfold okD at hok; cases hok
  | .list _, _, _, _, _, _, _, _, _, _, _, _, hok, _ => by unfold okD at hok; cases hok
  | .dict _, _, _, _, _, _, _, _, _, _, _, _, hok, _ => by unfold okD at hok; cases hok
  | .int _, .none, _, _, _, _, _, _, _, _, _, _, hok, _ => by unfold okD at hok; cases hok
  | .int _, .bool _, _, _, _, _, _, _, _, _, _, _, hok, _ => by unfold okD at hok; cases hok
  | .int _, .str _, _, _, _, _, _, _, _, _, _, _, hok, _ => by unfold okD at hok; cases hok
  | .int _, .list _, _, _, _, _, _, _, _, _, _, _, hok, _ => by unfold okD at hok; cases hok
  | .int _, .tuple _, _, _, _, _, _, _, _, _, _, _, hok, _ => by unfold okD at hok; cases hok
  | .int _, .dict _, _, _, _, _, _, _, _, _, _, _, hok, _ => by unfold okD at hok; cases hok
  | .str _, .none, _, _, _, _, _, _, _, _, _, _, hok, _ => by unfold okD at hok; cases hok
  | .str _, .bool _, _, _, _, _, _, _, _, _, _, _, hok, _ => by unfold okD at hok; cases hok
  | .str _, .int _, _, _, _, _, _, _, _, _, _, _, hok, _ => by unfold okD at hok; cases hok
  | .str _, .list _, _, _, _, _, _, _, _, _, _, _, hok, _ => by unfold okD at hok; cases hok
  | .str _, .tuple _, _, _, _, _, _, _, _, _, _, _, hok, _ => by unfold okD at hok; cases hok
  | .str _, .dict _, _, _, _, _, _, _, _, _, _, _, hok, _ => by unfold okD at hok; cases hok
  | .tuple _, .none, _, _, _, _, _, _, _, _, _, _, hok, _ => by unfold okD at hok; cases hok
  | .tuple _, .bool _, _, _, _, _, _, _, _, _, _, _, hok, _ => by unfold okD at hok; cases hok
  | .tuple _, .int _, _, _, _, _, _, _, _, _, _, _, hok, _ => by unfold okD at hok; cases hok
  | .tuple _, .str _, _, _, _, _, _, _, _, _, _, _, hok, _ => by unfold okD at hok; cases hok
  | .tuple _, .list _, _, _, _, _, _, _, _, _, _, _, hok, _ => by unfold okD at hok; cases hok
  | .tuple _, .dict _, _, _, _, _, _, _, _, _, _, _, hok, _ => by unfold okD at hok; cases hok
theorem rcLt_all : ∀ (xs ys : List PyData) (A : Around) (s : Shared) (vs ws : List Value) (as bs : List Addr), ReadsAll s.heap vs xs as → ReadsAll s.heap ws ys bs → PyData.canLayAll0 xs = true → PyData.canLayAll0 ys = true → okL xs ys = true →
    A.units + min (PyData.depthAll xs) (PyData.depthAll ys) < cLine → ∀ j (h1 : j < vs.length) (h2 : j < ws.length), (∀ i, i < j → pairEq xs ys i = true) → pairEq xs ys j = false → RcLt A s vs[j] ws[j] (ltD (xs.getD j .none) (ys.getD j .none))
  | [], _, _, _, _, _, _, _, ra, _, _, _, _, _, j, h1, _, _, _ => by cases ra; exact absurd h1 (Nat.not_lt_zero _)
  | _ :: _, [], _, _, _, _, _, _, _, rb, _, _, _, _, j, _, h2, _, _ => by cases rb; exact absurd h2 (Nat.not_lt_zero _)
  | x :: xs, y :: ys, A, s, _, _, _, _, ra, rb, ha, hb, hok, hu, j, h1, h2, hp, hf => by
    have ha' : x.canLay0 = true ∧ PyData.canLayAll0 xs = true := by simpa [PyData.canLayAll0] using ha
    have hb' : y.canLay0 = true ∧ PyData.canLayAll0 ys = true := by simpa [PyData.canLayAll0] using hb
    unfold okL at hok
    cases ra with
    | cons r rs =>
      cases rb with
      | cons r' rs' =>
        cases j with
        | zero =>
          have e0 : PyData.eqv x y = false := hf
          rw [if_neg (by rw [e0]; exact Bool.false_ne_true)] at hok
          exact rcLt_data x y A s _ _ _ _ r r' ha'.1 hb'.1 hok (room_head hu)
        | succ j =>
          have e0 : PyData.eqv x y = true := hp 0 (Nat.succ_pos _)
          rw [if_pos e0] at hok
          exact rcLt_all xs ys A s _ _ _ _ rs rs' ha'.2 hb'.2 hok (room_tail hu) j (Nat.lt_of_succ_lt_succ h1) (Nat.lt_of_succ_lt_succ h2) (fun i hi => hp (i + 1) (Nat.succ_lt_succ hi)) hf
end
def rLtD (K : PySem.W.Frag) : R2 := fun x y H Q => ∃ d e, Dp K H x d ∧ Dp K H y e ∧ shaped d = true ∧ shaped e = true ∧ okD d e = true ∧ Q (.bl (ltD d e)) H
theorem op_ltD {X : Cx} (hu : X.A.units + 64 < cLine) : OpR X (compareOp .Lt) (rLtD X.K) := by
  intro pins s σ H x y v u Q I rx ry h
  obtain ⟨d, e, hd, he, sd, se, hok, q⟩ := h
  obtain ⟨as, r1⟩ := Dp.reads I d x v hd rx
  obtain ⟨bs, r2⟩ := Dp.reads I e y u he ry
  exact rcLt_data d e X.A s v u as bs r1 r2 (canLay_of_shaped sd) (canLay_of_shaped se) hok (room_of_shaped sd hu) X.prog X.w X.xe _ ⟨.bl _, H, I, rfl, q⟩
theorem keyLt_data {prog : Program} {w : World} {A : Around} {E : Value → Shared → Prop} {s : Shared} {xs ys : List PyData} {u v : Value} {as bs : List Addr} {Q : Bool → Shared → Prop} (ra : Reads s.heap u (.tuple xs) as) (rb : Reads s.heap v (.tuple ys) bs)
    (ha : (PyData.tuple xs).canLay0 = true) (hb : (PyData.tuple ys).canLay0 = true) (hok : okL xs ys = true) (hu : A.units + min (PyData.tuple xs).depth (PyData.tuple ys).depth < cLine) (h : Q (ltL xs ys) s) :
    wpAny (model prog w) A (keyLt' (tuples' false) u v) Q E s := by
  cases ra with
  | @tuple l o vs n _ as₁ h1 h2 h3 h4 =>
    cases rb with
    | @tuple l' o' vs' n' _ bs₁ k1 k2 k3 k4 =>
      refine PySem.W.kat_lt h1 h3 k1 k3 ?_
      have n1 : vs.size = xs.length := by simpa using ReadsAll.length _ _ _ h4
      have n2 : vs'.size = ys.length := by simpa using ReadsAll.length _ _ _ k4
      rw [n1, n2]
      have hu0 : A.units + min (PyData.depthAll xs) (PyData.depthAll ys) < cLine := by
        have q := room_in hu
        omega
      clear h3 k3 n1 n2 h1 k1
      generalize vs.toList = us at h4
      generalize vs'.toList = ws at k4
      have key : ∀ (xs ys : List PyData) (us ws : List Value) (as bs : List Addr) (i : Nat), ReadsAll s.heap us xs as → ReadsAll s.heap ws ys bs → PyData.canLayAll0 xs = true → PyData.canLayAll0 ys = true → okL xs ys = true →
          A.units + min (PyData.depthAll xs) (PyData.depthAll ys) < cLine → Q (ltL xs ys) s → PySem.W.KatLex prog w A false (decide (xs.length < ys.length)) Q (us.zip ws) i s := by
        intro xs
        induction xs with
        | nil =>
          intro ys us ws as bs i ra rb _ _ _ _ hq
          cases ra
          cases ys with
          | nil =>
            cases rb
            exact PySem.W.kat_nil (by unfold ltL at hq; exact hq)
          | cons y ys =>
            cases rb
            exact PySem.W.kat_nil (by unfold ltL at hq; simpa using hq)
        | cons x xs ih =>
          intro ys us ws as bs i ra rb ha hb hok hu hq
          cases ys with
          | nil =>
            cases rb
            cases ra
            exact PySem.W.kat_nil (by unfold ltL at hq; simpa using hq)
          | cons y ys =>
            have ha' : x.canLay0 = true ∧ PyData.canLayAll0 xs = true := by simpa [PyData.canLayAll0] using ha
            have hb' : y.canLay0 = true ∧ PyData.canLayAll0 ys = true := by simpa [PyData.canLayAll0] using hb
            unfold okL at hok
            unfold ltL at hq
            cases ra with
            | cons r rs =>
              cases rb with
              | cons r' rs' =>
                have e1 : decide ((x :: xs).length < (y :: ys).length) = decide (xs.length < ys.length) := by simp
                rw [e1]
                refine PySem.W.kat_cons (eqAt_reads x y A s _ _ _ _ r r' ha'.1 hb'.1 (room_head hu) prog w _ _ ?_)
                refine PySem.W.kat_go (fun e => ?_) (fun e => ?_)
                · rw [if_pos e] at hok hq
                  exact PySem.W.kat_yes (ih ys _ _ _ _ (i + 1) rs rs' ha'.2 hb'.2 hok (room_tail hu) hq)
                · rw [if_neg (by rw [e]; exact Bool.false_ne_true)] at hok hq
                  refine PySem.W.kat_no ?_
                  rw [Bool.false_and]
                  exact PySem.W.kat_one _ _ (rcLt_data x y A s _ _ _ _ r r' ha'.1 hb'.1 hok (room_head hu) prog w _ _ hq)
      exact key xs ys _ _ _ _ 0 h4 k4 ha hb hok hu0 h
end KC
set_option Elab.async false
set_option linter.all false
set_option maxRecDepth 100000
set_option maxHeartbeats 4000000
namespace KD
open PySem PySem.Spec PyProof.Rows L2 KB KC LamX
def LamO (f : Addr) (q : Str) (params : Arguments) (body : Expr) (scope : Scope) (c' : Addr) : HO := .ext fun h => ∃ pm ctv, h.get? f = some (PySem.W.kla_obj "<lambda>" q params body scope [] pm c' ctv)
theorem lam_run {CX : CXT} {P : Program} {w : World} {K : PySem.W.Frag} {mg : Str → Option Value} {base : Heap} {k : Nat} {f c' : Addr} {q : Str} {params : Arguments} {body : Expr} {scope : Scope} {N ps : List Str} (S : FnScope N ps scope)
    {A : Around} {outer : List Env} {s : Shared} {H : Hp} {args : Args} {us : List Value} {vs : List V} {Q : VK} {E : XK} (hr : Room (k + 1) A) (e0 : Env0 P w K mg base A outer s H)
    (hf : H f = some (LamO f q params body scope c')) (hc : H c' = some (CodeO c' q)) (hb : ∀ pm ctv, BindsTo s (PySem.W.kla_fn "<lambda>" q params body scope [] pm (.ref c') ctv) args (ps.zip us)) (r : Vals vs us) (hl : vs.length = ps.length)
    (hbody : Room k (A.deeper (envOfC q scope s.heap.objs.size f (.ref c'))) → ∃ t, PE (cxOf CX P w K mg base N q scope f (.ref c') A outer s H E) body t ∧ t (start N vs) H Q) :
    codeAny (model P w) A (.call (.ref f) args) (CR CX outer P w H s Q E) s := by
  have lim : s.heap.NoLimit := e0.mod.nolimit.keeps fun b o e => (e0.bs b o e).1
  have hkind : ∀ y ∈ ps.zip us, scope.names.lookup y.1 = some .local ∨ (scope.names.lookup y.1 = some .cell ∧ ((cellsFrom (s.heap.objs.size + 1) scope.names []).lookup y.1).isSome = true) := fun ⟨n, v⟩ hy =>
    (S.par n (List.of_mem_zip hy).1).elim .inl fun q => .inr ⟨q, PySem.W.cellsFrom_some _ _ _ (.inl q)⟩
  obtain ⟨⟨pm, ctv, of1⟩, _, _⟩ := e0.hok f _ hf
  obtain ⟨⟨oc, vsc, t, hoc, hdc, hvc⟩, _, _⟩ := e0.hok c' _ hc
  refine PySem.W.kla_callFunE hr.depth of1 rfl S.co S.gen rfl ⟨c', oc, vsc, t, rfl, hoc, hdc, hvc⟩ ?_
  refine hb pm ctv _ _ _ _ ?_
  refine wpAny_newFunctionEnv_cells S.kind hkind fun env he s1 x => ?_
  subst he
  refine ⟨lim.keeps x.toInCall.keep, ?_⟩
  obtain ⟨t, ht, hq⟩ := hbody (hr.deeper _)
  have I : Inv (cxOf CX P w K mg base N q scope f (.ref c') A outer s H E) [] (start N vs) H s1 := inv_start S hr.hd e0 hl r x
  refine PySem.W.kla_codeExpr (wpAny_mono (ht.run [] s1 (start N vs) H Q I hq) (fun v s' hs => ?_) fun e s' hs => hs)
  obtain ⟨v', H', J, rv, q⟩ := hs
  exact ⟨v', H', J.os, J.bare, J.base, J.hok, rv, q⟩
theorem lamO_ok {P : Program} {w : World} {H : Hp} {h : Heap} {f c' : Addr} {q : Str} {params : Arguments} {body : Expr} {scope : Scope} {pm ctv : Value} (e : h.get? f = some (PySem.W.kla_obj "<lambda>" q params body scope [] pm c' ctv)) :
    ObjOk P w H h f (LamO f q params body scope c') := ⟨⟨pm, ctv, e⟩, ⟨_, e⟩, fun h1 h2 ⟨a, b, z⟩ k => ⟨a, b, k _ z⟩⟩
theorem tabs_upd {T : List (Addr × Str)} {H : Hp} {a : Addr} {o : HO} (t : Tabs T H) (n : H a = none) : Tabs T (upd H a o) := t.ext fun b u e => by rw [upd_ne (ne_of_none e n)]; exact e
theorem extN_upd {H : Hp} {a : Addr} {o : HO} (n : H a = none) : ExtN H (upd H a o) := fun b u e _ => by rw [upd_ne (ne_of_none e n)]; exact e
def tLamV (T : List (Addr × Str)) (q : Str) (params : Arguments) (body : Expr) (scope : Scope) : TE := fun _ H Q => Tabs T H ∧ ∀ f c' H1, ExtN H H1 → Tabs T H1 → H1 f = some (LamO f q params body scope c') → H1 c' = some (CodeO c' q) → H f = none → Q (.ref f) H1
section
variable {X : Cx}
theorem pe_lamV {T : List (Addr × Str)} {c P : Addr} {params : Arguments} {body : Expr} {scope : Scope} {pos : Pos} (TB : TabB X.base X.mg c P) (hcode : X.env.code = .ref c) (hm : (P, X.env.qual ++ "<lambda>") ∈ T) (hu : ∀ p ∈ T, p.1 = P → p.2 = X.env.qual ++ "<lambda>")
    (hdef : defaultsOf params X.env = ([], [])) (hfree : ∀ y ∈ scope.names, y.2 ≠ .free) (hclo : cloFrom X.env.cells scope.names [] = []) : PE X (.Lambda params body scope pos) (tLamV T (X.env.qual ++ "<lambda>") params body scope) := by
  refine ⟨fun pins s σ H Q I h => ?_⟩
  obtain ⟨hT, h⟩ := h
  obtain ⟨ps, hP, ht, ha⟩ := hT _ hm
  refine PySem.W.kla_eval hdef ?_
  have bP : s.heap.BuiltinsAt X.mg P := TB.bm.keeps I.bk
  have hP' : s.heap.get? P = some { cls := .none, data := .fields ps } := I.hok P _ hP
  have hcl : closureFor scope X.env = pure [] := by
    have z := closure_ok (env := X.env) (scope := scope) (fun y hy e => absurd e (hfree y hy))
    rw [hclo] at z
    exact z
  have end_ : ∀ (f c' : Addr) (ctv : Value) (H1 : Hp) (h' : Heap) (tk : Nat), Inv X pins σ H1 { s with heap := h', toks := tk } → s.heap.objs.size ≤ h'.objs.size → ExtN H H1 → Tabs T H1 → H1 h'.objs.size = none → H1 c' = some (CodeO c' (X.env.qual ++ "<lambda>")) →
      EP X pins σ Q (.ref h'.objs.size) { s with heap := h'.push (PySem.W.kla_obj "<lambda>" (X.env.qual ++ "<lambda>") params body scope [] ((X.mg "__name__").getD .none) c' ctv), toks := tk } := by
    intro f c' ctv H1 h' tk I1 hz e1 t1 n1 co
    have J : Inv X pins σ (upd H1 h'.objs.size (LamO h'.objs.size (X.env.qual ++ "<lambda>") params body scope c')) { s with heap := h'.push (PySem.W.kla_obj "<lambda>" (X.env.qual ++ "<lambda>") params body scope [] ((X.mg "__name__").getD .none) c' ctv), toks := tk } :=
      I1.laid (t' := tk) (fun b u e => Heap.get?_push_of_some _ e) (Nat.le_refl _) (lamO_ok (Heap.get?_push_size _ rfl))
    refine ⟨.ref h'.objs.size, _, J, rfl, h h'.objs.size c' _ (e1.trans (extN_upd n1)) (tabs_upd t1 n1) upd_same (by rw [upd_ne (ne_of_none co n1)]; exact co) (I.hok.fresh hz)⟩
  cases hc : codeAmong pos ps.toList with
  | none =>
    refine PySem.W.kla_makeFunction (mg := X.mg) (c := c) (P := P) (ps := ps) hcl I.ok.glob (I.mod.glob.keeps I.bk) hcode (TB.code.keeps I.bk) hP' ht hc TB.gP bP fun c' ctv h' tk hx hge hlt hrec htb => ?_
    obtain ⟨c2, oc, vs, t, e2, hoc, hd, hv⟩ := hrec
    cases e2
    have nC : H c' = none := I.hok.fresh hge
    have nPc : P ≠ c' := ne_of_none hP nC
    have I1 := inv_table (t' := tk) (more := #[rawInt pos.line, rawInt pos.col, .ref c']) (h' := h') I hP hx htb hge ⟨oc, vs, t, hoc, hd, hv⟩
    have hE : ExtN H (upd (upd H P (.tbl (ps ++ #[rawInt pos.line, rawInt pos.col, .ref c']))) c' (CodeO c' (X.env.qual ++ "<lambda>"))) := fun b o e n => by
      rw [upd_ne (ne_of_none e nC), upd_ne (fun z => n ps (Option.some.inj (e.symm.trans (by rw [z]; exact hP))))]
      exact e
    have eL : (ps ++ #[rawInt pos.line, rawInt pos.col, .ref c']).toList = ps.toList ++ [rawInt pos.line, rawInt pos.col, .ref c'] := by simp
    refine end_ h'.objs.size c' ctv _ h' tk I1 (Nat.le_trans hge (Nat.le_of_lt hlt)) hE (fun p hp => ?_) ?_ upd_same
    · by_cases hb : p.1 = P
      · rw [hu p hp hb, hb]
        refine ⟨_, by rw [upd_ne nPc, upd_same], by rw [eL]; exact PySem.TriplesOk_snoc _ _ _ _ ht, fun p' cv hcv => ?_⟩
        rw [eL] at hcv
        rcases among_app _ ht hcv with z | z
        · obtain ⟨c0, e1, e2⟩ := ha p' cv z
          exact ⟨c0, e1, hE _ _ e2 codeO_ne⟩
        · exact ⟨c', z, upd_same⟩
      · obtain ⟨ps', a1, a2, a3⟩ := hT p hp
        refine ⟨ps', by rw [upd_ne (ne_of_none a1 nC), upd_ne hb]; exact a1, a2, fun p' cv hcv => ?_⟩
        obtain ⟨c0, e1, e2⟩ := a3 p' cv hcv
        exact ⟨c0, e1, hE _ _ e2 codeO_ne⟩
    · have n1 : h'.objs.size ≠ c' := Nat.ne_of_gt hlt
      have n2 : h'.objs.size ≠ P := Nat.ne_of_gt (Nat.lt_of_lt_of_le (Heap.lt_size hP') (Nat.le_trans hge (Nat.le_of_lt hlt)))
      rw [upd_ne n1, upd_ne n2]
      exact I.hok.fresh (Nat.le_trans hge (Nat.le_of_lt hlt))
  | some cv =>
    obtain ⟨c', e, hco⟩ := ha pos cv hc
    subst e
    refine PySem.W.kla_makeFunctionHit (mg := X.mg) (c := c) (P := P) (ps := ps) hcl I.ok.glob (I.mod.glob.keeps I.bk) hcode (TB.code.keeps I.bk) hP' ht hc bP fun ctv h' tk hx hsz => ?_
    exact end_ h'.objs.size c' ctv H h' tk (I.kept (t' := tk) hx) hsz (ExtN.refl H) hT (I.hok.fresh hsz) hco
end
end KD
set_option Elab.async false
set_option linter.all false
set_option maxRecDepth 100000
set_option maxHeartbeats 4000000
namespace KS
open PySem PySem.Spec PyProof.Rows L2 KB KC KD LamX PySem.SeqAt SrtO Srt
def Ex (H H' : Hp) : Prop := ∀ b o, H b = some o → H' b = some o
theorem Ex.refl (H : Hp) : Ex H H := fun _ _ h => h
theorem Ex.trans {H H1 H2 : Hp} (a : Ex H H1) (b : Ex H1 H2) : Ex H H2 := fun c o h => b c o (a c o h)
theorem Ex.upd {H : Hp} {a : Addr} {o : HO} (n : H a = none) : Ex H (upd H a o) := fun b u e => by rw [upd_ne (ne_of_none e n)]; exact e
theorem Ex.rd {H H' : Hp} {a : Addr} {u : HO} (e : Ex H H') (h : Rd H a u) : Rd H' a u := h.elim (fun h => .inl (e _ _ h)) fun ⟨o, h⟩ => .inr ⟨o, e _ _ h⟩
mutual
theorem dp_ex {K : PySem.W.Frag} {H H' : Hp} (e : Ex H H') : ∀ {v : V} {d : PyData}, Dp K H v d → Dp K H' v d
  | _, _, .non => .non
  | _, _, .bl b => .bl b
  | _, _, .int i => .int i
  | _, _, .str x => .str x
  | _, _, .lst h t => .lst (h.elim (fun h => .inl (e.rd h)) .inr) (dpAll_ex e t)
  | _, _, .tup h t => .tup (h.elim (fun h => .inl (e.rd h)) .inr) (dpAll_ex e t)
theorem dpAll_ex {K : PySem.W.Frag} {H H' : Hp} (e : Ex H H') : ∀ {vs : List V} {ds : List PyData}, DpAll K H vs ds → DpAll K H' vs ds
  | _, _, .nil => .nil
  | _, _, .cons h t => .cons (dp_ex e h) (dpAll_ex e t)
end
def KeyCall (X : Cx) (f : Addr) (H : Hp) (kvs : List (List Key × V)) (kd : List Key × V → List PyData) : Prop :=
  ∀ x ∈ kvs, ∀ (t q : Addr) (H1 : Hp), Ex H H1 → H1 t = some (.tup [.ref q, x.2]) → H1 q = some (.tup (x.1.map kV)) → ∀ (pins : List (Addr × Obj)) (σ : L2.St) (s1 : Shared) (R : Value → Shared → Prop), Inv X pins σ H1 s1 →
    (∀ y u H2 s2, Inv X pins σ H2 s2 → Ex H1 H2 → RelV y u → Dp X.K H2 y (.tuple (kd x)) → R u s2) → wpAny (model X.prog X.w) X.A.in1.in1 (call (.ref f) [.ref t]) R (fun _ _ => False) s1
section
variable {X : Cx} {pins : List (Addr × Obj)} {σ : L2.St}
theorem lst_raw {H : Hp} {s : Shared} {a : Addr} {ys : List V} (I : Inv X pins σ H s) (h : H a = some (.lst ys)) : ys.length ≤ sizeLine ∧ ∃ (its : List Value) (n : Nat), Vals ys its ∧ s.heap.get? a = some (seqObj "list" its.toArray n) := I.hok a _ h
theorem lst_write {H : Hp} {s : Shared} {a : Addr} {ys zs : List V} {us vs : List Value} {n tk : Nat} (I : Inv X pins σ H s) (h : H a = some (.lst ys)) (hr : s.heap.get? a = some (seqObj "list" us.toArray n)) (hz : zs.length ≤ sizeLine) (rz : Vals zs vs) (g : Array Value → Array Value) (hg : g us.toArray = vs.toArray) :
    Inv X pins σ (upd H a (.lst zs)) { s with heap := s.heap.update a (Obj.mapSeq g), toks := tk } := by
  have e := get?_update_seq hr g
  rw [hg] at e
  exact I.write (t' := tk) (x := a) (e := a) (by rw [h]; exact True.intro) (.inl rfl) (fun b u hb q => (Heap.get?_update_ne _ _ _ _ hb).trans q) ⟨_, e⟩ ⟨hz, vs, _, rz, e⟩
theorem swo_rank {α : Type} (r : α → Int) : Swo fun p q : α => decide (r p < r q) :=
  ⟨fun x y h => by have h := of_decide_eq_true h; exact decide_eq_false (by omega), fun x y z h1 h2 => by have h1 := of_decide_eq_false h1; have h2 := of_decide_eq_false h2; exact decide_eq_false (by omega)⟩
def rankOf (as : List Addr) (kvs : List (List Key × V)) (ρ : List Key × V → Int) (v : Value) : Int :=
  match v with
  | .ref t => match (as.zip kvs).find? (fun z => decide (z.1 = t)) with
    | some z => ρ z.2
    | none => 0
  | _ => 0
theorem find_zip {as : List Addr} {kvs : List (List Key × V)} (nd : as.Nodup) : ∀ {j : Nat} {t : Addr} {x : List Key × V}, as[j]? = some t → kvs[j]? = some x → (as.zip kvs).find? (fun z => decide (z.1 = t)) = some (t, x) := by
  induction as generalizing kvs with
  | nil => intro j t x h; simp at h
  | cons b as ih =>
    intro j t x h1 h2
    rw [List.nodup_cons] at nd
    cases kvs with
    | nil => simp at h2
    | cons y kvs =>
      cases j with
      | zero =>
        simp only [List.getElem?_cons_zero, Option.some.injEq] at h1 h2
        subst h1 h2
        simp
      | succ j =>
        simp only [List.getElem?_cons_succ] at h1 h2
        have hne : ¬ b = t := fun z => nd.1 (by rw [z]; exact List.mem_of_getElem? h1)
        rw [List.zip_cons_cons, List.find?_cons_of_neg (by simpa using hne)]
        exact ih nd.2 h1 h2
theorem rank_at {as : List Addr} {kvs : List (List Key × V)} {ρ : List Key × V → Int} (nd : as.Nodup) {j : Nat} {t : Addr} {x : List Key × V} (h1 : as[j]? = some t) (h2 : kvs[j]? = some x) : rankOf as kvs ρ (.ref t) = ρ x := by
  unfold rankOf
  simp only [find_zip nd h1 h2]
end
mutual
def pureD : PyData → Bool
  | .none => true
  | .bool _ => true
  | .int _ => true
  | .str _ => true
  | .tuple xs => pureL xs
  | _ => false
def pureL : List PyData → Bool
  | [] => true
  | x :: xs => pureD x && pureL xs
end
mutual
theorem dp_tups {K : PySem.W.Frag} {H H' : Hp} (e : ∀ b xs, Rd H b (.tup xs) → Rd H' b (.tup xs)) : ∀ {v : V} {d : PyData}, pureD d = true → Dp K H v d → Dp K H' v d
  | _, _, _, .non => .non
  | _, _, _, .bl b => .bl b
  | _, _, _, .int i => .int i
  | _, _, _, .str x => .str x
  | _, _, h, .lst _ _ => by unfold pureD at h; cases h
  | _, _, h, .tup a t => .tup (a.elim (fun a => .inl (e _ _ a)) .inr) (dpAll_tups e (by unfold pureD at h; exact h) t)
theorem dpAll_tups {K : PySem.W.Frag} {H H' : Hp} (e : ∀ b xs, Rd H b (.tup xs) → Rd H' b (.tup xs)) : ∀ {vs : List V} {ds : List PyData}, pureL ds = true → DpAll K H vs ds → DpAll K H' vs ds
  | _, _, _, .nil => .nil
  | _, _, h, .cons a t => by
    have h2 := h
    unfold pureL at h2
    rw [Bool.and_eq_true] at h2
    exact .cons (dp_tups e h2.1 a) (dpAll_tups e h2.2 t)
end
theorem kat_of {h : Heap} : ∀ its : List Value, (∀ u ∈ its, ∃ l r as, Reads h u (.tuple (.tuple l :: r)) as) → ∃ fs : List Value, PySem.W.KatTups h its fs ∧ fs.length = its.length ∧ ∀ v ∈ fs, ∃ (b : Addr) (o : Obj), v = .ref b ∧ h.get? b = some o ∧ o.cls = .type "tuple"
  | [], _ => ⟨[], PySem.W.KatTups.nil, rfl, fun v hv => by simp at hv⟩
  | u :: its, hr => by
    obtain ⟨fs, k1, k2, k3⟩ := kat_of its fun u' hu' => hr u' (List.mem_cons_of_mem _ hu')
    obtain ⟨l, r, as, q⟩ := hr u List.mem_cons_self
    cases q with
    | @tuple a o vs n _ as₁ h1 h2 h3 h4 =>
      generalize ev : vs.toList = vl at h4
      cases h4 with
      | @cons v0 vr _ _ as1 as2 r0 rr =>
        cases r0 with
        | @tuple b ob vs' n' _ as₂ g1 g2 g3 g4 =>
          refine ⟨.ref b :: fs, PySem.W.KatTups.cons h1 h2 h3 (by rw [← Array.getElem?_toList, ev]; rfl) k1, by rw [List.length_cons, List.length_cons, k2], fun v hv => ?_⟩
          rcases List.mem_cons.mp hv with e | hv
          · exact ⟨b, ob, e, g1, g2⟩
          · exact k3 v hv
section
variable {X : Cx} {pins : List (Addr × Obj)} {σ : L2.St}
theorem sort_body {f D : Addr} {H : Hp} {s : Shared} {h2 : Heap} {tk : Nat} {kvs : List (List Key × V)} {xs : List (List Key × Addr × Value)} {es : Array DictEntry} {as : List Addr} {kd : List Key × V → List PyData} {ρ : List Key × V → Int} {P : PySem.Fin → Shared → Prop} {E : Value → Shared → Prop}
    (I : Inv X pins σ H s) (hk : ∀ b o, s.heap.get? b = some o → h2.get? b = some o) (hD : h2.get? D = some (seqObj "list" (as.map Value.ref).toArray 0)) (hsD : s.heap.objs.size ≤ D)
    (rel : KT H kvs xs) (hes : es.toList = xs.map (entryOfKey (tupleKind (mixKind X.prog X.w)))) (hl : as.length = es.size) (hG : DT.Made es s.heap.objs.size h2 as) (hz : kvs.length ≤ sizeLine)
    (hsh : ∀ x ∈ kvs, shaped (.tuple (kd x)) = true) (hpu : ∀ x ∈ kvs, pureL (kd x) = true) (hft : ∀ x ∈ kvs, ∃ l r, kd x = .tuple l :: r) (hok : ∀ x ∈ kvs, ∀ y ∈ kvs, okL (kd x) (kd y) = true) (hρ : ∀ x ∈ kvs, ∀ y ∈ kvs, ltL (kd x) (kd y) = decide (ρ x < ρ y))
    (hu : X.A.units + 66 < cLine) (hcall : KeyCall X f H kvs kd)
    (q : ∀ (H' : Hp) (s' : Shared) (zs : List (Addr × (List Key × V))), Inv X pins σ H' s' → Ex H H' → H D = none → H' D = some (.lst (zs.map fun z => V.ref z.1)) → (zs.map (·.2)).Perm kvs → (zs.map (·.2)).Pairwise (fun x y => ¬ ρ y < ρ x) →
      (∀ z ∈ zs, ∃ q, H' z.1 = some (.tup [.ref q, z.2.2]) ∧ H' q = some (.tup (z.2.1.map kV))) → P (.done (.ret .none)) s') :
    wpAny (model X.prog X.w) X.A.in1.in1 (ksk_tree D (.ref f) false) P E { s with heap := h2, toks := tk } := by
  have l1 : kvs.length = xs.length := Paired.length rel
  have l2 : es.size = xs.length := size_of_entries hes
  have lak : as.length = kvs.length := by omega
  have nd : as.Nodup := List.Pairwise.imp (fun h => Nat.ne_of_lt h) hG.rise
  have szl : (as.map Value.ref).toArray.size = kvs.length := by rw [List.size_toArray, List.length_map, lak]
  have asz : (as.map Value.ref).length ≤ sizeLine := by rw [List.length_map]; omega
  have nD : H D = none := I.hok.fresh hsD
  have asD : ∀ b ∈ as, b ≠ D ∧ b < h2.objs.size := fun b hb => by
    obtain ⟨j, hj⟩ := List.mem_iff_getElem?.mp hb
    obtain ⟨_, _, e⟩ := hG.pairs j b hj
    refine ⟨fun z => ?_, Heap.lt_size e⟩
    rw [z, hD] at e
    exact absurd (Value.type.inj (congrArg Obj.cls (Option.some.inj e))) (by decide)
  unfold ksk_tree
  refine wpAny_bind (listItems_at hD rfl ?_)
  refine wpAny_bind (listUpdate_at hD rfl ?_ (by rw [szl]; exact hz) (Nat.zero_le _))
  obtain ⟨e1, ho1⟩ : ∃ e1, (h2.update D (Obj.mapSeq fun _ => (#[] : Array Value))).get? D = some (seqObj "list" #[] e1) := ⟨_, get?_update_seq hD fun _ => #[]⟩
  refine wpAny_bind (seqEpoch_at ho1 rfl ?_)
  refine wpAny_bind (wpAny_newTuple ?_ asz)
  refine wpAny_bind (wpAny_newList ?_ (Nat.zero_le _))
  refine wpAny_holding ?_
  generalize hh4 : (h2.update D (Obj.mapSeq fun _ => (#[] : Array Value))).push (seqObj "tuple" (as.map Value.ref).toArray 0) = h4
  have z4 : h4.objs.size = h2.objs.size + 1 := by rw [← hh4, size_push', Heap.size_update]
  have keep4 : ∀ b o, b ≠ D → h2.get? b = some o → h4.get? b = some o := fun b o hb e => by
    rw [← hh4]
    exact Heap.get?_push_of_some _ ((Heap.get?_update_ne _ _ _ _ hb).trans e)
  have hD4 : h4.get? D = some (seqObj "list" #[] e1) := by rw [← hh4]; exact Heap.get?_push_of_some _ ho1
  have I1 : Inv X pins σ (upd H h4.objs.size (.lst [])) { s with heap := h4.push (seqObj "list" #[] 0), toks := tk } :=
    I.laid (t' := tk) (fun b o e => Heap.get?_push_of_some _ (keep4 b o (fun z => by rw [z] at e; exact absurd (Heap.lt_size e) (Nat.not_lt.mpr hsD)) (hk b o e))) (by rw [z4]; exact Nat.le_succ_of_le (Nat.le_trans hsD (Nat.le_of_lt (Heap.lt_size hD))))
      ⟨Nat.zero_le _, [], 0, .nil, Heap.get?_push_size _ rfl⟩
  have hkn : H h4.objs.size = none := I.hok.fresh (by rw [z4]; exact Nat.le_succ_of_le (Nat.le_trans hsD (Nat.le_of_lt (Heap.lt_size hD))))
  have hDk : D ≠ h4.objs.size := by rw [z4]; exact Nat.ne_of_lt (Nat.lt_succ_of_lt (Heap.lt_size hD))
  have hG5 : DT.Made es s.heap.objs.size (h4.push (seqObj "list" #[] 0)) as := ⟨hG.rise, hG.above, fun j b hj => by
    obtain ⟨e, he, hg⟩ := hG.pairs j b hj
    exact ⟨e, he, Heap.get?_push_of_some _ (keep4 b _ (asD b (List.mem_of_getElem? hj)).1 hg)⟩⟩
  obtain ⟨H2, I2, g2, pp, off⟩ := made_tracked (h' := h4.push (seqObj "list" #[] 0)) (tk := tk) I rel hes hl hG5 I1 (Ex.upd hkn) fun b hb => by
    rw [upd_ne (by rw [z4]; exact Nat.ne_of_lt (Nat.lt_succ_of_lt (asD b hb).2))]
    exact I.hok.fresh (Nat.le_of_lt (hG.above b hb))
  have exH2 : Ex H H2 := (Ex.upd hkn).trans g2
  have hkS2 : H2 h4.objs.size = some (.lst []) := g2 _ _ upd_same
  have hD2 : H2 D = none := by rw [off D fun z => (asD D z).1 rfl, upd_ne hDk]; exact nD
  have fD : ∀ H', H' D = none → FpOk X pins H' D := fun H' n => I.fpOk hsD n
  have I3 : Inv X (pins ++ [(D, seqObj "list" #[] e1)]) σ H2 { s with heap := h4.push (seqObj "list" #[] 0), toks := tk } := I2.pins_of fun p hp => by
    rcases List.mem_append.mp hp with hp | hp
    · exact I2.pin p (List.mem_append_right _ hp)
    · rw [List.mem_singleton.mp hp]
      obtain ⟨_, f1, f2, _⟩ := fD H2 hD2
      exact ⟨Heap.get?_push_of_some _ hD4, hD2, f1, f2, fun v z => by cases z⟩
  have pget : ∀ {j : Nat} {t : Addr}, as[j]? = some t → ∃ x q, kvs[j]? = some x ∧ H2 t = some (.tup [.ref q, x.2]) ∧ H2 q = some (.tup (x.1.map kV)) := fun {j t} hj => by
    obtain ⟨x, hx, q, q1, q2⟩ := LiI.paired_get pp hj
    exact ⟨x, q, hx, q1, q2⟩
  unfold ksk_rest
  refine wpAny_bind (wpAny_rule ?_)
  first
    | rw [List.forIn_toArray]
    | (rw [← Array.forIn_toList]; simp only [List.toList_toArray])
  refine wpAny_bind (ksk_fold (fun i s' => ∃ (Hi : Hp) (ys : List V), Inv X (pins ++ [(D, seqObj "list" #[] e1)]) σ Hi s' ∧ (∀ b o, b ≠ h4.objs.size → H2 b = some o → Hi b = some o) ∧ Hi h4.objs.size = some (.lst ys) ∧ ys.length = i ∧
      ∀ (j : Nat) (y : V), ys[j]? = some y → ∃ x, kvs[j]? = some x ∧ Dp X.K Hi y (.tuple (kd x))) (as.map Value.ref) 0 _ ⟨H2, [], I3, fun b o _ e => e, hkS2, rfl, fun j y h => by simp at h⟩ ?step ?done)
  case step =>
    rintro j v s' hv ⟨Hi, ys, Ii, ei, hki, hlen, hdp⟩
    simp only [Nat.zero_add] at hlen ⊢
    rw [List.getElem?_map] at hv
    obtain ⟨t, ht, rfl⟩ := Option.map_eq_some_iff.mp hv
    obtain ⟨x, qa, hx, q1, q2⟩ := pget ht
    have nk : ∀ {b : Addr} {vs : List V}, H2 b = some (.tup vs) → b ≠ h4.objs.size := fun e z => by rw [z, hkS2] at e; cases e
    have hxm : x ∈ kvs := List.mem_of_getElem? hx
    refine wpAny_bind (wpAny_attempt (wpAny_mono (hcall x hxm t qa Hi (fun b o e => ei b o (fun z => by rw [z, hkn] at e; cases e) (exH2 b o e)) (ei _ _ (nk q1) q1) (ei _ _ (nk q2) q2) _ _ s'
      (fun u s'' => ∃ y H3, Inv X (pins ++ [(D, seqObj "list" #[] e1)]) σ H3 s'' ∧ Ex Hi H3 ∧ RelV y u ∧ Dp X.K H3 y (.tuple (kd x))) Ii fun y u H3 s2 J e3 ry dy => ⟨y, H3, J, e3, ry, dy⟩) (fun u s'' he => ?_) fun _ _ hF => hF.elim))
    obtain ⟨y, H3, J, e3, ry, dy⟩ := he
    have hk3 := e3 _ _ hki
    obtain ⟨hzy, its, n, ri, hraw⟩ := lst_raw J hk3
    have jl : j < as.length := (List.getElem?_eq_some_iff.mp ht).1
    have il : its.length = ys.length := ri.length.symm
    try dsimp only
    refine wpAny_bind (listUpdate_at hraw rfl ?_ (by rw [List.size_toArray]; omega) (by rw [Array.size_push, List.size_toArray]; omega))
    refine wpAny_pure ⟨rfl, _, ys ++ [y], lst_write (tk := s''.toks) J hk3 hraw (by rw [List.length_append, List.length_singleton]; omega) (ri.append (.cons ry .nil)) (·.push u) (by simp), fun b o hb e => ?_, upd_same, by rw [List.length_append, List.length_singleton]; omega, fun i z hz' => ?_⟩
    · rw [upd_ne hb]
      exact e3 _ _ (ei b o hb e)
    · have mono : ∀ {v : V} {x : List Key × V}, x ∈ kvs → Dp X.K H3 v (.tuple (kd x)) → Dp X.K (upd H3 h4.objs.size (.lst (ys ++ [y]))) v (.tuple (kd x)) := fun {v x} hm hd =>
        dp_tups (fun b vs r => r.elim (fun r => .inl (by rw [upd_ne (ne_of r hk3 (fun z => by cases z))]; exact r)) fun ⟨o, r⟩ => .inr ⟨o, by rw [upd_ne (ne_of r hk3 (fun z => by cases z))]; exact r⟩) (by unfold pureD; exact hpu x hm) hd
      by_cases hi : i < ys.length
      · rw [List.getElem?_append_left hi] at hz'
        obtain ⟨x', hx', hd'⟩ := hdp i z hz'
        exact ⟨x', hx', mono (List.mem_of_getElem? hx') (dp_ex e3 hd')⟩
      · rw [List.getElem?_append_right (by omega)] at hz'
        have e0 : i - ys.length = 0 := by
          have := (List.getElem?_eq_some_iff.mp hz').1
          simp at this
          omega
        rw [e0] at hz'
        have e4 : y = z := by simpa using hz'
        have e5 : i = j := by omega
        rw [← e4, e5]
        exact ⟨x, hx, mono hxm dy⟩
  case done =>
    rintro s' ⟨Hi, ys, Ii, ei, hki, hlen, hdp⟩
    rw [List.length_map, Nat.zero_add] at hlen
    obtain ⟨_, its, n, ri, hraw⟩ := lst_raw Ii hki
    have il : its.length = ys.length := ri.length.symm
    try dsimp only
    refine wpAny_bind (listItems_at hraw rfl ?_)
    have pairsL : (its.toArray.zip (as.map Value.ref).toArray).toList = its.zip (as.map Value.ref) := by
      first
        | simp
        | rfl
    have mem_at : ∀ p ∈ its.zip (as.map Value.ref), ∃ (j : Nat) (t : Addr) (x : List Key × V), p.2 = .ref t ∧ as[j]? = some t ∧ kvs[j]? = some x ∧ its[j]? = some p.1 := fun p hp => by
      obtain ⟨j, hj⟩ := List.mem_iff_getElem?.mp hp
      obtain ⟨j1, j2⟩ := List.getElem?_zip_eq_some.mp hj
      rw [List.getElem?_map] at j2
      obtain ⟨t, ht, e⟩ := Option.map_eq_some_iff.mp j2
      obtain ⟨x, _, hx, _⟩ := pget ht
      exact ⟨j, t, x, e.symm, ht, hx, j1⟩
    have tail : ∀ st' : SortSt, Srtd (fun p q : Keyed => decide (rankOf as kvs ρ p.2 < rankOf as kvs ρ q.2)) (arrOf st').toList → Stb (fun p q : Keyed => decide (rankOf as kvs ρ p.2 < rankOf as kvs ρ q.2)) (arrOf st').toList (its.zip (as.map Value.ref)) → failedOf st' = none →
        wpAny (model X.prog X.w) X.A.in1.in1 (ksk_tail D false e1 (.ref h4.objs.size) st') P E s' := by
      intro st' hs hb hf
      have out_perm : ((arrOf st').toList.map (·.2)).Perm (as.map Value.ref) := by
        have z := hb.perm.map (·.2)
        rw [List.map_snd_zip (by rw [List.length_map]; omega)] at z
        exact z
      have ezip : (as.zip kvs).map (fun z => Value.ref z.1) = as.map Value.ref := by
        rw [show (fun z : Addr × (List Key × V) => Value.ref z.1) = Value.ref ∘ Prod.fst from rfl, ← List.map_map, List.map_fst_zip (by omega)]
      obtain ⟨zs, pz, ez⟩ := perm_lift (fun z : Addr × (List Key × V) => Value.ref z.1) out_perm (as.zip kvs) ezip
      have zmem : ∀ z ∈ zs, ∃ j : Nat, as[j]? = some z.1 ∧ kvs[j]? = some z.2 := fun z hz => by
        obtain ⟨j, hj⟩ := List.mem_iff_getElem?.mp (pz.mem_iff.mp hz)
        exact ⟨j, List.getElem?_zip_eq_some.mp hj⟩
      have zlen : zs.length = kvs.length := by
        rw [pz.length_eq, List.length_zip]
        omega
      have osz : ((arrOf st').map (·.2)).size = kvs.length := by
        have z := out_perm.length_eq
        rw [List.length_map, Array.length_toList, List.length_map] at z
        rw [Array.size_map]
        omega
      have oeq : ((arrOf st').map (·.2)).toList = zs.map fun z => Value.ref z.1 := by rw [Array.toList_map, ← ez]
      have J1 := lst_write (tk := s'.toks) (zs := []) (vs := []) Ii hki hraw (Nat.zero_le _) .nil (fun _ => (#[] : Array Value)) rfl
      obtain ⟨pD, nD5, _⟩ := J1.pin (D, seqObj "list" #[] e1) (List.mem_append_right _ (List.mem_append_right _ (List.mem_singleton.mpr rfl)))
      unfold ksk_tail
      try dsimp only
      refine wpAny_bind (listUpdate_at hraw rfl ?_ (by rw [List.size_toArray]; omega) (Nat.zero_le _))
      refine wpAny_bind (wpAny_letGo ?_)
      refine wpAny_bind (seqEpoch_at pD rfl ?_)
      refine wpAny_bind (listUpdate_at pD rfl ?_ (Nat.zero_le _) (by simp only [Bool.false_eq_true, if_false]; rw [osz]; omega))
      rw [hf]
      simp only [bne_self_eq_false, Bool.false_eq_true, if_false]
      refine wpAny_pure ?_
      have J2 := J1.pins_of (pins' := pins) fun p hp => J1.pin p (List.mem_append_right _ (List.mem_append_left _ hp))
      have eD := get?_update_seq pD fun _ => (arrOf st').map (·.2)
      have dk : D ≠ h4.objs.size := hDk
      have J3 := J2.take (t' := s'.toks) (o := .lst (zs.map fun z => V.ref z.1)) (h' := (s'.heap.update h4.objs.size (Obj.mapSeq fun _ => (#[] : Array Value))).update D (Obj.mapSeq fun _ => (arrOf st').map (·.2))) (fun b u hb e => (Heap.get?_update_ne _ _ _ _ hb).trans e) (fD _ nD5)
        ⟨by rw [List.length_map]; omega, zs.map (fun z => Value.ref z.1), _, vals_maps (fun z : Addr × (List Key × V) => V.ref z.1) (fun z => Value.ref z.1) zs fun _ _ => rfl, by rw [← oeq, Array.toArray_toList]; exact eD⟩
      refine q _ _ zs J3 (fun b o e => ?_) nD upd_same ?_ ?_ fun z hz' => ?_
      · rw [upd_ne (ne_of_none e nD), upd_ne (ne_of_none e hkn)]
        exact ei b o (ne_of_none e hkn) (exH2 b o e)
      · have z := pz.map (·.2)
        rw [List.map_snd_zip (by omega)] at z
        exact z
      · have s1 : (zs.map fun z => Value.ref z.1).Pairwise (fun v u => decide (rankOf as kvs ρ u < rankOf as kvs ρ v) = false) := by
          rw [ez, List.pairwise_map]
          exact hs
        rw [List.pairwise_map] at s1 ⊢
        refine List.Pairwise.imp_of_mem (fun {x y} hx hy h => ?_) s1
        obtain ⟨j, j1, j2⟩ := zmem x hx
        obtain ⟨i, i1, i2⟩ := zmem y hy
        rw [rank_at nd j1 j2, rank_at nd i1 i2] at h
        exact of_decide_eq_false h
      · obtain ⟨j, j1, j2⟩ := zmem z hz'
        obtain ⟨x, qa, hx, q1, q2⟩ := pget j1
        have e : x = z.2 := Option.some.inj (hx.symm.trans j2)
        rw [e] at q1 q2
        have up : ∀ {b : Addr} {vs : List V}, H2 b = some (.tup vs) → (upd (upd Hi h4.objs.size (.lst [])) D (.lst (zs.map fun z => V.ref z.1))) b = some (.tup vs) := fun {b vs} h => by
          rw [upd_ne (fun z => by rw [z, hD2] at h; cases h), upd_ne (fun z => by rw [z, hkS2] at h; cases h)]
          exact ei _ _ (fun z => by rw [z, hkS2] at h; cases h) h
        exact ⟨qa, up q1, up q2⟩
    unfold ksk_end
    simp only [Bool.false_eq_true, if_false]
    by_cases h2s : (as.map Value.ref).toArray.size < 2
    · rw [if_pos h2s, if_pos h2s]
      refine wpAny_bind (wpAny_pure ?_)
      rw [StateT.run_pure]
      refine wpAny_bind (wpAny_pure ?_)
      try dsimp only
      refine tail (SortSt.mk' general' (its.toArray.zip (as.map Value.ref).toArray) #[] 7 none) ?_ ?_ rfl
      · show List.Pairwise _ (its.toArray.zip (as.map Value.ref).toArray).toList
        rw [pairsL]
        have ll : (its.zip (as.map Value.ref)).length < 2 := by
          rw [List.length_zip, List.length_map]
          rw [szl] at h2s
          omega
        match h : its.zip (as.map Value.ref), ll with
        | [], _ => exact List.Pairwise.nil
        | [v], _ => exact List.pairwise_singleton _ _
        | _ :: _ :: l, h3 => exact absurd h3 (by rw [List.length_cons, List.length_cons]; omega)
      · show Stb _ (its.toArray.zip (as.map Value.ref).toArray).toList _
        rw [pairsL]
        exact Stb.refl _
    · rw [if_neg h2s, if_neg h2s]
      have rd : ∀ {j : Nat} {u : Value}, its[j]? = some u → ∃ x as', kvs[j]? = some x ∧ Reads s'.heap u (.tuple (kd x)) as' := fun {j u} hj => by
        have jl : j < ys.length := by
          have := (List.getElem?_eq_some_iff.mp hj).1
          omega
        obtain ⟨x, hx, hd⟩ := hdp j ys[j] (List.getElem?_eq_getElem jl)
        obtain ⟨u', hu', ru⟩ := ri.get (List.getElem?_eq_getElem jl)
        have e : u' = u := Option.some.inj (hu'.symm.trans hj)
        rw [e] at ru
        obtain ⟨as', r⟩ := Dp.reads Ii _ _ _ hd ru
        exact ⟨x, as', hx, r⟩
      have cmp : Cmp X.prog X.w X.A.in1.in1 s' (tuples' false) (fun p => p ∈ its.zip (as.map Value.ref)) (fun p q : Keyed => decide (rankOf as kvs ρ p.2 < rankOf as kvs ρ q.2)) := by
        intro p q hp hq
        obtain ⟨j, t, x, e1, h1, h2, h3⟩ := mem_at p hp
        obtain ⟨i, t', x', e1', h1', h2', h3'⟩ := mem_at q hq
        obtain ⟨y, bs, hy, r⟩ := rd h3
        obtain ⟨y', bs', hy', r'⟩ := rd h3'
        have ey : y = x := Option.some.inj (hy.symm.trans h2)
        have ey' : y' = x' := Option.some.inj (hy'.symm.trans h2')
        rw [ey] at r
        rw [ey'] at r'
        have m := List.mem_of_getElem? h2
        have m' := List.mem_of_getElem? h2'
        refine keyLt_data r r' (canLay_of_shaped (hsh x m)) (canLay_of_shaped (hsh x' m')) (hok x m x' m') (room_of_shaped (hsh x m) (by show X.A.units + 1 + 1 + 64 < cLine; omega)) ⟨rfl, ?_⟩
        show ltL (kd x) (kd x') = decide (rankOf as kvs ρ p.2 < rankOf as kvs ρ q.2)
        rw [e1, e1', rank_at nd h1 h2, rank_at nd h1' h2', hρ x m x' m']
      have kk : ∀ (R : SortKind → Shared → Prop), R (tuples' false) s' → wpAny (model X.prog X.w) X.A.in1.in1 (keyKind' its.toArray) R E s' := by
        intro R hR
        obtain ⟨fs, k1, k2, k3⟩ := kat_of (h := s'.heap) its fun u hu' => by
          obtain ⟨j, hj⟩ := List.mem_iff_getElem?.mp hu'
          obtain ⟨x, as', hx, r⟩ := rd hj
          obtain ⟨l, r', e⟩ := hft x (List.mem_of_getElem? hx)
          rw [e] at r
          exact ⟨l, r', as', r⟩
        refine PySem.W.kat_kind (T := .type "tuple") k1 (by rw [szl] at h2s; omega) (fun v hv => ?_) (by decide) (by
          have z : (Value.type "tuple" != Value.type "tuple") = false := by decide
          rw [z]
          exact hR)
        obtain ⟨b, o, rfl, ho, hc⟩ := k3 v hv
        rw [← hc]
        exact (PySem.W.Looks.ld ho).andThen .now
      refine wpAny_bind (kk _ ?_)
      refine wpAny_bind (wpAny_mono (wpS_sortO (st0 := SortSt.mk' (tuples' false) (its.toArray.zip (as.map Value.ref).toArray) #[] 7 none)
        (Q := fun _ st' => Srtd (fun p q : Keyed => decide (rankOf as kvs ρ p.2 < rankOf as kvs ρ q.2)) (arrOf st').toList ∧ Stb (fun p q : Keyed => decide (rankOf as kvs ρ p.2 < rankOf as kvs ρ q.2)) (arrOf st').toList (its.zip (as.map Value.ref)) ∧ failedOf st' = none) (swo_rank fun p : Keyed => rankOf as kvs ρ p.2) cmp rfl
        (fun p hp => by
          have hp : p ∈ (its.toArray.zip (as.map Value.ref).toArray).toList := hp
          rw [pairsL] at hp
          exact hp) rfl rfl fun st' a1 a2 a3 => ⟨a1, by
            have a2 : Stb _ (arrOf st').toList (its.toArray.zip (as.map Value.ref).toArray).toList := a2
            rw [pairsL] at a2
            exact a2, a3⟩) ?_ fun _ _ e => e)
      rintro ⟨⟨⟩, st'⟩ s'' ⟨rfl, a1, a2, a3⟩
      try dsimp only
      exact tail st' a1 a2 a3
end
end KS
set_option Elab.async false
set_option linter.all false
set_option maxRecDepth 100000
set_option maxHeartbeats 4000000
namespace KS
open PySem PySem.Spec PyProof.Rows PySem.Calls L2 KB KC KD LamX PySem.SeqAt
def rSortItK (X : Cx) : List V → List V → Hp → VK → Prop := fun vs zs H Q => ∃ (p a f : Addr) (kvs : List (List Key × V)) (kd : List Key × V → List PyData) (ρ : List Key × V → Int), vs = [.ref p] ∧ zs = [.ref f] ∧ H p = some (L2.DX.itemsO p a) ∧ H a = some (.dT kvs) ∧
  (∀ x ∈ kvs, shaped (.tuple (kd x)) = true) ∧ (∀ x ∈ kvs, pureL (kd x) = true) ∧ (∀ x ∈ kvs, ∃ l r, kd x = .tuple l :: r) ∧ (∀ x ∈ kvs, ∀ y ∈ kvs, okL (kd x) (kd y) = true) ∧ (∀ x ∈ kvs, ∀ y ∈ kvs, ltL (kd x) (kd y) = decide (ρ x < ρ y)) ∧ KeyCall X f H kvs kd ∧
  ∀ (H' : Hp) (D : Addr) (zs : List (Addr × (List Key × V))), Ex H H' → H D = none → H' D = some (.lst (zs.map fun z => V.ref z.1)) → (zs.map (·.2)).Perm kvs → (zs.map (·.2)).Pairwise (fun x y => ¬ ρ y < ρ x) →
    (∀ z ∈ zs, ∃ q, H' z.1 = some (.tup [.ref q, z.2.2]) ∧ H' q = some (.tup (z.2.1.map kV))) → Q (.ref D) H'
section
variable {X : Cx}
theorem cr_sortedItK (hc : X.calm = true) (hu : X.A.units + 66 < cLine) : CallRK X (.builtin "sorted") [Str.ofString "key"] (rSortItK X) := by
  intro pins s σ H xs zs us ws Q I r rz h
  obtain ⟨p, a, f, kvs, kd, ρ, rfl, rfl, hp, ha, hsh, hpu, hft, hok, hρ, hcall, q⟩ := h
  obtain rfl := Vals.ref1 r
  obtain rfl := Vals.ref1 rz
  have view : s.heap.IsItemsView p a := (show ObjOk X.prog X.w H s.heap p (L2.DX.itemsO p a) from I.hok p _ hp).1
  obtain ⟨z, hd, xs', rel, o, es, ep, ho, hx, hdat, hes, his, hn⟩ := dt_of I.hok ha
  have l1 : kvs.length = xs'.length := Paired.length rel
  have l2 : es.size = xs'.length := size_of_entries hes
  show wpAny _ _ (call (.builtin "sorted") [.ref p] [(Str.ofString "key", .ref f)]) _ _ s
  refine call_function_entry_kw kind_sorted plain_sorted entry_sorted (ksk_s1 _ _) ?_
  unfold Builtin.«sorted»
  refine wpAny_bind (m := checkCount "sorted" 1 1 _) (wpAny_pure ?_)
  refine wpAny_bind (DT.collectI (A := X.A.in1) (es := es) (ep := ep) (I.ok.hd hc) view ⟨o, ho, hx, hdat⟩ (by omega) fun h' tk as hk hlt hl hG => ?_)
  refine wpAny_bind (wpAny_newList ?_ (by rw [List.length_map, hl]; omega))
  have hoL : (h'.push (seqObj "list" (as.map Value.ref).toArray 0)).get? h'.objs.size = some (seqObj "list" (as.map Value.ref).toArray 0) := Heap.get?_push_size _ rfl
  refine wpAny_bind (wpAny_holding (wpAny_call_entry_kw slot_list_sort ⟨_, hoL, rfl⟩ entry_list_sort ?body (ksk_l1 _ _)))
  case body =>
    show wpAny (model X.prog X.w) X.A.in1.in1 (Builtin.«list.sort» ⟨[.ref h'.objs.size], [(Str.ofString "key", .ref f)]⟩) _ _ _
    rw [ksk_t1]
    refine sort_body (s := s) (h2 := h'.push (seqObj "list" (as.map Value.ref).toArray 0)) (tk := tk) (ρ := ρ) I (fun b u e => Heap.get?_push_of_some _ (hk b u e)) hoL (Nat.le_of_lt hlt) rel hes hl
      ⟨hG.rise, hG.above, fun j b hj => let ⟨e, he, hg⟩ := hG.pairs j b hj; ⟨e, he, Heap.get?_push_of_some _ hg⟩⟩ z hsh hpu hft hok hρ hu hcall fun H' s' zs J e1 e2 e3 e4 e5 e6 => ⟨_, rfl, ?_⟩
    exact wpAny_pure ⟨_, rfl, .ref h'.objs.size, H', J, rfl, q H' h'.objs.size zs e1 e2 e3 e4 e5 e6⟩
theorem keyCall_lam {k : Nat} {f c' : Addr} {qn : Str} {params : Arguments} {body : Expr} {scope : Scope} {N : List Str} {pn : Str} {H : Hp} {kvs : List (List Key × V)} {kd : List Key × V → List PyData} (S : FnScope N [pn] scope) (hr : Room (k + 3) X.A)
    (hf : H f = some (LamO f qn params body scope c')) (hc : H c' = some (CodeO c' qn)) (hb : ∀ (s : Shared) (pm ctv u : Value), BindsTo s (PySem.W.kla_fn "<lambda>" qn params body scope [] pm (.ref c') ctv) ⟨[u], []⟩ ([pn].zip [u]))
    (hbody : ∀ (A : Around) (outer : List Env) (s : Shared) (H1 : Hp), Room k (A.deeper (envOfC qn scope s.heap.objs.size f (.ref c'))) → ∀ x ∈ kvs, ∀ (t q : Addr) (Q : VK), Ex H H1 → H1 t = some (.tup [.ref q, x.2]) → H1 q = some (.tup (x.1.map kV)) →
      (∀ y H2, Ex H1 H2 → Dp X.K H2 y (.tuple (kd x)) → Q y H2) → ∃ tt, PE (cxOf CX0 X.prog X.w X.K X.mg X.base N qn scope f (.ref c') A outer s H1 E0) body tt ∧ tt (start N [.ref t]) H1 Q) : KeyCall X f H kvs kd := by
  intro x hx t q H1 e1 h1 h2 pins σ s1 R J hR
  have hr2 : Room (k + 1) X.A.in1.in1 := (show Room (k + 2) X.A.in1 from Room.in1 hr).in1
  have rc := lam_run (CX := CX0) (Q := fun y H2 => Ex H1 H2 ∧ Dp X.K H2 y (.tuple (kd x))) (E := E0) (vs := [.ref t]) (us := [.ref t]) (args := ⟨[.ref t], []⟩) S hr2 J.env0.in1.in1 (e1 _ _ hf) (e1 _ _ hc) (fun pm ctv => hb s1 pm ctv _) (.cons rfl .nil) rfl
    (fun hr' => hbody _ _ s1 H1 hr' x hx t q _ e1 h1 h2 fun y H2 a b => ⟨a, b⟩)
  refine wpAny_call (codeAny_mono rc fun r s2 hq => ?_)
  cases r with
  | error e => exact (show False from hq).elim
  | ok fl =>
    cases fl with
    | ret u =>
      obtain ⟨y, H2, J2, ry, a, b⟩ := J.after hq
      exact hR y u H2 s2 J2 a ry b
    | next => exact False.elim hq
    | brk => exact False.elim hq
    | cont => exact False.elim hq
end
end KS
set_option Elab.async false
set_option linter.all false
set_option maxRecDepth 100000
set_option maxHeartbeats 4000000
namespace KG
open PySem PySem.Spec PyProof.Rows PySem.Calls L2 KB
def mergeT (acc kvs : List (List Key × V)) : List (List Key × V) := kvs.foldl (fun acc p => putK acc p.1 p.2) acc
theorem kt_merge {H : Hp} : ∀ {kvs : List (List Key × V)} {xs : List (List Key × Addr × Value)} {acc : List (List Key × V)} {ys : List (List Key × Addr × Value)}, KT H kvs xs → KT H acc ys → KT H (mergeT acc kvs) (storedAllH ys xs)
  | _, _, _, _, .nil, r => r
  | _, _, _, _, .cons (a := p) (b := x) (l₁ := kvs) (l₂ := xs) h t, r => by
    obtain ⟨h1, h2, h3⟩ := h
    have z := KT.put r p.1 (b := x.2.1) (by exact h2) h3
    show KT H (mergeT (putK _ p.1 p.2) kvs) (storedAllH (storedH _ x.1 x.2.1 x.2.2) xs)
    rw [← h1]
    exact kt_merge t z
theorem putK_len {κ : Type} [DecidableEq κ] (kvs : List (κ × V)) (k : κ) (v : V) : (putK kvs k v).length ≤ kvs.length + 1 := by
  unfold putK
  split
  · rw [List.length_map]; omega
  · rw [List.length_append]; simp
theorem merge_len : ∀ (kvs acc : List (List Key × V)), (mergeT acc kvs).length ≤ acc.length + kvs.length
  | [], acc => Nat.le_refl _
  | p :: kvs, acc => by
    have h1 := merge_len kvs (putK acc p.1 p.2)
    have h2 := putK_len acc p.1 p.2
    rw [List.length_cons]
    show (mergeT (putK acc p.1 p.2) kvs).length ≤ _
    omega
section
variable {X : Cx} {pins : List (Addr × Obj)} {σ : L2.St} {H : Hp} {s : Shared}
theorem pairs_raw (I : Inv X pins σ H s) : ∀ {ts : List Addr} {kvs : List (List Key × V)}, PairsOf H ts kvs → ∃ xs : List (List Key × Addr × Value), KT H kvs xs ∧ xs.length = ts.length ∧ ∀ (j : Nat) (x : List Key × Addr × Value), xs[j]? = some x → ∃ t, ts[j]? = some t ∧ s.heap.IsTuple t #[.ref x.2.1, x.2.2]
  | _, _, .nil => ⟨[], .nil, rfl, fun j x h => by simp at h⟩
  | _, _, .cons (a := t) (b := p) (l₁ := ts) (l₂ := kvs) h r => by
    obtain ⟨xs, k1, k2, k3⟩ := pairs_raw I r
    obtain ⟨q, h1, h2⟩ := h
    obtain ⟨_, its, rv, ht⟩ := (show ObjOk X.prog X.w H s.heap t (.tup [.ref q, p.2]) from I.hok t _ h1)
    cases rv with
    | cons r1 r2 =>
      cases r2 with
      | @cons _ u _ _ r3 r4 =>
        cases r4
        cases r1
        refine ⟨(p.1, q, u) :: xs, .cons ⟨rfl, h2, r3⟩ k1, by rw [List.length_cons, List.length_cons, k2], fun j x hj => ?_⟩
        cases j with
        | zero =>
          simp only [List.getElem?_cons_zero, Option.some.injEq] at hj
          subst hj
          exact ⟨t, rfl, ht⟩
        | succ j =>
          simp only [List.getElem?_cons_succ] at hj
          exact k3 j x hj
def rDictT : List V → Hp → VK → Prop := fun vs H Q => ∃ (a : Addr) (ts : List Addr) (kvs : List (List Key × V)), vs = [.ref a] ∧ (H a = some (.lst (ts.map V.ref)) ∨ ∃ o, H a = some (.frz o (.tup (ts.map V.ref))) ∧ o.dict = none) ∧ PairsOf H ts kvs ∧ ∀ p, H p = none → Q (.ref p) (upd H p (.dT (mergeT [] kvs)))
theorem cr_dictT (hc : X.calm = true) (hu : X.A.units + 4 < cLine) : CallR X (.type "dict") rDictT := by
  intro pins s σ H vs us Q I r h
  obtain ⟨a, ts, kvs, rfl, ha, hp, q⟩ := h
  obtain rfl := Vals.ref1 r
  obtain ⟨xs, k1, k2, k3⟩ := pairs_raw I hp
  have lk : kvs.length = xs.length := Paired.length k1
  have items : PairItems s.heap (ts.map Value.ref).toArray (fun j => ts.getD j 0) (xs.map fun x => (Value.ref x.2.1, x.2.2)) := by
    refine ⟨by simp [k2], fun j k v hj => ?_⟩
    rw [List.getElem?_map] at hj
    obtain ⟨x, hx, e⟩ := Option.map_eq_some_iff.mp hj
    obtain ⟨t, ht, hT⟩ := k3 j x hx
    cases e
    refine ⟨by simp [ht], .inl ?_⟩
    have e2 : ts.getD j 0 = t := by simp [List.getD, ht]
    show s.heap.IsTuple (ts.getD j 0) _
    rw [e2]
    exact hT
  have nps : (xs.map fun x => (Value.ref x.2.1, x.2.2)).length = xs.length := List.length_map _
  have hc2 : PairsHaveH (tupleKind (mixKind X.prog X.w)) (xs.map fun x => (Value.ref x.2.1, x.2.2)).length (PairRel (xs.map fun x => (Value.ref x.2.1, x.2.2))) xs := by
    refine ⟨by rw [nps], fun i key v hj => ?_⟩
    have hj : (xs.map fun x => (Value.ref x.2.1, x.2.2))[i]? = some (key, v) := hj
    rw [List.getElem?_map] at hj
    obtain ⟨x, hx, e⟩ := Option.map_eq_some_iff.mp hj
    cases e
    exact ⟨x.1, x.2.1, by rw [hx], rfl⟩
  have keys : ∀ x ∈ xs, (tupleKind (mixKind X.prog X.w)).is s.heap x.1 x.2.1 := fun x hx => by
    obtain ⟨p, _, e1, e2, _⟩ := mem_r k1 x hx
    rw [← e1]
    exact key_of I.hok e2
  have hst : KeysStay (tupleKind (mixKind X.prog X.w)) s.heap s.heap.objs.size [] xs := fun h' hk x hx => by
    obtain ⟨o, its, n, ho, hc', hd, hi⟩ := keys x hx
    exact ⟨o, its, n, hk _ _ (Nat.ne_of_lt (Heap.lt_size ho)) (by simp) ho, hc', hd, hi⟩
  have hroom : (tupleKind (mixKind X.prog X.w)).room X.A.in1.in1 := tupleKind_room_in1 (by show X.A.units + 1 + 1 < cLine; omega)
  have hm : (s.heap.objs.size == sysModules) = false := beq_eq_false_iff_ne.mpr (Nat.ne_of_gt I.big)
  have fin : ∀ (h' : Heap) (tk : Nat), h'.DictOfH (tupleKind (mixKind X.prog X.w)) s.heap.objs.size (storedAllH [] xs) → (∀ b o, b ∉ ([] : List Addr) → s.heap.get? b = some o → h'.get? b = some o) → kvs.length ≤ sizeLine → EP X pins σ Q (.ref s.heap.objs.size) { s with heap := h', toks := tk } := by
    intro h' tk hd hk hz
    obtain ⟨o, es, ep, d1, d2, d3, d4, _, d6⟩ := hd
    have kt : KT (upd H s.heap.objs.size (.dT (mergeT [] kvs))) (mergeT [] kvs) (storedAllH [] xs) := (kt_merge k1 .nil).keeps fun b ys e => by rw [upd_ne (ne_of_none e (I.hok.fresh (Nat.le_refl _)))]; exact e
    have hz2 := merge_len kvs []
    exact ⟨.ref s.heap.objs.size, _, I.laid (t' := tk) (o := .dT (mergeT [] kvs)) (fun b o e => hk b o (by simp) e) (Nat.le_refl _) ⟨by simp at hz2; omega, hm, _, kt, o, es, ep, d1, d2, d3, d4, d6⟩, rfl, q _ (I.hok.fresh (Nat.le_refl _))⟩
  rcases ha with ha | ha
  · obtain ⟨hz, its, n, ri, hraw⟩ := (show ObjOk X.prog X.w H s.heap a (.lst (ts.map V.ref)) from I.hok a _ ha)
    have ei : its = ts.map Value.ref := refs_at ri
    subst ei
    rw [List.length_map] at hz
    exact call_dict_pairsH (knd := tupleKind (mixKind X.prog X.w)) (PairArg.list a _ _ _) (I.ok.hd hc) hroom ⟨⟨_, n, hraw, rfl, rfl, rfl⟩, items⟩ hc2 hst (by rw [nps]; omega) fun h' tk hd hk => fin h' tk hd hk (by omega)
  · obtain ⟨o, ha, hdn⟩ := ha
    obtain ⟨ho, hz, its, ri, hraw⟩ := (show ObjOk X.prog X.w H s.heap a (.frz o (.tup (ts.map V.ref))) from I.hok a _ ha)
    have ei : its = ts.map Value.ref := refs_at ri
    subst ei
    rw [List.length_map] at hz
    obtain ⟨o', ho', hcl, n, hdat⟩ := hraw
    have e : o' = o := Option.some.inj (ho'.symm.trans ho)
    subst e
    exact call_dict_pairsH (knd := tupleKind (mixKind X.prog X.w)) (PairArg.tuple a _ _ _) (I.ok.hd hc) hroom ⟨⟨o', n, ho, hcl, hdn, hdat⟩, items⟩ hc2 hst (by rw [nps]; omega) fun h' tk hd hk => fin h' tk hd hk (by omega)
def rTupleF (K : PySem.W.Frag) : List V → Hp → VK → Prop := fun vs H Q => ∃ (p : Addr) (ys : List V), vs = [.ref p] ∧ SqL K H p ys ∧ ∀ (l : Addr) (o : Obj), o.dict = none → H l = none → Q (.ref l) (upd H l (.frz o (.tup ys)))
theorem cr_tupleF : CallR X (.type "tuple") (rTupleF X.K) := by
  intro pins s σ H vs us Q I r h
  obtain ⟨p, ys, rfl, hq, q⟩ := h
  obtain rfl := Vals.ref1 r
  obtain ⟨its, r', pl, hz⟩ := I.list hq
  have hlen := r'.length
  refine call_tuple_list pl.isList (fun h' kp => ?_) (by simp only [List.size_toArray]; omega)
  have I1 : Inv X pins σ H { s with heap := h' } := I.kept (t' := s.toks) kp
  have hget : (h'.push { cls := .type "tuple", data := .seq its.toArray }).get? h'.objs.size = some { cls := .type "tuple", data := .seq its.toArray } := Heap.get?_push_size _ rfl
  exact ⟨.ref h'.objs.size, _, I1.laid (t' := s.toks) (o := .frz { cls := .type "tuple", data := .seq its.toArray } (.tup ys)) (fun b o e => Heap.get?_push_of_some _ e) (Nat.le_refl _) ⟨hget, hz, its, r', _, hget, rfl, 0, rfl⟩, rfl, q _ _ rfl (I1.hok.fresh (Nat.le_refl _))⟩
end
end KG
set_option Elab.async false
set_option linter.all false
set_option maxRecDepth 100000
set_option maxHeartbeats 4000000
namespace KH
open PySem PySem.Spec PyProof.Rows PySem.Calls L2 KB GxR
def EltI (prog : Program) (w : World) (scope : Scope) (x : Str) (elt : Expr) (pb : Int → Bool) : Prop :=
  ∀ (cenv : Env) (A' : Around) (E' : Value → Shared → Prop) (i : Int) (t : Tok) (s₂ : Shared) (m₂ : Str → Option Value), cenv.scope = scope → s₂.heap.Ns cenv.locals m₂ → m₂ x = some (.int i t) →
    wpAny (model prog w) A' (eval elt cenv) (fun y s₃ => y = .bool (pb i) ∧ Keeps s₂ s₃) E' s₂
theorem elt_gt {prog : Program} {w : World} {scope : Scope} {x : Str} {n : Int} {j : Nat} {p1 p2 p3 : Pos} (hk : scope.kind = .function) (hl : scope.names.lookup x = some .local) (hd : (x == ("__debug__" : Str)) = false := by decide) :
    EltI prog w scope x (.Compare (.Name x p1) [.Gt] [.Constant (.int n) j p2] p3) (fun i => decide (n < i)) := by
  intro cenv A' E' i t s₂ m₂ hs hn hm
  refine wpAny_Compare1 ?_
  refine wpAny_Name (wpAny_loadName_local (by rw [hs]; exact hk) (show cenv.scope.names.lookup x = some .local by rw [hs]; exact hl) hn hm ?_) hd
  refine wpAny_Constant_int ?_
  exact PyProof.Rows.gt_int ⟨rfl, keeps_tok _ _⟩
def intP (pb : Int → Bool) : Value → Bool
  | .int i _ => pb i
  | _ => false
def vP (pb : Int → Bool) : V → Bool
  | .int i => pb i
  | _ => false
def trE (pb : Int → Bool) (es : Array DictEntry) (j : Nat) : Bool := match es[j]? with
  | some e => intP pb e.val
  | none => false
theorem all_trE (pb : Int → Bool) (es : Array DictEntry) : (List.range es.size).all (trE pb es) = es.toList.all fun e => intP pb e.val := by
  rw [Bool.eq_iff_iff, List.all_eq_true, List.all_eq_true]
  constructor
  · intro h e he
    obtain ⟨j, hj, hx⟩ := List.getElem_of_mem he
    have hj' : j < es.size := by rw [← Array.length_toList]; exact hj
    have q := h j (List.mem_range.mpr hj')
    unfold trE at q
    rw [Array.getElem?_eq_getElem hj'] at q
    rw [Array.getElem_toList] at hx
    rw [← hx]
    exact q
  · intro h j hj
    have hj' := List.mem_range.mp hj
    unfold trE
    rw [Array.getElem?_eq_getElem hj']
    exact h _ (Array.mem_toList_iff.mpr (Array.getElem_mem hj'))
theorem all_kt (pb : Int → Bool) {H : Hp} : ∀ {kvs : List (List Key × V)} {xs : List (List Key × Addr × Value)}, KT H kvs xs → (xs.all fun x => intP pb x.2.2) = kvs.all fun p => vP pb p.2
  | _, _, .nil => rfl
  | _, _, .cons (a := p) (b := x) h t => by
    rw [List.all_cons, List.all_cons, all_kt pb t]
    obtain ⟨_, _, rv⟩ := h
    have e : intP pb x.2.2 = vP pb p.2 := by
      cases hp : p.2 with
      | int i =>
        rw [hp] at rv
        obtain ⟨t, e⟩ := rv
        rw [e]
        rfl
      | non => rw [hp] at rv; rw [show x.2.2 = Value.none from rv]; rfl
      | bl b => rw [hp] at rv; rw [show x.2.2 = Value.bool b from rv]; rfl
      | str z => rw [hp] at rv; obtain ⟨t, e⟩ := rv; rw [e]; rfl
      | byt z => rw [hp] at rv; obtain ⟨t, e⟩ := rv; rw [e]; rfl
      | flt z => rw [hp] at rv; obtain ⟨t, e⟩ := rv; rw [e]; rfl
      | ref a => rw [hp] at rv; rw [show x.2.2 = Value.ref a from rv]; rfl
      | ty n => rw [hp] at rv; rw [show x.2.2 = Value.type n from rv]; rfl
    rw [e]
theorem nat1 {a b c : Nat} (h : a < b) (e : c = b + 1) (q : a = c) : False := by omega
theorem nat2 {a b c : Nat} (h : a < b) (e : b ≤ c) (q : a = c) : False := by omega
section
variable {X : Cx} {pins : List (Addr × Obj)} {σ : L2.St} {H : Hp} {s : Shared}
def ReadyI (X : Cx) (pins : List (Addr × Obj)) (σ : L2.St) (H1 : Hp) (P : Addr) (es : Array DictEntry) (pb : Int → Bool) (g : Addr) (s5 : Shared) : Prop :=
  ∃ (fp wr : List Addr) (G : Array GenState → Array GenState → Prop) (F : Nat → Value → Prop) (St : Nat → Shared → Prop),
    WalksS X.prog X.w X.A.in1 g fp wr G es.size F St ∧ St 0 s5 ∧ TruthOf X.prog X.w X.A.in1 F (trE pb es) ∧ ∀ s', Moved wr G s5 s' → ∃ H2, Tabbed P H1 H2 ∧ Inv X pins σ H2 s'
theorem gen_vals {c P : Addr} {elt e : Expr} {x : Str} {px gpos apos cpos : Pos} {scope : Scope} {pb : Int → Bool} {te : TE} {k : Nat} {Q' : Value → Shared → Prop} {R : List (List Key × V) → Hp → Prop}
    (hr : Room k X.A) (TB : TabB X.base X.mg c P) (hcode : X.env.code = .ref c) (S : GenS X.env scope x) (hi : PE X e te) (hel : EltI X.prog X.w scope x elt pb)
    (hbase : attributeBase e "values" X.env (eval e X.env) = eval e X.env) (hline : (apos.endLine == cpos.line) = true)
    (hs : ∀ v, genFold (.Call (.Attribute e "values" apos) [] [] cpos) X.env v = pure v) (I : Inv X pins σ H s) (h : te σ H fun v H1 => ∃ (d : Addr) (kvs : List (List Key × V)), v = .ref d ∧ H1 d = some (.dT kvs) ∧ IntVals kvs ∧ TabG H1 P ∧ R kvs H1)
    (hQ : ∀ kvs H1 es g s5, R kvs H1 → (es.toList.all fun e => intP pb e.val) = (kvs.all fun p => vP pb p.2) → ReadyI X pins σ H1 P es pb g s5 → Q' (.ref g) s5) :
    wpAny (model X.prog X.w) X.A (eval (.GeneratorExp elt [⟨.Name x px, .Call (.Attribute e "values" apos) [] [] cpos, [], 0⟩] scope gpos) X.env) Q' X.xe s := by
  refine wpAny_GeneratorExp_walksQ hr.hd S.co (closure_ok S.free) S.cell S.dot S.loc S.kind (by have := hr.dp; omega) ?_ hs
  refine wpAny_Call_method (T := "dict") (id := "dict.values") hbase rfl hline F.plainAttrs_dict F.slot_dict_values F.type_dict_values (thn (hi.run pins s σ H _ I h) fun u s1 ⟨v, H1, I1, r1, d, kvs, ev, hd, hiv, ⟨ps, hP, ht⟩, q1⟩ => ?_)
  subst ev
  obtain rfl : u = Value.ref d := r1
  obtain ⟨z, hm0, xs, rel, o, es, ep, ho, hx, hdat, hes, his, hn⟩ := dt_of I1.hok hd
  have raw : s1.heap.DictRaw d es ep := ⟨o, ho, hx, hdat⟩
  refine ⟨raw.typeIs, fun a e => by cases e; exact ⟨o, ho, hx.2.1⟩, ?_⟩
  show wpAny _ _ (callWith cpos (.builtin "dict.values") [.ref d] [] []) _ X.xe s1
  refine method_meetsIn F.slot_dict_values F.entry_dict_values rfl (PySem.evalArgs_none ⟨rfl, raw.typeIs, F.args_dict_values_1 _, _, meets_dict_values_raw d hm0, ⟨es, ep, raw⟩, ?_⟩)
  refine wpAny_pyIter_values_raw ⟨_, Heap.get?_push_size _ rfl, rfl, rfl⟩ (raw.at fun o e => Heap.get?_push_of_some _ e) ?_
  generalize hva : s1.heap.push { cls := .type "dict_values", data := .fields #[.ref d] } = hv
  have kv : ∀ b u, s1.heap.get? b = some u → hv.get? b = some u := fun b u e => by rw [← hva]; exact Heap.get?_push_of_some _ e
  have zv : hv.objs.size = s1.heap.objs.size + 1 := by rw [← hva, Heap.size_push]
  show _ ∧ _
  generalize hio : ({ cls := .type "dict_valueiterator", data := .fields #[.ref d, .int 0 0, .int es.size 0, .int ep 0] } : Obj) = io
  have k2 : ∀ b u, s1.heap.get? b = some u → (hv.push io).get? b = some u := fun b u e => Heap.get?_push_of_some _ (kv b u e)
  have hPs : s1.heap.get? P = some { cls := .none, data := .fields ps } := I1.hok P _ hP
  have hPlt : P < s1.heap.objs.size := Heap.lt_size hPs
  have hdlt : d < s1.heap.objs.size := Heap.lt_size ho
  have hP2 : (hv.push io).get? P = some { cls := .none, data := .fields ps } := k2 _ _ hPs
  have cd : PySem.W.CodeHd (hv.push io) c P := TB.code.keeps fun b u e => k2 b u (I1.bk b u e)
  have lim2 : (hv.push io).NoLimit := I1.nolimit.keeps k2
  have hst : (hv.push io).IsValIter hv.objs.size d 0 es.size ep ∧ (hv.push io).DictRaw d es ep := ⟨⟨_, Heap.get?_push_size _ (by rw [← hio]; rfl), by rw [← hio], by rw [← hio]; rfl⟩, raw.at fun o e => k2 _ _ e⟩
  have W : ∀ A' : Around, A'.handled = none → Walks X.prog X.w A' hv.objs.size [hv.objs.size, d] [hv.objs.size] es.size (fun i v => ∃ hi : i < es.size, v = es[i].val) (fun i h => h.IsValIter hv.objs.size d i es.size ep ∧ h.DictRaw d es ep) :=
    fun A' hA => Walks.rawValues hA _ d (by rw [zv]; exact Nat.ne_of_lt (Nat.lt_succ_of_lt hdlt)) es ep
  have vints : ∀ (i : Nat) (hi : i < es.size), ∃ n t, es[i].val = Value.int n t := fun i hi => by
    have hi' : i < xs.length := by rw [← size_of_entries hes]; exact hi
    have e1 := entry_at hes i
    rw [Array.getElem?_eq_getElem hi, List.getElem?_eq_getElem hi'] at e1
    have e2 := Option.some.inj e1
    obtain ⟨n, t, e3⟩ := kt_int rel hiv xs[i] (List.getElem_mem hi')
    exact ⟨n, t, by rw [e2]; exact e3⟩
  have hall : (es.toList.all fun e => intP pb e.val) = kvs.all fun p => vP pb p.2 := by
    rw [hes, List.all_map, ← all_kt pb rel]
    rfl
  have cont : ∀ (code : Value) (h3 : Heap) (tk : Nat) (ps' : Array Value), Heap.ExtBut P (hv.push io) h3 → (hv.push io).objs.size ≤ h3.objs.size → h3.get? P = some { cls := .none, data := .fields ps' } → (∃ more, ps' = ps ++ more) → TriplesOk ps'.toList →
      wpAny (model X.prog X.w) X.A (builtinsFor X.env.globals X.env.builtins) (fun bi s₄ =>
        ∃ Ia fp wr n₀ Pf St₀ pz F, Value.ref hv.objs.size = .ref Ia ∧ (∀ A' : Around, A'.handled = none → Walks X.prog X.w A' Ia fp wr n₀ Pf St₀) ∧ St₀ 0 s₄.heap ∧ (∀ b ∈ fp, b < s₄.heap.objs.size) ∧ s₄.heap.NoLimit ∧ cStatics ∉ wr ∧
          (∀ href : Heap, (∀ b o, s₄.heap.get? b = some o → href.get? b = some o) →
            QuietGen X.prog X.w (genEnv scope (cloFrom X.env.cells scope.names []) s₄.heap.objs.size code bi X.env) x [] elt (List.range s₄.heap.objs.size) wr Pf pz F href) ∧
          (∀ a h₅ tk gs, gs.bare = true → s₄.heap.objs.size < a → h₅.objs.size = a + 1 → (∀ b o, s₄.heap.get? b = some o → h₅.get? b = some o) →
            WalksS X.prog X.w X.A.in4 a (a :: s₄.heap.objs.size :: List.range s₄.heap.objs.size) (s₄.heap.objs.size :: wr) (GenOnlyQ s₄.gens.size) (passing pz n₀ 0).length
              (fun j y => ∃ i, (passing pz n₀ 0)[j]? = some i ∧ F i y) (GenAt X.prog X.w X.A.in4 a s₄.gens.size s₄.heap.objs.size (List.range s₄.heap.objs.size) wr pz n₀ F) →
            GenAt X.prog X.w X.A.in4 a s₄.gens.size s₄.heap.objs.size (List.range s₄.heap.objs.size) wr pz n₀ F 0 { s₄ with gens := s₄.gens.push gs, toks := tk, heap := h₅ } →
            Q' (.ref a) { s₄ with gens := s₄.gens.push gs, toks := tk, heap := h₅ })) X.xe { s1 with heap := h3, toks := tk } := by
    intro code h3 tk ps' hx3 hsz hP3 hmore ht3
    obtain ⟨bm, ob, e1, e2, e3, e4, e5, e6, e7, e8⟩ := TB.bm
    have hcP : cStatics ≠ P := fun e => by
      obtain ⟨_, hns, _⟩ := I1.nolimit
      obtain ⟨o', es', ep', ho', hd', _⟩ := hns
      rw [e, hPs] at ho'
      cases ho'
      cases hd'
    have hcl : cStatics < s1.heap.objs.size := let ⟨_, hns, _⟩ := I1.nolimit; hns.lt
    have sz2 : (hv.push io).objs.size = s1.heap.objs.size + 2 := by rw [Heap.size_push, zv]
    have keep3 : ∀ b u, b ≠ P → s1.heap.get? b = some u → h3.get? b = some u := fun b u hb e => hx3 b u hb (k2 b u e)
    refine wpAny_builtinsFor (m := X.mg) (by rw [I1.ok.glob]; exact (((I1.mod.glob.keeps I1.bk).keeps k2)).extBut hx3 TB.gP) e1 e2 (keep3 _ _ e4 (I1.bk _ _ e5)) e6 e7 e8 ?_
    refine ⟨hv.objs.size, [hv.objs.size, d], [hv.objs.size], es.size, _, _, (fun _ => true), (fun i y => ∃ hi : i < es.size, y = .bool (intP pb es[i].val)), rfl, W, ?_, ?_, lim2.extBut hx3 hcP, ?_, ?_, ?_⟩
    · refine (W X.A hr.hd).frame _ _ _ hst fun b hb u e => hx3 b u (fun z => ?_) e
      rcases List.mem_cons.mp hb with z2 | z2
      · exact (nat1 hPlt zv (z.symm.trans z2)).elim
      · rcases List.mem_cons.mp z2 with z2 | z2
        · rw [z.symm.trans z2, ho] at hPs
          cases hPs
          cases hdat
        · cases z2
    · intro b hb
      rcases List.mem_cons.mp hb with z | z
      · rw [z]
        show hv.objs.size < h3.objs.size
        omega
      · rcases List.mem_cons.mp z with z | z
        · rw [z]
          exact Nat.lt_of_lt_of_le hdlt (show s1.heap.objs.size ≤ h3.objs.size by omega)
        · cases z
    · intro z
      rcases List.mem_cons.mp z with z | z
      · exact (nat1 hcl zv z).elim
      · cases z
    · intro href hhref
      refine ⟨fun A' E' i v s₂ m₂ hA hPv hn hm hk => ?_, fun A' E' i v s₂ m₂ hA hPv hp hn hm hk => ?_⟩
      · simp only [List.forIn_nil]
        exact wpAny_pure ⟨rfl, keeps_refl _⟩
      · obtain ⟨hi', rfl⟩ := hPv
        obtain ⟨n, t, e⟩ := vints i hi'
        rw [e] at hm
        exact wpAny_mono (hel _ A' E' n t s₂ m₂ rfl hn hm) (fun y s3 r => ⟨⟨hi', by rw [r.1, e]; rfl⟩, r.2⟩) fun _ _ e => e
    · intro g h5 tk5 gs hgb hag hsz5 hk5 W5 hat
      simp only [GxR.passing_true, List.length_range] at W5
      refine hQ kvs H1 es g _ q1 hall ⟨_, _, _, _, _, W5.in4_1, hat, ?_, fun s' hmv => ?_⟩
      · intro j y sj Qj Ej hy hQj
        obtain ⟨i, hij, hi', rfl⟩ := hy
        obtain ⟨hj, ej⟩ := List.getElem?_eq_some_iff.mp hij
        rw [List.getElem_range] at ej
        subst ej
        have hQ2 : Qj (trE pb es j) sj := hQj
        unfold trE at hQ2
        rw [Array.getElem?_eq_getElem hi'] at hQ2
        exact wpAny_truthy_bool hQ2
      · obtain ⟨more, em⟩ := hmore
        have nwr : ∀ b u, s1.heap.get? b = some u → b ∉ h3.objs.size :: [hv.objs.size] := fun b u e hb => by
          have hl := Heap.lt_size e
          rcases List.mem_cons.mp hb with z | z
          · exact (nat2 hl (by omega) z).elim
          · rcases List.mem_cons.mp z with z | z
            · exact (nat1 hl zv z).elim
            · cases z
        have J := inv_tab (more := more) (h' := s'.heap) (g' := s'.gens) (d' := s'.drawn) (t' := s'.toks) I1 hP (fun b u hb e => hmv.heap b u (nwr b u e) (hk5 b u (keep3 b u hb e)))
          (by rw [← em]; exact hmv.heap P _ (nwr P _ hPs) (hk5 P _ hP3)) (AllBare.movedS (I1.bare.push hgb) hmv)
        rw [sh_eta s1 s' hmv.os] at J
        exact ⟨upd H1 P (.tbl (ps ++ more)), ⟨⟨ps ++ more, upd_same, by rw [← em]; exact ht3⟩, fun b hb => upd_ne hb⟩, J⟩
  refine ⟨lim2, ?_⟩
  cases hf : codeAmong gpos ps.toList with
  | none =>
    refine wpAny_genexprCodeX hcode (cd.code hP2 ht) (cd.tab hP2) hf fun c' h' tk hx3 hge hlt hco' _ htab' _ => ?_
    obtain ⟨o1, vs, f1, tf, fl, tg, inF, tx, tt, op, _, _, _, _, _, _, _, _, _, htr, _⟩ := hco'
    exact cont _ h' tk _ hx3 (Nat.le_trans hge (Nat.le_of_lt hlt)) htab'.2 ⟨_, rfl⟩ htr
  | some cv =>
    refine wpAny_genexprCode_hit hcode (cd.code hP2 ht) hf ?_
    exact cont cv (hv.push io) s1.toks ps (Heap.ExtBut.refl _ _) (Nat.le_refl _) hP2 ⟨#[], by simp⟩ ht
def tAllV (P : Addr) (pb : Int → Bool) (te : TE) : TE := fun σ H Q => te σ H fun v H1 => ∃ (d : Addr) (kvs : List (List Key × V)), v = .ref d ∧ H1 d = some (.dT kvs) ∧ IntVals kvs ∧ TabG H1 P ∧ ∀ H2, Tabbed P H1 H2 → Q (.bl (kvs.all fun p => vP pb p.2)) H2
theorem pe_allV {c P : Addr} {elt e : Expr} {x : Str} {px p pos gpos apos cpos : Pos} {scope : Scope} {pb : Int → Bool} {te : TE} {k : Nat}
    (hr : Room k X.A) (hg : Gl X "all") (hm : X.mg "all" = none) (TB : TabB X.base X.mg c P) (hcode : X.env.code = .ref c) (S : GenS X.env scope x) (hi : PE X e te) (hel : EltI X.prog X.w scope x elt pb)
    (hbase : attributeBase e "values" X.env (eval e X.env) = eval e X.env := by rfl) (hline : (apos.endLine == cpos.line) = true := by rfl)
    (hs : ∀ v, genFold (.Call (.Attribute e "values" apos) [] [] cpos) X.env v = pure v := by intro _; rfl)
    (he : starEach [.GeneratorExp elt [⟨.Name x px, .Call (.Attribute e "values" apos) [] [] cpos, [], 0⟩] scope gpos] X.env = (false, eval (.GeneratorExp elt [⟨.Name x px, .Call (.Attribute e "values" apos) [] [] cpos, [], 0⟩] scope gpos) X.env) :: starEach [] X.env := by rfl) :
    PE X (.Call (.Name "all" p) [.GeneratorExp elt [⟨.Name x px, .Call (.Attribute e "values" apos) [] [] cpos, [], 0⟩] scope gpos] [] pos) (tAllV P pb te) := by
  refine ⟨fun pins s σ H Q I h => ?_⟩
  refine wpAny_Call_Name_kw (ld_blt I hg hm boot_all ?_)
  refine PyProof.Rows.callWith_builtin1 ?_ he (by rfl)
  rw [he]
  show wpAny _ _ (spliced ((false, eval (.GeneratorExp elt [⟨.Name x px, .Call (.Attribute e "values" apos) [] [] cpos, [], 0⟩] scope gpos) X.env) :: backTo pos (starEach [] X.env))) _ _ s
  refine Calls.spliced_cons (gen_vals (R := fun kvs H1 => ∀ H2, Tabbed P H1 H2 → Q (.bl (kvs.all fun p => vP pb p.2)) H2) hr TB hcode S hi hel hbase hline hs I h fun kvs H1 es g s5 hR hal hG => ?_)
  obtain ⟨fp, wr, G, F, St, W, hst, htr, hI⟩ := hG
  refine Calls.spliced_nil ?_
  refine call_all_walkS (W.self 0 _ _ _ hst ⟨g, fp, wr, G, _, F, St, _, rfl, W, hst, htr, fun s' hmv => ?_⟩)
  obtain ⟨H2, hT, J⟩ := hI s' hmv
  refine ⟨.bl _, H2, J, rfl, ?_⟩
  rw [all_trE pb es, hal]
  exact hR H2 hT
end
end KH
set_option Elab.async false
set_option linter.all false
set_option maxRecDepth 100000
namespace KS
open PySem PySem.Spec PyProof.Rows L2
open PySem.W (Frag)
section
variable {X : Cx} {o i : Expr} {td ty : TE} {pos tpos : Pos}
def sDDelT (td ty : TE) : TS := fun D σ H => td σ H fun x H1 => ty σ H1 fun y H2 => ∃ a kvs k b, x = .ref a ∧ y = .ref b ∧ H2 a = some (.dT kvs) ∧ H2 b = some (.tup (k.map kV)) ∧ (valV kvs k).isSome = true ∧ D.nx σ (upd H2 a (.dT (dropK kvs k)))
theorem ps_ddelT (hu : X.A.units + 1 < cLine) (ho : PE X o td) (hi : PE X i ty) : PS X (.Delete [.Subscript o i tpos] pos) (sDDelT td ty) := by
  refine ⟨fun pins s σ H D I h => ?_⟩
  refine wpAny_Delete (wpAny_deleteEach_cons (wpAny_delete_Subscript (thn (ho.run pins s σ H _ I h) fun u s1 ⟨x, H1, I1, rx, q1⟩ => thn (hi.run pins s1 σ H1 _ I1 q1) fun iv s2 ⟨y, H2, I2, ry, a, kvs, k, b, ex, ey, ha, hb, l, q2⟩ => ?_)))
  subst ex ey
  obtain rfl : u = Value.ref a := rx
  obtain rfl : iv = Value.ref b := ry
  obtain ⟨z, hd, xs', rel, dd⟩ := dt_of I2.hok ha
  have hz : xs'.length ≤ sizeLine := by rw [← Paired.length rel]; exact z
  have r := rel.val k
  have hp : ∃ p, PySem.atKey xs' k = some p := by
    cases e : PySem.atKey xs' k with
    | some p => exact ⟨p, rfl⟩
    | none =>
      rw [e] at r
      cases e2 : valV kvs k with
      | none => rw [e2] at l; cases l
      | some v => rw [e2] at r; exact (show False from r).elim
  obtain ⟨p, hp⟩ := hp
  refine wpAny_delItem_heap (knd := tupleKind (mixKind X.prog X.w)) (k := k) (tupleKind_room_in1 hu) (key_of I2.hok hb) hd dd hp (fun h' dd' hs => ?_) hz
  obtain ⟨o, es, ep, hq, h2, h3, h4, _, h5⟩ := dd'
  have I3 : Inv X _ σ (upd H2 a (.dT (dropK kvs k))) { s2 with heap := h', toks := s2.toks + (tupleKind (mixKind X.prog X.w)).draws k } :=
    d_write I2 (by rw [ha]; exact True.intro) hs ⟨o, hq⟩ ⟨Nat.le_trans (dropK_le kvs k) z, hd, _, (L2.DX.KT_drop k rel).keeps (fun c ys ec => (by rw [upd_ne (ne_of ec ha (fun z => nomatch z))]; exact ec)), o, es, ep, hq, h2, h3, h4, h5⟩
  exact wpAny_deleteEach_nil ⟨σ, _, I3, q2⟩
end
end KS
set_option Elab.async false
set_option linter.all false
set_option maxRecDepth 100000
namespace KM
open PySem PySem.Spec PyProof.Rows L2 KB KC
abbrev Row := List Key
abbrev W := List (Row × Int)
def iv (ws : W) : List (List Key × V) := ws.map fun p => (p.1, V.int p.2)
def look (ws : W) (k : Row) : Option Int := (ws.find? fun p => decide (p.1 = k)).map (·.2)
def putI (ws : W) (k : Row) (n : Int) : W := if (ws.any fun p => decide (p.1 = k)) = true then ws.map (fun p => if p.1 = k then (p.1, n) else p) else ws ++ [(k, n)]
def dropI (ws : W) (k : Row) : W := ws.filter fun p => decide (p.1 ≠ k)
theorem iv_len (ws : W) : (iv ws).length = ws.length := List.length_map ..
theorem valV_iv (ws : W) (k : Row) : valV (iv ws) k = (look ws k).map V.int := by
  unfold valV iv look
  rw [List.find?_map]
  cases e : ws.find? ((fun kv : Row × V => decide (kv.1 = k)) ∘ fun p : Row × Int => (p.1, V.int p.2)) with
  | none =>
    have e2 : ws.find? (fun p => decide (p.1 = k)) = none := e
    rw [e2]; rfl
  | some p =>
    have e2 : ws.find? (fun p => decide (p.1 = k)) = some p := e
    rw [e2]; rfl
theorem putK_iv (ws : W) (k : Row) (n : Int) : putK (iv ws) k (.int n) = iv (putI ws k n) := by
  unfold putK putI iv
  rw [List.any_map]
  have e : (ws.any ((fun kv : Row × V => decide (kv.1 = k)) ∘ fun p : Row × Int => (p.1, V.int p.2))) = ws.any fun p => decide (p.1 = k) := rfl
  rw [e]
  split
  · rw [List.map_map, List.map_map]
    refine List.map_congr_left fun p _ => ?_
    show (if p.1 = k then (p.1, V.int n) else (p.1, V.int p.2)) = _
    simp only [Function.comp]
    split <;> rfl
  · rw [List.map_append]; rfl
theorem dropK_iv (ws : W) (k : Row) : dropK (iv ws) k = iv (dropI ws k) := by
  unfold dropK dropI iv
  rw [List.filter_map]
  rfl
theorem intVals_iv (ws : W) : IntVals (iv ws) := fun p hp => by
  obtain ⟨q, _, rfl⟩ := List.mem_map.mp hp
  exact ⟨_, rfl⟩
def Nd (ws : W) : Prop := (ws.map (·.1)).Nodup
theorem nd_nil : Nd [] := List.nodup_nil
theorem nd_cons {p : Row × Int} {r : W} : Nd (p :: r) ↔ (∀ n, (p.1, n) ∉ r) ∧ Nd r := by
  unfold Nd
  rw [List.map_cons, List.nodup_cons]
  constructor
  · rintro ⟨a, b⟩
    exact ⟨fun n h => a (List.mem_map.mpr ⟨_, h, rfl⟩), b⟩
  · rintro ⟨a, b⟩
    refine ⟨fun h => ?_, b⟩
    obtain ⟨q, hq, e⟩ := List.mem_map.mp h
    exact a q.2 (by rw [← e]; exact hq)
theorem look_mem {ws : W} (nd : Nd ws) {k : Row} {n : Int} : look ws k = some n ↔ (k, n) ∈ ws := by
  induction ws with
  | nil => simp [look]
  | cons p r ih =>
    obtain ⟨h1, h2⟩ := nd_cons.mp nd
    unfold look at ih ⊢
    rw [List.find?_cons]
    by_cases e : p.1 = k
    · simp only [e, decide_true, Option.map_some, Option.some.injEq, List.mem_cons]
      constructor
      · intro q; exact .inl (by rw [← e, ← q])
      · rintro (q | q)
        · rw [← q]
        · exact absurd q (by rw [← e]; exact h1 n)
    · simp only [e, decide_false, List.mem_cons, ih h2]
      constructor
      · exact .inr
      · rintro (q | q)
        · exact absurd (by rw [← q]) e
        · exact q
theorem look_none {ws : W} {k : Row} : look ws k = none ↔ ∀ n, (k, n) ∉ ws := by
  unfold look
  rw [Option.map_eq_none_iff, List.find?_eq_none]
  constructor
  · intro h n hn
    exact h _ hn (by simp)
  · intro h p hp e
    have e2 : p.1 = k := by simpa using e
    exact h p.2 (by rw [← e2]; exact hp)
theorem any_look (ws : W) (k : Row) : (ws.any fun p => decide (p.1 = k)) = (look ws k).isSome := by
  cases e : look ws k with
  | none =>
    rw [look_none] at e
    rw [List.any_eq_false.mpr]
    · rfl
    · intro p hp q
      have e2 : p.1 = k := by simpa using q
      exact e p.2 (by rw [← e2]; exact hp)
  | some n =>
    unfold look at e
    obtain ⟨p, hp, _⟩ := Option.map_eq_some_iff.mp e
    have h1 := List.mem_of_find?_eq_some hp
    have h2 := List.find?_some hp
    rw [List.any_eq_true.mpr ⟨p, h1, h2⟩]
    rfl
theorem keys_putI (ws : W) (k : Row) (n : Int) : (putI ws k n).map (·.1) = if (look ws k).isSome = true then ws.map (·.1) else ws.map (·.1) ++ [k] := by
  unfold putI
  rw [any_look]
  split
  · rw [List.map_map]
    refine List.map_congr_left fun p _ => ?_
    simp only [Function.comp]
    split <;> rfl
  · rw [List.map_append]; rfl
theorem nd_put {ws : W} (nd : Nd ws) (k : Row) (n : Int) : Nd (putI ws k n) := by
  unfold Nd
  rw [keys_putI]
  split
  · exact nd
  · rename_i h
    rw [List.nodup_append]
    refine ⟨nd, List.nodup_cons.mpr ⟨List.not_mem_nil, List.nodup_nil⟩, fun a ha b hb e => h ?_⟩
    rw [List.mem_singleton] at hb
    obtain ⟨q, hq, e2⟩ := List.mem_map.mp ha
    have h3 : look ws k ≠ none := fun z => look_none.mp z q.2 (by rw [← hb, ← e, ← e2]; exact hq)
    cases z : look ws k with
    | none => exact absurd z h3
    | some m => rfl
theorem mem_put {ws : W} {k j : Row} {n m : Int} : (j, m) ∈ putI ws k n ↔ if j = k then m = n else (j, m) ∈ ws := by
  unfold putI
  rw [any_look]
  split
  · rename_i h
    rw [List.mem_map]
    constructor
    · rintro ⟨p, hp, e⟩
      by_cases c : p.1 = k
      · rw [if_pos c] at e
        cases e
        rw [if_pos c]
      · rw [if_neg c] at e
        subst e
        rw [if_neg c]
        exact hp
    · intro q
      by_cases c : j = k
      · rw [if_pos c] at q
        subst c q
        have h2 : ∃ x, look ws j = some x := Option.isSome_iff_exists.mp h
        have h3 : ¬ ∀ x, (j, x) ∉ ws := fun z => by rw [look_none.mpr z] at h; cases h
        obtain ⟨x, hx⟩ := Classical.not_forall.mp h3
        exact ⟨(j, x), Classical.not_not.mp hx, by rw [if_pos rfl]⟩
      · rw [if_neg c] at q
        exact ⟨_, q, by rw [if_neg c]⟩
  · rename_i h
    rw [List.mem_append, List.mem_singleton]
    have h2 : ∀ x, (k, x) ∉ ws := look_none.mp (by cases z : look ws k with | none => rfl | some x => rw [z] at h; exact absurd rfl h)
    constructor
    · rintro (q | q)
      · rw [if_neg (fun e => h2 m (by rw [← e]; exact q))]
        exact q
      · cases q
        rw [if_pos rfl]
    · intro q
      by_cases c : j = k
      · rw [if_pos c] at q
        subst c q
        exact .inr rfl
      · rw [if_neg c] at q
        exact .inl q
theorem nd_filter {ws : W} (nd : Nd ws) (p : Row × Int → Bool) : Nd (ws.filter p) := by
  induction ws with
  | nil => exact nd
  | cons x r ih =>
    obtain ⟨h1, h2⟩ := nd_cons.mp nd
    rw [List.filter_cons]
    split
    · exact nd_cons.mpr ⟨fun n h => h1 n (List.mem_filter.mp h).1, ih h2⟩
    · exact ih h2
def Rep (ws : W) (f : Row → Int) : Prop := Nd ws ∧ ∀ k n, (k, n) ∈ ws ↔ (f k = n ∧ n ≠ 0)
theorem rep_look {ws : W} {f : Row → Int} (r : Rep ws f) (k : Row) : look ws k = if f k = 0 then none else some (f k) := by
  split
  · rename_i h
    exact look_none.mpr fun n hn => by
      obtain ⟨a, b⟩ := (r.2 k n).mp hn
      omega
  · rename_i h
    exact (look_mem r.1).mpr ((r.2 _ _).mpr ⟨rfl, h⟩)
theorem rep_nil : Rep [] fun _ => 0 := ⟨nd_nil, fun k n => Iff.intro (fun h => nomatch h) (fun h => absurd h.1.symm h.2)⟩
theorem rep_getD {ws : W} {f : Row → Int} (r : Rep ws f) (k : Row) : (look ws k).getD 0 = f k := by
  rw [rep_look r]
  split
  · rename_i h; rw [h]; rfl
  · rfl
def addW (ws : W) (k : Row) (w : Int) : W :=
  if (look ws k).getD 0 + w ≠ 0 then putI ws k ((look ws k).getD 0 + w) else if (look ws k).isSome = true then dropI ws k else ws
theorem rep_add {ws : W} {f : Row → Int} (r : Rep ws f) (k : Row) (w : Int) : Rep (addW ws k w) fun j => if j = k then f j + w else f j := by
  unfold addW
  rw [rep_getD r]
  split
  · rename_i h
    refine ⟨nd_put r.1 _ _, fun j n => ?_⟩
    rw [mem_put]
    by_cases c : j = k
    · subst c
      simp only [if_true]
      constructor
      · rintro rfl; exact ⟨rfl, h⟩
      · rintro ⟨a, _⟩; exact a.symm
    · simp only [if_neg c]
      exact r.2 j n
  · rename_i h
    have h0 : f k + w = 0 := Classical.not_not.mp h
    have base : ∀ j n, j ≠ k → ((j, n) ∈ ws ↔ ((if j = k then f j + w else f j) = n ∧ n ≠ 0)) := fun j n c => by
      rw [if_neg c]; exact r.2 j n
    split
    · refine ⟨nd_filter r.1 _, fun j n => ?_⟩
      unfold dropI
      rw [List.mem_filter]
      by_cases c : j = k
      · subst c
        simp only [if_true, h0]
        constructor
        · rintro ⟨_, q⟩; simp at q
        · rintro ⟨a, b⟩; exact absurd a.symm b
      · rw [base j n c]
        simp [c]
    · rename_i h2
      refine ⟨r.1, fun j n => ?_⟩
      by_cases c : j = k
      · subst c
        simp only [if_true, h0]
        constructor
        · intro q
          rw [(look_mem r.1).mpr q] at h2
          exact absurd rfl h2
        · rintro ⟨a, b⟩; exact absurd a.symm b
      · exact base j n c
def tot : W → Row → Int
  | [], _ => 0
  | p :: r, j => (if j = p.1 then p.2 else 0) + tot r j
theorem tot_append (a b : W) (j : Row) : tot (a ++ b) j = tot a j + tot b j := by
  induction a with
  | nil => simp [tot]
  | cons p r ih => simp only [List.cons_append, tot, ih]; omega
def scale (ws : W) (n : Int) : W := ws.map fun p => (p.1, p.2 * n)
theorem tot_scale (a : W) (n : Int) (j : Row) : tot (scale a n) j = tot a j * n := by
  induction a with
  | nil => simp [tot, scale]
  | cons p r ih =>
    show (if j = p.1 then p.2 * n else 0) + tot (scale r n) j = ((if j = p.1 then p.2 else 0) + tot r j) * n
    rw [ih, Int.add_mul]
    split <;> simp
def neg (ws : W) : W := ws.map fun p => (p.1, -p.2)
theorem tot_neg (a : W) (j : Row) : tot (neg a) j = - tot a j := by
  induction a with
  | nil => simp [tot, neg]
  | cons p r ih =>
    show (if j = p.1 then -p.2 else 0) + tot (neg r) j = -((if j = p.1 then p.2 else 0) + tot r j)
    rw [ih]
    split <;> omega
def mk (rows : W) : W := rows.foldl (fun ws p => addW ws p.1 p.2) []
theorem rep_foldl : ∀ (rows : W) {ws : W} {f : Row → Int}, Rep ws f → Rep (rows.foldl (fun ws p => addW ws p.1 p.2) ws) fun j => f j + tot rows j
  | [], ws, f, r => by
    have e : (fun j => f j + tot [] j) = f := funext fun j => by simp [tot]
    rw [e]; exact r
  | p :: rows, ws, f, r => by
    have e : (fun j => f j + tot (p :: rows) j) = fun j => (if j = p.1 then f j + p.2 else f j) + tot rows j := funext fun j => by
      simp only [tot]
      split <;> omega
    rw [e]
    exact rep_foldl rows (rep_add r p.1 p.2)
theorem rep_mk (rows : W) : Rep (mk rows) (tot rows) := by
  have h := rep_foldl rows rep_nil
  have e : (fun j => 0 + tot rows j) = tot rows := funext fun j => by omega
  rw [e] at h
  exact h
theorem tot_mem {ws : W} (nd : Nd ws) : ∀ k n, (k, n) ∈ ws → tot ws k = n := by
  induction ws with
  | nil => intro k n h; nomatch h
  | cons p r ih =>
    obtain ⟨h1, h2⟩ := nd_cons.mp nd
    intro k n h
    have z : ∀ (r : W), (∀ n, (k, n) ∉ r) → tot r k = 0 := by
      intro r
      induction r with
      | nil => intro _; rfl
      | cons q t ih2 =>
        intro hq
        have e1 : ¬ k = q.1 := fun e => hq q.2 (by rw [e]; exact List.mem_cons_self ..)
        show (if k = q.1 then q.2 else 0) + tot t k = 0
        rw [if_neg e1, ih2 fun n hn => hq n (List.mem_cons_of_mem _ hn)]
        rfl
    rcases List.mem_cons.mp h with e | h
    · cases e
      show (if k = k then n else 0) + tot r k = n
      rw [if_pos rfl, z r h1]; omega
    · have e1 : ¬ k = p.1 := fun e => h1 n (by rw [← e]; exact h)
      show (if k = p.1 then p.2 else 0) + tot r k = n
      rw [if_neg e1, ih h2 k n h]; omega
theorem tot_not {k : Row} : ∀ {r : W}, (∀ n, (k, n) ∉ r) → tot r k = 0
  | [], _ => rfl
  | q :: t, hq => by
    have e1 : ¬ k = q.1 := fun e => hq q.2 (by rw [e]; exact List.mem_cons_self ..)
    show (if k = q.1 then q.2 else 0) + tot t k = 0
    rw [if_neg e1, tot_not fun n hn => hq n (List.mem_cons_of_mem _ hn)]
    rfl
theorem tot_rep {ws : W} {f : Row → Int} (r : Rep ws f) (k : Row) : tot ws k = f k := by
  by_cases h : f k = 0
  · rw [h]
    exact tot_not fun n hn => by
      obtain ⟨a, b⟩ := (r.2 k n).mp hn
      omega
  · exact tot_mem r.1 k (f k) ((r.2 _ _).mpr ⟨rfl, h⟩)
theorem rep_congr {ws : W} {f g : Row → Int} (r : Rep ws f) (e : ∀ k, f k = g k) : Rep ws g := by
  have : f = g := funext e
  rw [← this]; exact r
theorem sub_len : ∀ (a b : W), Nd a → (∀ p ∈ a, p ∈ b) → a.length ≤ b.length
  | [], b, _, _ => Nat.zero_le _
  | p :: r, b, nd, h => by
    obtain ⟨h1, h2⟩ := nd_cons.mp nd
    have hp : p ∈ b := h p (List.mem_cons_self ..)
    have l : (b.filter fun q => decide (q ≠ p)).length < b.length := List.length_filter_lt_length_iff_exists.mpr ⟨p, hp, by simp⟩
    have ih2 := sub_len r (b.filter fun q => decide (q ≠ p)) h2 fun q hq => List.mem_filter.mpr ⟨h q (List.mem_cons_of_mem _ hq), decide_eq_true fun e => h1 p.2 (by rw [e] at hq; exact hq)⟩
    rw [List.length_cons]
    omega
theorem rep_le {a b : W} {f : Row → Int} (ra : Rep a f) (rb : Rep b f) : a.length ≤ b.length :=
  sub_len a b ra.1 fun p hp => (rb.2 p.1 p.2).mpr ((ra.2 p.1 p.2).mp hp)
theorem rep_len {a b : W} {f : Row → Int} (ra : Rep a f) (rb : Rep b f) : a.length = b.length := Nat.le_antisymm (rep_le ra rb) (rep_le rb ra)
theorem eqT_rep {a b : W} {f g : Row → Int} (ra : Rep a f) (rb : Rep b g) : KB.eqT (iv a) (iv b) = true ↔ ∀ k, f k = g k := by
  unfold KB.eqT
  rw [Bool.and_eq_true, List.all_eq_true, iv_len, iv_len, beq_iff_eq]
  constructor
  · rintro ⟨hl, ha⟩
    have h1 : ∀ k n, (k, n) ∈ a → (k, n) ∈ b := fun k n hn => by
      have z := ha (k, .int n) (List.mem_map.mpr ⟨(k, n), hn, rfl⟩)
      have z2 : valV (iv b) k = some (V.int n) := by simpa using z
      rw [valV_iv] at z2
      obtain ⟨m, hm, e⟩ := Option.map_eq_some_iff.mp z2
      cases e
      exact (look_mem rb.1).mp hm
    have h2 : ∀ k n, (k, n) ∈ b → (k, n) ∈ a := by
      intro k n hn
      apply Classical.byContradiction
      intro na
      have l : (b.filter fun q => decide (q ≠ (k, n))).length < b.length := List.length_filter_lt_length_iff_exists.mpr ⟨_, hn, by simp⟩
      have l2 := sub_len a (b.filter fun q => decide (q ≠ (k, n))) ra.1 fun p hp => List.mem_filter.mpr ⟨h1 p.1 p.2 hp, decide_eq_true fun e => na (by rw [← e]; exact hp)⟩
      omega
    intro k
    by_cases c : f k = 0
    · by_cases d : g k = 0
      · rw [c, d]
      · have z := h2 k (g k) ((rb.2 _ _).mpr ⟨rfl, d⟩)
        exact ((ra.2 _ _).mp z).1
    · have z := h1 k (f k) ((ra.2 _ _).mpr ⟨rfl, c⟩)
      exact (((rb.2 _ _).mp z).1).symm
  · intro h
    have rb2 : Rep b f := rep_congr rb fun k => (h k).symm
    refine ⟨rep_len ra rb2, fun p hp => ?_⟩
    obtain ⟨q, hq, rfl⟩ := List.mem_map.mp hp
    refine decide_eq_true ?_
    rw [valV_iv, (look_mem rb.1).mpr ((rb2.2 q.1 q.2).mpr ((ra.2 q.1 q.2).mp hq))]
    rfl
def sumW (ws : W) (p : Row × Int) : W := putI ws p.1 ((look ws p.1).getD 0 + p.2)
def SRep (ws : W) (f : Row → Int) : Prop := Nd ws ∧ (∀ k n, (k, n) ∈ ws → n = f k) ∧ ∀ k, (∀ n, (k, n) ∉ ws) → f k = 0
theorem srep_getD {ws : W} {f : Row → Int} (r : SRep ws f) (k : Row) : (look ws k).getD 0 = f k := by
  cases e : look ws k with
  | none => exact (r.2.2 k (look_none.mp e)).symm
  | some n => exact r.2.1 k n ((look_mem r.1).mp e)
theorem srep_sum {ws : W} {f : Row → Int} (r : SRep ws f) (p : Row × Int) : SRep (sumW ws p) fun j => if j = p.1 then f j + p.2 else f j := by
  unfold sumW
  rw [srep_getD r]
  refine ⟨nd_put r.1 _ _, fun k n h => ?_, fun k h => ?_⟩
  · rw [mem_put] at h
    show n = if k = p.1 then f k + p.2 else f k
    by_cases c : k = p.1
    · rw [if_pos c] at h ⊢
      rw [h, c]
    · rw [if_neg c] at h ⊢
      exact r.2.1 k n h
  · show (if k = p.1 then f k + p.2 else f k) = 0
    by_cases c : k = p.1
    · exact absurd (mem_put.mpr (by rw [if_pos c])) (h (f p.1 + p.2))
    · rw [if_neg c]
      exact r.2.2 k fun n hn => h n (mem_put.mpr (by rw [if_neg c]; exact hn))
def sumAll (rows : W) : W := rows.foldl sumW []
theorem srep_foldl : ∀ (rows : W) {ws : W} {f : Row → Int}, SRep ws f → SRep (rows.foldl sumW ws) fun j => f j + tot rows j
  | [], ws, f, r => by
    have e : (fun j => f j + tot [] j) = f := funext fun j => by simp [tot]
    rw [e]; exact r
  | p :: rows, ws, f, r => by
    have e : (fun j => f j + tot (p :: rows) j) = fun j => (if j = p.1 then f j + p.2 else f j) + tot rows j := funext fun j => by
      simp only [tot]
      split <;> omega
    rw [e]
    exact srep_foldl rows (srep_sum r p)
theorem srep_all (rows : W) : SRep (sumAll rows) (tot rows) := by
  have h := srep_foldl rows (ws := []) (f := fun _ => 0) (show SRep [] (fun _ => 0) from And.intro nd_nil (And.intro (fun k n h => nomatch h) fun _ _ => rfl))
  have e : (fun j => 0 + tot rows j) = tot rows := funext fun j => by omega
  rw [e] at h
  exact h
def sums (rows : W) : W := (sumAll rows).filter fun p => decide (p.2 ≠ 0)
theorem rep_sums (rows : W) : Rep (sums rows) (tot rows) := by
  have s := srep_all rows
  refine ⟨nd_filter s.1 _, fun k n => ?_⟩
  unfold sums
  rw [List.mem_filter]
  constructor
  · rintro ⟨a, b⟩
    exact ⟨(s.2.1 k n a).symm, by simpa using b⟩
  · rintro ⟨a, b⟩
    refine ⟨?_, by simpa using b⟩
    have h : ¬ ∀ x, (k, x) ∉ sumAll rows := fun z => b (by rw [← a]; exact s.2.2 k z)
    obtain ⟨x, hx⟩ := Classical.not_forall.mp h
    have hx2 := Classical.not_not.mp hx
    rw [← a, ← s.2.1 k x hx2]
    exact hx2
theorem merge_nd : ∀ {more acc : W}, Nd (acc ++ more) → KG.mergeT (iv acc) (iv more) = iv (acc ++ more)
  | [], acc, _ => by rw [List.append_nil]; rfl
  | p :: r, acc, nd => by
    have e : acc ++ p :: r = (acc ++ [p]) ++ r := by simp
    have hn : ∀ n, (p.1, n) ∉ acc := fun n hn => by
      unfold Nd at nd
      rw [List.map_append, List.nodup_append] at nd
      exact nd.2.2 p.1 (List.mem_map.mpr ⟨_, hn, rfl⟩) p.1 (List.mem_map.mpr ⟨p, List.mem_cons_self .., rfl⟩) rfl
    have e2 : putK (iv acc) p.1 (.int p.2) = iv (acc ++ [p]) := by
      rw [putK_iv]
      unfold putI
      rw [any_look, look_none.mpr hn]
      rfl
    show KG.mergeT (putK (iv acc) p.1 (.int p.2)) (iv r) = _
    rw [e2, e]
    exact merge_nd (by rw [← e]; exact nd)
theorem merge_nil {ws : W} (nd : Nd ws) : KG.mergeT [] (iv ws) = iv ws := merge_nd (acc := []) nd
theorem rep_perm {a b : W} {f : Row → Int} (ra : Rep a f) (p : b.Perm a) : Rep b f :=
  ⟨(List.Perm.nodup_iff (p.map fun q : Row × Int => q.1)).mpr ra.1, fun k n => p.mem_iff.trans (ra.2 k n)⟩
end KM
set_option Elab.async false
set_option linter.all false
set_option maxRecDepth 100000
namespace KM
open PySem PySem.Spec PyProof.Rows L2 KB KC
def lessK : Key → Key → Bool
  | .inl a, .inl b => decide (a < b)
  | .inl _, .inr _ => true
  | .inr _, .inl _ => false
  | .inr s, .inr t => decide (s.cps.toList < t.cps.toList)
def bef : Row → Row → Bool
  | [], [] => false
  | [], _ :: _ => true
  | _ :: _, [] => false
  | x :: xs, y :: ys => if x = y then bef xs ys else lessK x y
theorem str_ext {s t : Str} (h : s.cps.toList = t.cps.toList) : s = t := by
  cases s; cases t
  congr
  exact Array.toList_inj.mp h
theorem lessK_irrefl (x : Key) : lessK x x = false := by
  cases x with
  | inl a => exact decide_eq_false (Int.lt_irrefl a)
  | inr s => exact decide_eq_false (List.lt_irrefl _)
theorem lessK_trans {x y z : Key} (a : lessK x y = true) (b : lessK y z = true) : lessK x z = true := by
  cases x <;> cases y <;> cases z <;> simp only [lessK, decide_eq_true_eq] at a b ⊢ <;> first | (exact List.lt_trans a b) | (cases a; done) | (cases b; done) | omega
theorem lessK_tri {x y : Key} (h : x ≠ y) (a : lessK x y = false) : lessK y x = true := by
  cases x with
  | inl i =>
    cases y with
    | inl j =>
      simp only [lessK, decide_eq_false_iff_not, decide_eq_true_eq] at a ⊢
      have e : i ≠ j := fun e => h (by rw [e])
      omega
    | inr t => exact absurd a (by simp [lessK])
  | inr s =>
    cases y with
    | inl j => rfl
    | inr t =>
      simp only [lessK, decide_eq_false_iff_not, decide_eq_true_eq] at a ⊢
      have e : s.cps.toList ≠ t.cps.toList := fun e => h (by rw [str_ext e])
      apply Classical.byContradiction
      intro q
      exact e (List.le_antisymm (List.not_lt.mp q) (List.not_lt.mp a))
theorem bef_irrefl : ∀ x : Row, bef x x = false
  | [] => rfl
  | x :: r => by
    show (if x = x then bef r r else lessK x x) = false
    rw [if_pos rfl]
    exact bef_irrefl r
theorem bef_tri : ∀ {x y : Row}, x ≠ y → bef x y = false → bef y x = true
  | [], [], h, _ => absurd rfl h
  | [], _ :: _, _, a => absurd a (by simp [bef])
  | _ :: _, [], _, _ => rfl
  | x :: xs, y :: ys, h, a => by
    simp only [bef] at a ⊢
    by_cases e : x = y
    · subst e
      rw [if_pos rfl] at a ⊢
      exact bef_tri (fun z => h (by rw [z])) a
    · rw [if_neg e] at a
      rw [if_neg (fun z => e z.symm)]
      exact lessK_tri e a
theorem bef_trans : ∀ {x y z : Row}, bef x y = true → bef y z = true → bef x z = true
  | [], _, [], a, b => by
    rename_i y
    cases y with
    | nil => exact b
    | cons _ _ => exact absurd b (by simp [bef])
  | [], _, _ :: _, _, _ => rfl
  | _ :: _, [], _, a, _ => absurd a (by simp [bef])
  | _ :: _, _ :: _, [], _, b => absurd b (by simp [bef])
  | x :: xs, y :: ys, z :: zs, a, b => by
    simp only [bef] at a b ⊢
    by_cases e : x = y
    · subst e
      rw [if_pos rfl] at a
      by_cases e2 : x = z
      · subst e2
        rw [if_pos rfl] at b ⊢
        exact bef_trans a b
      · rw [if_neg e2] at b ⊢
        exact b
    · rw [if_neg e] at a
      by_cases e2 : y = z
      · subst e2
        rw [if_neg e]
        exact a
      · rw [if_neg e2] at b
        have t := lessK_trans a b
        by_cases e3 : x = z
        · subst e3
          rw [lessK_irrefl] at t
          cases t
        · rw [if_neg e3]
          exact t
def rho (l : List Row) (x : Row) : Int := (l.filter fun z => bef z x).length
theorem filter_len_lt {α : Type} {p q : α → Bool} : ∀ {l : List α}, (∀ x ∈ l, p x = true → q x = true) → (∃ x ∈ l, q x = true ∧ p x = false) → (l.filter p).length < (l.filter q).length
  | [], _, ⟨x, hx, _⟩ => nomatch hx
  | a :: l, h, ⟨x, hx, hq, hp⟩ => by
    have le : ∀ l : List α, (∀ x ∈ l, p x = true → q x = true) → (l.filter p).length ≤ (l.filter q).length := by
      intro l
      induction l with
      | nil => intro _; exact Nat.le_refl _
      | cons b t ih =>
        intro h
        have ih2 := ih fun x hx => h x (List.mem_cons_of_mem _ hx)
        have hb := h b (List.mem_cons_self ..)
        rw [List.filter_cons, List.filter_cons]
        cases e : p b with
        | true => rw [hb e]; simp only [if_true, List.length_cons]; omega
        | false =>
          simp only [Bool.false_eq_true, if_false]
          split
          · rw [List.length_cons]; omega
          · exact ih2
    have ht : ∀ x ∈ l, p x = true → q x = true := fun x hx => h x (List.mem_cons_of_mem _ hx)
    rcases List.mem_cons.mp hx with e | hx
    · subst e
      rw [List.filter_cons, List.filter_cons, hq, hp]
      simp only [Bool.false_eq_true, if_false, if_true, List.length_cons]
      have := le l ht
      omega
    · have ih := filter_len_lt ht ⟨x, hx, hq, hp⟩
      have ha := h a (List.mem_cons_self ..)
      rw [List.filter_cons, List.filter_cons]
      cases e : p a with
      | true => rw [ha e]; simp only [if_true, List.length_cons]; omega
      | false =>
        simp only [Bool.false_eq_true, if_false]
        split
        · rw [List.length_cons]; omega
        · exact ih
theorem rho_lt {l : List Row} {x y : Row} (hx : x ∈ l) (h : bef x y = true) : rho l x < rho l y := by
  unfold rho
  have := filter_len_lt (l := l) (p := fun z => bef z x) (q := fun z => bef z y) (fun z _ hz => bef_trans hz h) ⟨x, hx, h, bef_irrefl x⟩
  omega
theorem rho_iff {l : List Row} {x y : Row} (hx : x ∈ l) (hy : y ∈ l) : bef x y = decide (rho l x < rho l y) := by
  cases e : bef x y with
  | true => exact (decide_eq_true (rho_lt hx e)).symm
  | false =>
    refine (decide_eq_false ?_).symm
    by_cases c : x = y
    · subst c; omega
    · have := rho_lt hy (bef_tri c e)
      omega
def dK : Key → PyData
  | .inl a => .int a
  | .inr s => .str s
def rkK : Key → PyData
  | .inl a => .tuple [.int 0, .int a]
  | .inr s => .tuple [.int 1, .str s]
def rk (k : Row) : List PyData := k.map rkK
theorem eqv_int (a b : Int) : PyData.eqv (.int a) (.int b) = decide (a = b) := by
  rw [Bool.eq_iff_iff]; simp [PyData.eqv]
theorem eqv_str (a b : Str) : PyData.eqv (.str a) (.str b) = decide (a = b) := by
  rw [Bool.eq_iff_iff]; simp [PyData.eqv]
theorem eqv_rkK (x y : Key) : PyData.eqv (rkK x) (rkK y) = decide (x = y) := by
  cases x <;> cases y <;> (rw [Bool.eq_iff_iff]; simp [rkK, PyData.eqv, PyData.eqvAll])
theorem ltD_rkK {x y : Key} (h : x ≠ y) : ltD (rkK x) (rkK y) = lessK x y := by
  cases x <;> cases y <;> simp [rkK, ltD, ltL, lessK, eqv_int, eqv_str]
  all_goals (intro _ e; exact h (by rw [e]))
theorem ltL_rk : ∀ x y : Row, ltL (rk x) (rk y) = bef x y
  | [], [] => rfl
  | [], _ :: _ => rfl
  | _ :: _, [] => rfl
  | x :: xs, y :: ys => by
    show (if PyData.eqv (rkK x) (rkK y) = true then ltL (rk xs) (rk ys) else ltD (rkK x) (rkK y)) = if x = y then bef xs ys else lessK x y
    rw [eqv_rkK]
    by_cases e : x = y
    · rw [if_pos (decide_eq_true e), if_pos e]
      exact ltL_rk xs ys
    · rw [if_neg (by simp [e]), if_neg e]
      exact ltD_rkK e
theorem okD_rkK (x y : Key) : okD (rkK x) (rkK y) = true := by
  cases x <;> cases y <;> simp [rkK, okD, okL, eqv_int, eqv_str]
theorem okL_rk : ∀ x y : Row, okL (rk x) (rk y) = true
  | [], _ => by unfold rk; simp [okL]
  | _ :: _, [] => by unfold rk; simp [okL]
  | x :: xs, y :: ys => by
    show (if PyData.eqv (rkK x) (rkK y) = true then okL (rk xs) (rk ys) else okD (rkK x) (rkK y)) = true
    split
    · exact okL_rk xs ys
    · exact okD_rkK x y
theorem pure_rk : ∀ x : Row, KS.pureL (rk x) = true
  | [] => rfl
  | k :: r => by
    show (KS.pureD (rkK k) && KS.pureL (rk r)) = true
    rw [pure_rk r]
    cases k <;> rfl
end KM
set_option Elab.async false
set_option linter.all false
set_option maxRecDepth 100000
set_option maxHeartbeats 4000000
namespace KM
open PySem PySem.Spec PyProof.Rows L2 KB KC
def top (i : Nat) : Stmt := PySem.Challenge.pw_streamstack_k02_rows_with_weights.main.body.getD i (.Pass ⟨0, 0, 0, 0⟩)
abbrev sBag : Stmt := top 4
abbrev sVRank : Stmt := top 5
abbrev sRRank : Stmt := top 6
abbrev sSame : Stmt := top 7
abbrev sDice : Stmt := top 9
abbrev sRoll : Stmt := top 10
abbrev sRounds : Stmt := top 11
abbrev sTold : Stmt := top 12
abbrev sDrawn : Stmt := top 13
abbrev sSums : Stmt := top 14
abbrev sBefore : Stmt := top 15
abbrev sLaw : Stmt := top 16
abbrev FnP (K : PySem.W.Frag) (x q : Str) (st : Stmt) (dvs : List V) (f : Addr) (fd : FuncData) : Prop := FunD K x q (defArgs st) (defBody st) (defScope st) dvs [] f fd
def rIxD : R2 := fun x y H Q => ∃ p xs i v, x = .ref p ∧ y = .int i ∧ H p = some (.lst xs) ∧ atI xs i = some v ∧ Q v H
theorem ix_listD {X : Cx} : IxR X rIxD := by
  intro value slice pins s σ H x y v u Q I rx ry h hs
  obtain ⟨p, xs, i, z, e1, e2, hq, he, q⟩ := h
  exact ix_list value slice pins s σ H x y v u Q I rx ry ⟨p, xs, i, z, e1, e2, SqL.of hq, he, q⟩ hs
theorem sc_int {a b : Int} : scal (.int a) (.int b) = true := rfl
theorem at3_0 {a b c : V} : atI [a, b, c] 0 = some a := rfl
theorem at3_1 {a b c : V} : atI [a, b, c] 1 = some b := rfl
theorem at3_2 {a b c : V} : atI [a, b, c] 2 = some c := rfl
theorem at2_0 {a b : V} : atI [a, b] 0 = some a := rfl
theorem at2_1 {a b : V} : atI [a, b] 1 = some b := rfl
theorem ix3_0 : ixN (0 + 1 + 1 + 1) 0 = some 0 := rfl
theorem ix3_1 : ixN (0 + 1 + 1 + 1) 1 = some 1 := rfl
theorem ix3_2 : ixN (0 + 1 + 1 + 1) 2 = some 2 := rfl
theorem upd2 {H : Hp} {a : Addr} {o o' : HO} : upd (upd H a o) a o' = upd H a o' := by
  funext b
  by_cases e : b = a
  · subst e; rw [upd_same, upd_same]
  · rw [upd_ne e, upd_ne e, upd_ne e]
structure TxtL (mg : Str → Option Value) : Prop where
  abs : mg "abs" = none
  int : mg "int" = none
  range : mg "range" = none
  dict : mg "dict" = none
  list : mg "list" = none
  tuple : mg "tuple" = none
  len : mg "len" = none
  zip : mg "zip" = none
  isi : mg "isinstance" = none
  str : mg "str" = none
  sorted : mg "sorted" = none
  all : mg "all" = none
def IsDice (H : Hp) (d : Addr) : Prop := ∃ a b k : Int, H d = some (.lst [.int a, .int b, .int k])
def ExD (d : Addr) (H H' : Hp) : Prop := ∀ b o, b ≠ d → H b = some o → H' b = some o
def spDice : Sp := fun vs H Q _ => ∃ c : Int, vs = [.int c] ∧ ∀ p a b k, H p = none → Q (.ref p) (upd H p (.lst [.int a, .int b, .int k]))
@[irreducible] def spRoll : Sp := fun vs H Q _ => ∃ (d : Addr) (m : Int), vs = [.ref d, .int m] ∧ IsDice H d ∧ 0 < m ∧ m ≤ 100000000 ∧
  ∀ (r : Int) a b k, 0 ≤ r → r < m → Q (.int r) (upd H d (.lst [.int a, .int b, .int k]))
section
variable {P : Program} {w : World} {K : PySem.W.Frag} {mg : Str → Option Value} {base : Heap} {f : Addr} {fd : FuncData}
theorem scDice : FnScope ["cell"] ["cell"] (defScope sDice) := ⟨rfl, rfl, rfl, by decide +kernel, rfl, by decide +kernel, by decide +kernel⟩
theorem ok_dice (F : FnP K "_law_dice" "_law_dice" sDice [] f fd) (T : TxtL mg) : FnOk P w K mg base CX0 1 f fd ["cell"] spDice := by
  refine F.ok scDice (fun vs H Q E h => ?_) (fun cdv A outer s H vs Q E hr h => ?_)
  · obtain ⟨c, rfl, _⟩ := h; rfl
  · obtain ⟨c, rfl, k⟩ := h
    refine ⟨_, PSs.nox <| pss_cons (ps_if (pt_chain op_lt op_lt (pe_op op_sub pe_int pe_int) (pv 0) pe_int)
        (pss_one (ps_ret (pe_lst (pa_cons (pe_callB call_abs (by rfl) T.abs (by decide +kernel) (pa_cons (pv 0) pa_nil)) (pa_cons pe_int (pa_cons pe_int pa_nil)))))) pss_nil)
      (pss_one (ps_ret (pe_lst (pa_cons (pv 0) (pa_cons (pe_op op_add pe_int (pe_op op_mod (pe_callTy call_int1 (by rfl) T.int (by decide +kernel) (pa_cons (pv 0) pa_nil)) pe_int))
        (pa_cons (pe_callTy call_int1 (by rfl) T.int (by decide +kernel) (pa_cons (pe_cmpR op_ge (pv 0) (pe_op op_pow pe_int pe_int) (nomark _)) pa_nil)) pa_nil)))))), ?_⟩
    simp only [tSeq, tIfS, tIf, tTest, tChain, tOp, tC, tVar, tRet, tLst, tTup, tCons, tCB, tNil, tAsg, gName, tCall, tDrop, tOr, tAnd, tNot, gSub, rI0, rI, tNext, L2.start, List.set_cons_zero, List.set_cons_succ, List.map, List.replicate, List.length, List.append_nil, List.getElem?_cons_zero, List.getElem?_cons_succ, List.cons_append, List.nil_append, Option.some.injEq, exists_eq_left', exists_eq_left, exists_and_left, V.int.injEq, V.ref.injEq, List.cons.injEq, and_true, true_and, V.bl.injEq, reduceCtorEq, false_and, and_false, exists_false, or_false, false_or, HO.lst.injEq]
    have hs : 0 + 1 + 1 + 1 ≤ sizeLine := by decide
    have hp : CPow 10 18 := by unfold CPow; decide
    have h9 : (0 : Int) < 1009 := by decide
    split
    · split
      · exact ⟨hs, fun p e => k p _ _ _ e⟩
      · exact ⟨h9, hp, hs, fun p e => k p _ _ _ e⟩
    · rw [if_neg (fun z => z)]
      exact ⟨h9, hp, hs, fun p e => k p _ _ _ e⟩
theorem scRoll : FnScope ["dice", "many", "found"] ["dice", "many"] (defScope sRoll) := ⟨rfl, rfl, rfl, by decide +kernel, rfl, by decide +kernel, by decide +kernel⟩
theorem ok_roll (F : FnP K "_law_roll" "_law_roll" sRoll [] f fd) (T : TxtL mg) : FnOk P w K mg base CX0 1 f fd ["dice", "many"] spRoll := by
  refine F.ok scRoll (fun vs H Q E h => ?_) (fun cdv A outer s H vs Q E hr h => ?_)
  · unfold spRoll at h
    obtain ⟨d, m, rfl, _⟩ := h; rfl
  · unfold spRoll at h
    obtain ⟨d, m, rfl, ⟨a, b, k, hd⟩, h0, h1, q⟩ := h
    refine ⟨_, PSs.nox <| pss_cons (ps_if (PW.pt (pw_or (pt_cmpR op_eq (pe_ix ix_listD (pv 0) pe_int (fun _ _ => rfl)) pe_int (nomark _)) (pw_or1 (PW.pt (pw_and (pt_cmpR op_eq (pe_ix ix_listD (pv 0) pe_int (fun _ _ => rfl)) pe_int (nomark _)) (pw_and1 (pt_cmpR op_gt (pe_ix ix_listD (pv 0) pe_int (fun _ _ => rfl)) pe_int (nomark _))))))))
        (pss_cons (ps_set (i := 2) scRoll.nd rfl (Or.inl rfl) (pe_op op_mod (pe_callTy call_int1 (by rfl) T.int (by decide +kernel) (pa_cons (pe_ix ix_listD (pv 0) pe_int (fun _ _ => rfl)) pa_nil)) (pv 1)))
          (pss_cons (ps_asg (pe_op op_fdiv (pe_ix ix_listD (pv 0) pe_int (fun _ _ => rfl)) (pv 1)) (pg_sub (pv 0) pe_int set_list)) (pss_one (ps_ret (pv 2))))) pss_nil)
      (pss_cons (ps_asg pe_int (pg_sub (pv 0) pe_int set_list))
      (pss_cons (ps_if (pt_cmpR op_gt (pv 1) pe_int (nomark _)) pss_never pss_nil)
      (pss_cons (ps_asg (pe_op op_mod (pe_callTy call_int1 (by rfl) T.int (by decide +kernel) (pa_cons (pe_op op_add (pe_op op_add (pe_op op_mul (pe_ix ix_listD (pv 0) pe_int (fun _ _ => rfl)) pe_int) (pe_op op_mul (pe_ix ix_listD (pv 0) pe_int (fun _ _ => rfl)) pe_int)) pe_int) pa_nil)) pe_int) (pg_sub (pv 0) pe_int set_list))
      (pss_cons (ps_asg (pe_op op_add (pe_ix ix_listD (pv 0) pe_int (fun _ _ => rfl)) pe_int) (pg_sub (pv 0) pe_int set_list))
      (pss_one (ps_ret (pe_op op_mod (pe_callTy call_int1 (by rfl) T.int (by decide +kernel) (pa_cons (pe_op op_fdiv (pe_ix ix_listD (pv 0) pe_int (fun _ _ => rfl)) pe_int) pa_nil)) (pv 1)))))))), ?_⟩
    have hm : decide ((100000000 : Int) < m) = false := decide_eq_false (by omega)
    simp only [tSeq, tIfS, tIf, tTest, tChain, tOp, tC, tVar, tRet, tLst, tTup, tCons, tCB, tNil, tAsg, gName, tCall, tDrop, tOr, tAnd, tNot, gSub, rI0, rI, tNext, L2.start, List.set_cons_zero, List.set_cons_succ, List.map, List.replicate, List.length, List.append_nil, List.getElem?_cons_zero, List.getElem?_cons_succ, List.cons_append, List.nil_append, Option.some.injEq, exists_eq_left', exists_eq_left, exists_and_left, V.int.injEq, V.ref.injEq, List.cons.injEq, and_true, true_and, V.bl.injEq, reduceCtorEq, false_and, and_false, exists_false, or_false, false_or, HO.lst.injEq, rIxD, rSetL, rEq, sc_int, hd, upd_same, upd2, at3_0, at3_1, at3_2, ix3_0, ix3_1, ix3_2, hm, if_true, if_false, Bool.false_eq_true]
    have g0 : (0 : Int) < 2147483647 := by decide
    have gm : ∀ x : Int, CMul x 48271 := fun x => .inr ⟨by decide, by decide⟩
    have gn : ∀ x : Int, CMul x 69621 := fun x => .inr ⟨by decide, by decide⟩
    have gd : ∀ x : Int, CDiv x 7 := fun x => ⟨by decide, by decide⟩
    have gq : ∀ x : Int, CDiv x m := fun x => ⟨h0, by omega⟩
    have lo : ∀ x : Int, 0 ≤ x % m := fun x => Int.emod_nonneg _ (by omega)
    have hi : ∀ x : Int, x % m < m := fun x => Int.emod_lt_of_pos _ h0
    split
    · exact ⟨h0, gq _, q _ _ _ _ (lo _) (hi _)⟩
    · split
      · split
        · exact ⟨h0, gq _, q _ _ _ _ (lo _) (hi _)⟩
        · exact ⟨gm _, gn _, g0, gd _, h0, q _ _ _ _ (lo _) (hi _)⟩
      · exact ⟨gm _, gn _, g0, gd _, h0, q _ _ _ _ (lo _) (hi _)⟩
end
end KM
set_option Elab.async false
set_option linter.all false
set_option maxRecDepth 100000
set_option maxHeartbeats 4000000
namespace KM
open PySem PySem.Spec PyProof.Rows L2 KB KC KS
@[irreducible] def spRounds (K : PySem.W.Frag) : Sp := fun vs H Q _ => ∃ (s : Addr) (ns : List Int), vs = [.ref s, .int 1] ∧ SqL K H s (ns.map V.int) ∧ ∀ H' p d, Ex H H' → H' p = some (.lst [.ref d]) → IsDice H' d → Q (.ref p) H'
theorem IsDice.upd_ne {H : Hp} {d a : Addr} {o : HO} (h : IsDice H d) (n : H a = none) : IsDice (upd H a o) d := by
  obtain ⟨x, y, z, e⟩ := h
  exact ⟨x, y, z, by rw [L2.upd_ne (ne_of_none e n)]; exact e⟩
theorem Ex.on {H H1 : Hp} {a : Addr} {o : HO} (e : Ex H H1) (n : H a = none) : Ex H (upd H1 a o) := fun b u h => by rw [L2.upd_ne (ne_of_none h n)]; exact e b u h
section
variable {P : Program} {w : World} {K : PySem.W.Frag} {mg : Str → Option Value} {base : Heap} {f fD : Addr} {fd fdD : FuncData}
theorem scRounds : FnScope ["script", "most", "cells", "cell"] ["script", "most"] (defScope sRounds) := ⟨rfl, rfl, rfl, by decide +kernel, rfl, by decide +kernel, by decide +kernel⟩
theorem ok_rounds (F : FnP K "_law_rounds" "_law_rounds" sRounds [] f fd) (T : TxtL mg) (FD : FnP K "_law_dice" "_law_dice" sDice [] fD fdD) (gD : mg "_law_dice" = some (.ref fD)) :
    FnOk P w K mg base CX0 2 f fd ["script", "most"] (spRounds K) := by
  have GD : FnOk P w K mg base CX0 1 fD fdD ["cell"] spDice := ok_dice FD T
  have bD : Binds K fdD ["cell"] [] := FD.bindsN fun _ _ _ _ _ _ us hl => match us, hl with | [_], _ => rfl
  refine F.ok scRounds (fun vs H Q E h => ?_) (fun cdv A outer s H vs Q E hr h => ?_)
  · unfold spRounds at h
    obtain ⟨c, d, rfl, _⟩ := h; rfl
  · unfold spRounds at h
    obtain ⟨a, ns, rfl, hS, q⟩ := h
    refine ⟨_, PSs.nox <| pss_cons (ps_set (i := 2) scRounds.nd rfl (Or.inl rfl) (pe_slice sl_list (pv 0) po_none (po_some (pv 1))))
      (pss_cons (ps_if (pt_cmpR (op_eqD hr.units) (pv 2) (pe_lst pa_nil) (nomark _)) (pss_one (ps_set (i := 2) scRounds.nd rfl (Or.inl rfl) (pe_lst (pa_cons pe_int pa_nil)))) pss_nil)
      (pss_one (ps_ret (pe_lc (own := [("cell", 3)]) (g := gName 3) (tt := tYes) rfl scRounds.nd (pi_list (pv 2)) (blkOk_by (N := ["script", "most", "cells", "cell"]) (sc := defScope sRounds) (by decide +kernel))
        (fun _ _ _ _ _ => pg_name (i := 3) scRounds.nd rfl (Or.inl rfl)) (fun _ _ _ _ _ => pts_nil)
        (fun _ _ _ _ _ => pe_call GD hr rfl gD FD.kp bD .nil pass0 (pa_cons (pv 3) pa_nil)))))), ?_⟩
    have fin : ∀ (c : Addr) (n : Int) (H1 : Hp), Ex H H1 → H1 c = some (.lst [.int n]) →
        (tRet (tLc (iList K (tVar 2)) (gName 3) tYes (tCall spDice [] E0 (tCons (tVar 3) tNil)) [3])) { nx := fun _ H' => Q .non H', rt := Q } [some (.ref a), some (.int 1), some (.ref c), none] H1 := by
      intro c n H1 e1 hc
      refine ⟨_, rfl, c, rfl, ⟨_, SqL.of hc⟩, fun D hD => lc_list (xs := [V.int n])
        (fun i H2 => Ex H1 H2 ∧ ((i = 0 ∧ H2 D = some (.lst [])) ∨ (i = 1 ∧ ∃ d, H2 D = some (.lst [.ref d]) ∧ IsDice H2 d))) ?_ ?_ ?_ ?_⟩
      · exact ⟨Ex.upd hD, .inl ⟨rfl, upd_same⟩⟩
      · rintro i H2 _ ⟨e2, _⟩
        exact SqL.of (e2 c _ hc)
      · rintro i x H2 hx ⟨e2, h2⟩
        rcases h2 with ⟨rfl, h2⟩ | ⟨rfl, _⟩
        · cases hx
          refine ⟨rfl, ?_⟩
          refine ⟨_, rfl, n, rfl, fun p x y z hp => ⟨[], ?_, (by decide), ?_⟩⟩
          · rw [L2.upd_ne (ne_of_none h2 hp)]; exact h2
          · refine ⟨Ex.on (e2.trans (Ex.upd hp)) hD, .inr ⟨rfl, p, upd_same, x, y, z, ?_⟩⟩
            rw [L2.upd_ne (fun e => by rw [e, h2] at hp; cases hp), upd_same]
        · cases hx
      · rintro H2 ⟨e2, h2⟩
        rcases h2 with ⟨h, _⟩ | ⟨_, d, h2, h3⟩
        · cases h
        · exact q H2 D d (e1.trans e2) h2 h3
    refine ⟨_, rfl, _, rfl, 1, rfl, a, _, rfl, hS, fun p hp => ?_⟩
    cases ns with
    | nil =>
      refine ⟨_, rfl, (by decide), fun p2 hp2 => ⟨.list [], .list [], .lst (.inl (.inl ?_)) .nil, .lst (.inl (.inl upd_same)) .nil, rfl, rfl, true, rfl, ?_⟩⟩
      · rw [L2.upd_ne (ne_of_none upd_same hp2)]; exact upd_same
      · refine ⟨(by decide), fun p3 hp3 => fin p3 0 _ ?_ upd_same⟩
        exact ((Ex.upd hp).trans (Ex.upd hp2)).trans (Ex.upd hp3)
    | cons n r =>
      have e : cutV ((n :: r).map V.int) none (some 1) = [V.int n] := by
        unfold cutV HT.sIx
        simp
      rw [e] at *
      refine ⟨_, rfl, (by decide), fun p2 hp2 => ⟨.list [.int n], .list [], .lst (.inl (.inl ?_)) (.cons (.int _) .nil), .lst (.inl (.inl upd_same)) .nil, rfl, rfl, false, rfl, ?_⟩⟩
      · rw [L2.upd_ne (ne_of_none upd_same hp2)]; exact upd_same
      · refine fin p n _ ((Ex.upd hp).trans (Ex.upd hp2)) ?_
        rw [L2.upd_ne (ne_of_none upd_same hp2)]; exact upd_same
end
end KM
set_option Elab.async false
set_option linter.all false
set_option maxRecDepth 100000
set_option maxHeartbeats 4000000
namespace KM
open PySem PySem.Spec PyProof.Rows L2 KB KC KS
def okK : Key → Bool
  | .inl _ => true
  | .inr s => PyData.strOk s
def GoodR (k : Row) : Prop := k.length = 2 ∧ k.all okK = true
def Drawn (rows : W) : Prop := rows.length ≤ 8 ∧ ∀ p ∈ rows, GoodR p.1 ∧ -3 ≤ p.2 ∧ p.2 ≤ 3
@[irreducible] def spDrawn : Sp := fun vs H Q _ => ∃ d, vs = [.ref d] ∧ IsDice H d ∧ ∀ H' p ts rows, ExD d H H' → IsDice H' d → H' p = some (.lst (ts.map V.ref)) → PairsOf H' ts (iv rows) → Drawn rows → Q (.ref p) H'
theorem PairsOf.ex {H H' : Hp} : ∀ {ts : List Addr} {kvs : List (List Key × V)}, PairsOf H ts kvs → (∀ b xs, H b = some (.tup xs) → H' b = some (.tup xs)) → PairsOf H' ts kvs
  | _, _, Paired.nil, _ => Paired.nil
  | _, _, Paired.cons ⟨q, h1, h2⟩ t, e => Paired.cons ⟨q, e _ _ h1, e _ _ h2⟩ (PairsOf.ex t e)
theorem paired_snoc {α β : Type} {R : α → β → Prop} : ∀ {l : List α} {m : List β} {a : α} {b : β}, Paired R l m → R a b → Paired R (l ++ [a]) (m ++ [b])
  | _, _, _, _, Paired.nil, r => Paired.cons r Paired.nil
  | _, _, _, _, Paired.cons h t, r => Paired.cons h (paired_snoc t r)
theorem ExD.trans {d : Addr} {H H1 H2 : Hp} (a : ExD d H H1) (b : ExD d H1 H2) : ExD d H H2 := fun c o n h => b c o n (a c o n h)
theorem ExD.on {d : Addr} {H H1 : Hp} {a : Addr} {o : HO} (e : ExD d H H1) (n : H a = none) : ExD d H (upd H1 a o) := fun b u c h => by rw [L2.upd_ne (ne_of_none h n)]; exact e b u c h
theorem ExD.back {d : Addr} {H H1 : Hp} {a : Addr} (e : ExD d H H1) (i : IsDice H1 d) (n : H1 a = none) : H a = none := by
  obtain ⟨x, y, z, hd⟩ := i
  cases h : H a with
  | none => rfl
  | some u =>
    by_cases c : a = d
    · rw [c, hd] at n; cases n
    · rw [e a u c h] at n; cases n
theorem ExD.of {d : Addr} {H H1 : Hp} (e : Ex H H1) : ExD d H H1 := fun b o _ h => e b o h
theorem roll_step {H : Hp} {d : Addr} {m : Int} {Q : VK} {E : XK} (i : IsDice H d) (h0 : 0 < m) (h1 : m ≤ 100000000) (q : ∀ r H', 0 ≤ r → r < m → ExD d H H' → IsDice H' d → Q (.int r) H') : spRoll [.ref d, .int m] H Q E := by
  unfold spRoll
  exact ⟨d, m, rfl, i, h0, h1, fun r a b k l u => q r _ l u (fun c o n e => by rw [L2.upd_ne n]; exact e) ⟨a, b, k, upd_same⟩⟩
section
variable {P : Program} {w : World} {K : PySem.W.Frag} {mg : Str → Option Value} {base : Heap} {f fR : Addr} {fd fdR : FuncData}
theorem scDrawn : FnScope ["dice", "k"] ["dice"] (defScope sDrawn) := ⟨rfl, rfl, rfl, by decide +kernel, rfl, by decide +kernel, by decide +kernel⟩
theorem ok_drawn (F : FnP K "_law_drawn" "_law_drawn" sDrawn [] f fd) (T : TxtL mg) (FR : FnP K "_law_roll" "_law_roll" sRoll [] fR fdR) (gR : mg "_law_roll" = some (.ref fR)) :
    FnOk P w K mg base CX0 2 f fd ["dice"] spDrawn := by
  have GR : FnOk P w K mg base CX0 1 fR fdR ["dice", "many"] spRoll := ok_roll FR T
  have bR : Binds K fdR ["dice", "many"] [] := FR.bindsN fun _ _ _ _ _ _ us hl => match us, hl with | [_, _], _ => rfl
  refine F.ok scDrawn (fun vs H Q E h => ?_) (fun cdv A outer s H vs Q E hr h => ?_)
  · unfold spDrawn at h
    obtain ⟨c, rfl, _⟩ := h; rfl
  · unfold spDrawn at h
    obtain ⟨d, rfl, ⟨a, b, c, hd⟩, q⟩ := h
    refine ⟨_, PSs.nox <| pss_one (ps_ret (pe_lc (own := [("k", 1)]) (g := gName 1) (tt := tYes) rfl scDrawn.nd (pi_range1 (by rfl) T.range (pa_cons (pe_call GR hr (by rfl) gR FR.kp bR .nil pass0 (pa_cons (pv 0) (pa_cons pe_int pa_nil))) pa_nil)) (blkOk_by (N := ["dice", "k"]) (sc := defScope sDrawn) (by decide +kernel))
        (fun _ _ _ _ _ => pg_name (i := 1) scDrawn.nd rfl (Or.inl rfl)) (fun _ _ _ _ _ => pts_nil)
        (fun _ _ _ _ _ => pe_tup (pa_cons (pe_ifExp (pt_cmpR op_eq (pe_call GR hr (by rfl) gR FR.kp bR .nil pass0 (pa_cons (pv 0) (pa_cons pe_int pa_nil))) pe_int (nomark _))
            (pe_tup (pa_cons (pe_call GR hr (by rfl) gR FR.kp bR .nil pass0 (pa_cons (pv 0) (pa_cons pe_int pa_nil))) (pa_cons (pe_ix ix_listD (pe_lst (pa_cons pe_str (pa_cons pe_str pa_nil))) (pe_call GR hr (by rfl) gR FR.kp bR .nil pass0 (pa_cons (pv 0) (pa_cons pe_int pa_nil))) (fun _ _ => rfl)) pa_nil)))
            (pe_tup (pa_cons pe_str (pa_cons (pe_call GR hr (by rfl) gR FR.kp bR .nil pass0 (pa_cons (pv 0) (pa_cons pe_int pa_nil))) pa_nil))))
          (pa_cons (pe_op op_sub (pe_call GR hr (by rfl) gR FR.kp bR .nil pass0 (pa_cons (pv 0) (pa_cons pe_int pa_nil))) pe_int) pa_nil))))), ?_⟩
    refine ⟨_, rfl, roll_step ⟨a, b, c, hd⟩ (by decide) (by decide) fun n H1 n0 n9 e1 i1 => ⟨n, rfl, by omega, by omega, fun D hD => ?_⟩⟩
    have hD0 : H D = none := e1.back i1 hD
    refine lc_range (fun i H2 => ExD d H1 H2 ∧ IsDice H2 d ∧ ∃ ts rows, H2 D = some (.lst (ts.map V.ref)) ∧ PairsOf H2 ts (iv rows) ∧ rows.length = i ∧ ∀ p ∈ rows, GoodR p.1 ∧ -3 ≤ p.2 ∧ p.2 ≤ 3) ?_ ?_ ?_
    · exact ⟨ExD.of (Ex.upd hD), i1.upd_ne hD, [], [], upd_same, Paired.nil, rfl, fun p hp => nomatch hp⟩
    · rintro i H2 hi ⟨e2, i2, ts, rows, hl, hp, hn, hr'⟩
      refine ⟨rfl, ?_⟩
      have nD : D ≠ d := fun e => by
        obtain ⟨x, y, z, hd⟩ := i1
        rw [e, hd] at hD; cases hD
      have fin : ∀ (H4 : Hp) (t1 : Addr) (k : Row), GoodR k → ExD d H2 H4 → IsDice H4 d → H4 t1 = some (.tup (k.map kV)) →
          tCons (tOp (rI0 fun i j => V.int (i - j)) (tCall spRoll [] E0 (tCons (tVar 0) (tCons (tC (V.int 7)) tNil))) (tC (V.int 3))) tNil [some (.ref d), some (.int (0 + i))] H4
            fun xs H5 => (V.ref t1 :: xs).length ≤ sizeLine ∧ ∀ p, H5 p = none → ∃ acc, (upd H5 p (.tup (V.ref t1 :: xs))) D = some (.lst acc) ∧ acc.length < sizeLine ∧
              (fun i H2 => ExD d H1 H2 ∧ IsDice H2 d ∧ ∃ ts rows, H2 D = some (.lst (ts.map V.ref)) ∧ PairsOf H2 ts (iv rows) ∧ rows.length = i ∧ ∀ p ∈ rows, GoodR p.1 ∧ -3 ≤ p.2 ∧ p.2 ≤ 3) (i + 1) (upd (upd H5 p (.tup (V.ref t1 :: xs))) D (.lst (acc ++ [V.ref p]))) := by
        intro H4 t1 k hk e4 i4 ht
        refine ⟨_, rfl, roll_step i4 (by decide) (by decide) fun r H5 r0 r7 e5 i5 => ⟨r, 3, rfl, rfl, (by show 2 ≤ sizeLine; decide), fun p hp5 => ?_⟩⟩
        have e25 : ExD d H2 H5 := e4.trans e5
        have hl5 := e25 D _ nD hl
        have npD : D ≠ p := ne_of_none hl5 hp5
        refine ⟨ts.map V.ref, by rw [L2.upd_ne npD]; exact hl5, ?_, ?_⟩
        · have : ts.length = rows.length := by rw [← iv_len rows]; exact Paired.length hp
          rw [List.length_map, this, hn]
          have : sizeLine = 16777216 := rfl
          omega
        · have nt : t1 ≠ d := fun e => by
            obtain ⟨x, y, z, hd⟩ := i4
            rw [e, hd] at ht; cases ht
          have ht5 := e5 t1 _ nt ht
          have keep : ∀ b o, b ≠ d → b ≠ D → H5 b = some o → (upd (upd H5 p (.tup [V.ref t1, .int (r - 3)])) D (.lst (ts.map V.ref ++ [V.ref p]))) b = some o := fun b o n1 n2 e => by
            rw [L2.upd_ne n2, L2.upd_ne (ne_of_none e hp5)]; exact e
          have keepT : ∀ b xs, H5 b = some (.tup xs) → (upd (upd H5 p (.tup [V.ref t1, .int (r - 3)])) D (.lst (ts.map V.ref ++ [V.ref p]))) b = some (.tup xs) := fun b xs e => keep b _ (fun z => by
            obtain ⟨x, y, z2, hd⟩ := i5
            rw [z, hd] at e; cases e) (fun z => by rw [z, hl5] at e; cases e) e
          refine ⟨fun b o n e => ?_, ?_, ts ++ [p], rows ++ [(k, r - 3)], ?_, ?_, ?_, ?_⟩
          · exact keep b o n (ne_of_none e hD) (e25 b o n (e2 b o n e))
          · obtain ⟨x, y, z, hd⟩ := i5
            refine ⟨x, y, z, ?_⟩
            rw [L2.upd_ne nD.symm, L2.upd_ne (ne_of_none hd hp5)]; exact hd
          · rw [upd_same, List.map_append]; rfl
          · unfold iv
            rw [List.map_append]
            refine paired_snoc (PairsOf.ex hp fun b xs e => keepT b xs (e25 b _ (fun z => by
              obtain ⟨x, y, z2, hd⟩ := i2
              rw [z, hd] at e; cases e) e)) ⟨t1, ?_, keepT _ _ ht5⟩
            rw [L2.upd_ne npD.symm, upd_same]
          · rw [List.length_append, hn]; rfl
          · intro p' hp'
            rcases List.mem_append.mp hp' with h | h
            · exact hr' p' h
            · rw [List.mem_singleton] at h
              subst h
              exact ⟨hk, by show -3 ≤ r - 3; omega, by show r - 3 ≤ 3; omega⟩
      refine ⟨_, rfl, roll_step i2 (by decide) (by decide) fun r0 H3 _ _ e3 i3 => ⟨rfl, _, rfl, ?_⟩⟩
      refine ite2 (fun _ => ?_) (fun _ => ?_)
      · refine ⟨_, rfl, roll_step i3 (by decide) (by decide) fun r1 H4 _ _ e4 i4 => ⟨(by show 2 ≤ sizeLine; decide), fun l hl4 => ⟨_, rfl, roll_step (i4.upd_ne hl4) (by decide) (by decide) fun r2 H6 g0 g1 e6 i6 => ?_⟩⟩⟩
        have nl : l ≠ d := fun e => by
          obtain ⟨x, y, z, hd⟩ := i4
          rw [e, hd] at hl4; cases hl4
        have e26 : ExD d H2 H6 := ((e3.trans e4).trans (ExD.of (Ex.upd hl4))).trans e6
        rcases (show r2 = 0 ∨ r2 = 1 by omega) with rfl | rfl
        · refine ⟨l, _, 0, _, rfl, rfl, e6 l _ nl upd_same, rfl, (by show 2 ≤ sizeLine; decide), fun t1 ht => fin _ t1 [.inl r1, .inr "x"] ⟨rfl, by simp only [List.all_cons, List.all_nil, okK, Bool.true_and]; decide +kernel⟩ (e26.trans (ExD.of (Ex.upd ht))) (i6.upd_ne ht) upd_same⟩
        · refine ⟨l, _, 1, _, rfl, rfl, e6 l _ nl upd_same, rfl, (by show 2 ≤ sizeLine; decide), fun t1 ht => fin _ t1 [.inl r1, .inr ""] ⟨rfl, by simp only [List.all_cons, List.all_nil, okK, Bool.true_and]; decide +kernel⟩ (e26.trans (ExD.of (Ex.upd ht))) (i6.upd_ne ht) upd_same⟩
      · exact ⟨_, rfl, roll_step i3 (by decide) (by decide) fun r1 H4 _ _ e4 i4 => ⟨(by show 2 ≤ sizeLine; decide), fun t1 ht => fin _ t1 [.inr "y", .inl r1] ⟨rfl, by simp only [List.all_cons, List.all_nil, okK, Bool.true_and]; decide +kernel⟩ ((e3.trans e4).trans (ExD.of (Ex.upd ht))) (i4.upd_ne ht) upd_same⟩⟩
    · rintro H2 ⟨e2, i2, ts, rows, hl, hp, hn, hr'⟩
      exact q H2 D ts rows (e1.trans e2) i2 hl hp ⟨by omega, hr'⟩
end
end KM
set_option Elab.async false
set_option linter.all false
set_option maxRecDepth 100000
set_option maxHeartbeats 4000000
namespace KM
open PySem PySem.Spec PyProof.Rows L2 KB KC KS
theorem pairs_at {H : Hp} : ∀ {ts : List Addr} {rows : W}, PairsOf H ts (iv rows) → ∀ {i : Nat} {t : Addr}, ts[i]? = some t → ∃ p q, rows[i]? = some p ∧ H t = some (.tup [.ref q, .int p.2]) ∧ H q = some (.tup (p.1.map kV))
  | _, [], Paired.nil, i, t, h => by simp at h
  | _, p :: rows, Paired.cons ⟨q, h1, h2⟩ r, 0, t, h => by
    cases h
    exact ⟨p, q, rfl, h1, h2⟩
  | _, p :: rows, Paired.cons _ r, i + 1, t, h => pairs_at (rows := rows) r (i := i) h
theorem pairs_len {H : Hp} {ts : List Addr} {rows : W} (h : PairsOf H ts (iv rows)) : ts.length = rows.length := by rw [← iv_len rows]; exact Paired.length h
theorem map_ref_at {ts : List Addr} {i : Nat} {x : V} (h : (ts.map V.ref)[i]? = some x) : ∃ t, ts[i]? = some t ∧ x = .ref t := by
  rw [List.getElem?_map] at h
  obtain ⟨t, h1, h2⟩ := Option.map_eq_some_iff.mp h
  exact ⟨t, h1, h2.symm⟩
theorem take_snoc {α : Type} {l : List α} {i : Nat} {x : α} (h : l[i]? = some x) : l.take (i + 1) = l.take i ++ [x] := by
  rw [List.take_add_one, h]; rfl
theorem getD_iv (ws : W) (k : Row) : (valV (iv ws) k).getD (.int 0) = .int ((look ws k).getD 0) := by
  rw [valV_iv]
  cases look ws k <;> rfl
theorem look_some {ws : W} {p : Row × Int} {i : Nat} (nd : Nd ws) (h : ws[i]? = some p) : look ws p.1 = some p.2 := (look_mem nd).mpr (List.mem_of_getElem? h)
def sumTo (rows : W) (i : Nat) : W := (rows.take i).foldl sumW []
theorem sumTo_succ {rows : W} {i : Nat} {p : Row × Int} (h : rows[i]? = some p) : sumTo rows (i + 1) = sumW (sumTo rows i) p := by
  unfold sumTo
  rw [take_snoc h, List.foldl_append]
  rfl
theorem putI_len (ws : W) (k : Row) (n : Int) : (putI ws k n).length ≤ ws.length + 1 := by
  unfold putI
  split
  · rw [List.length_map]; omega
  · rw [List.length_append]; simp
theorem sumTo_len {rows : W} : ∀ i, (sumTo rows i).length ≤ i
  | 0 => by simp [sumTo]
  | i + 1 => by
    cases h : rows[i]? with
    | none =>
      have h2 : rows.length ≤ i := List.getElem?_eq_none_iff.mp h
      have e : sumTo rows (i + 1) = sumTo rows i := by
        unfold sumTo
        rw [List.take_of_length_le (by omega), List.take_of_length_le h2]
      rw [e]
      exact Nat.le_succ_of_le (sumTo_len i)
    | some p =>
      rw [sumTo_succ h]
      exact Nat.le_trans (putI_len _ _ _) (Nat.succ_le_succ (sumTo_len i))
theorem ExD.id {d : Addr} {H H1 : Hp} (e : ExD d H H1) (n : H d = none) : Ex H H1 := fun b o h => e b o (ne_of_none h n) h
theorem ExD.put {d : Addr} {H H1 : Hp} {o : HO} (e : ExD d H H1) : ExD d H (upd H1 d o) := fun b u n h => by rw [L2.upd_ne n]; exact e b u n h
@[irreducible] def spSums : Sp := fun vs H Q _ => ∃ r ts rows, vs = [.ref r] ∧ H r = some (.lst (ts.map V.ref)) ∧ PairsOf H ts (iv rows) ∧ rows.length ≤ 64 ∧ ∀ H' e, Ex H H' → H e = none → H' e = some (.dT (iv (sums rows))) → Q (.ref e) H'
section
variable {P : Program} {w : World} {K : PySem.W.Frag} {mg : Str → Option Value} {base : Heap} {f fR : Addr} {fd fdR : FuncData}
abbrev nSums : List Str := ["rows", "found", "row", "weight"]
theorem scSums : FnScope nSums ["rows"] (defScope sSums) := ⟨rfl, rfl, rfl, by decide +kernel, rfl, by decide +kernel, by decide +kernel⟩
theorem ok_sums (F : FnP K "_law_sums" "_law_sums" sSums [] f fd) (T : TxtL mg) : FnOk P w K mg base CX0 1 f fd ["rows"] spSums := by
  refine F.ok scSums (fun vs H Q E h => ?_) (fun cdv A outer s H vs Q E hr h => ?_)
  · unfold spSums at h
    obtain ⟨c, d, _, rfl, _⟩ := h; rfl
  · unfold spSums at h
    obtain ⟨r, ts, rows, rfl, hl, hp, h64, q⟩ := h
    have hu := hr.units
    have hu1 := Nat.lt_trans (Nat.add_lt_add_left (by decide : 1 < 64) _) hu
    have hu4 := Nat.lt_trans (Nat.add_lt_add_left (by decide : 4 < 64) _) hu
    refine ⟨_, PSs.nox <| pss_cons (ps_set (i := 1) scSums.nd rfl (Or.inr rfl) pe_dnewT)
      (pss_cons (ps_for PassesOwn.never rfl (pi_list (pv 0)) (pg_tup rfl (pgs_cons (pg_name (i := 2) scSums.nd rfl (Or.inl rfl)) (pgs_cons (pg_name (i := 3) scSums.nd rfl (Or.inl rfl)) pgs_nil)))
          (pss_one (ps_dput hu1 (pv 1) (pv 2) (pe_op op_add (pe_dget2 hu1 (pv 1) (pv 2) pe_int ⟨rfl, rfl, rfl, rfl⟩) (pv 3)) rfl)))
      (pss_one (ps_ret (pe_callTy (KG.cr_dictT rfl hu4) (by rfl) T.dict (by decide +kernel) (pa_cons (pe_lock (pe_lc (own := [("row", 2)]) (g := gName 2) rfl scSums.nd (pi_keys (pv 1)) (blkOk_by (N := nSums) (sc := defScope sSums) (by decide +kernel))
        (fun _ _ _ _ _ => pg_name (i := 2) scSums.nd rfl (Or.inl rfl)) (fun _ _ _ _ _ => pts_one (pt_cmpR op_ne (pe_dget hu1 (pv 1) (pv 2) (fun _ _ => rfl)) pe_int (nomark _)))
        (fun _ _ _ _ _ => pe_tup (pa_cons (pv 2) (pa_cons (pe_dget hu1 (pv 1) (pv 2) (fun _ _ => rfl)) pa_nil))))) pa_nil))))), ?_⟩
    intro e he
    refine ⟨_, rfl, r, rfl, ⟨_, SqL.of ((Ex.upd he) r _ hl)⟩, for_list (xs := ts.map V.ref) (fun i σ H2 => (∃ a b, σ = [some (.ref r), some (.ref e), a, b]) ∧ ExD e H H2 ∧ H2 e = some (.dT (iv (sumTo rows i)))) ⟨⟨none, none, rfl⟩, ExD.of (Ex.upd he), upd_same⟩
      (fun i σ H2 _ ⟨_, e2, _⟩ => SqL.of (e2 r _ (ne_of_none hl he) hl)) ?_ ?_⟩
    · rintro i x σ H2 hx ⟨⟨a, b, rfl⟩, e2, h2⟩
      obtain ⟨t, ht, rfl⟩ := map_ref_at hx
      obtain ⟨p, k, hi, hT, hK⟩ := pairs_at hp ht
      have hT2 := e2 t _ (ne_of_none hT he) hT
      have hK2 := e2 k _ (ne_of_none hK he) hK
      have hn : i < rows.length := (List.getElem?_eq_some_iff.mp hi).1
      refine ⟨t, _, rfl, SqT.of hT2, rfl, _, _, rfl, _, _, rfl, rfl, ?_⟩
      refine ⟨_, rfl, e, rfl, .inr ⟨_, .inl h2⟩, _, rfl, _, DGet.t h2 hK2, _, rfl, _, _, getD_iv _ _, rfl, ?_⟩
      refine ⟨_, rfl, _, rfl, e, _, rfl, DPut.t h2 hK2 ?_, ⟨_, _, rfl⟩, e2.put, ?_⟩
      · rw [iv_len]
        have := sumTo_len (rows := rows) i
        have : sizeLine = 16777216 := rfl
        omega
      · rw [upd_same, putK_iv, sumTo_succ hi]
        rfl
    · rintro σ H2 ⟨⟨a, b, rfl⟩, e2, h2⟩
      have hlen := pairs_len hp
      rw [List.length_map, hlen] at h2
      have eall : sumTo rows rows.length = sumAll rows := by unfold sumTo sumAll; rw [List.take_length]
      rw [eall] at h2
      have nd : Nd (sumAll rows) := (srep_all rows).1
      have hlen2 : (sumAll rows).length ≤ 64 := by rw [← eall]; exact Nat.le_trans (sumTo_len _) h64
      refine ⟨e, _, h2, trivial, fun od => ⟨_, rfl, e, od, rfl, .inr ⟨_, upd_same, fun D hD => ?_⟩⟩⟩
      have nD : e ≠ D := fun z => by rw [← z, upd_same] at hD; cases hD
      have hD2 : H2 D = none := by rw [L2.upd_ne nD.symm] at hD; exact hD
      refine lc_it walk_keysT (fun j H3 => ExD e H2 H3 ∧ H3 e = some (.frz od (.dT (iv (sumAll rows)))) ∧ ∃ us, H3 D = some (.lst (us.map V.ref)) ∧ PairsOf H3 us (iv (((sumAll rows).take j).filter fun p => decide (p.2 ≠ 0))))
        ?_ (fun i H _ h => h.2.1) ?_ ?_
      · refine ⟨fun b o n h => ?_, ?_, [], upd_same, Paired.nil⟩
        · rw [L2.upd_ne (ne_of_none h hD2), L2.upd_ne n]; exact h
        · rw [L2.upd_ne nD, upd_same]
      · rintro j x H0 H3 hj ⟨e3, h3, us, hu3, hp3⟩ ⟨rfl, k, v, b, hv, rfl, hb⟩
        refine ⟨rfl, ?_⟩
        obtain ⟨pr, hpr, hpe⟩ : ∃ pr, (sumAll rows)[j]? = some pr ∧ (pr.1, V.int pr.2) = (k, v) := by
          unfold iv at hv
          rw [List.getElem?_map] at hv
          exact Option.map_eq_some_iff.mp hv
        obtain ⟨rfl, rfl⟩ := Prod.mk.inj hpe
        have hval : some (V.int pr.2) = valV (iv (sumAll rows)) pr.1 := by
          rw [valV_iv, look_some nd hpr]; rfl
        have hg : ∀ H4 : Hp, H4 e = some (.frz od (.dT (iv (sumAll rows)))) → H4 b = some (.tup (pr.1.map kV)) → DGet H4 e (.ref b) (some (.int pr.2)) := fun H4 h4 hb4 => .inr ⟨_, pr.1, b, .inr ⟨od, h4⟩, rfl, hb4, hval⟩
        have hnew : ((sumAll rows).take (j + 1)).filter (fun p => decide (p.2 ≠ 0)) = ((sumAll rows).take j).filter (fun p => decide (p.2 ≠ 0)) ++ (if pr.2 ≠ 0 then [pr] else []) := by
          rw [take_snoc hpr, List.filter_append]
          congr 1
          by_cases c : pr.2 = 0 <;> simp [c]
        refine ⟨_, rfl, _, rfl, e, _, rfl, hg _ h3 hb, rfl, _, rfl, ?_⟩
        by_cases c : pr.2 = 0
        · have hd : (!decide (V.int pr.2 = V.int 0)) = false := by rw [c]; rfl
          show if (!decide (V.int pr.2 = V.int 0)) = true then _ else _
          rw [hd]
          refine iteF ⟨e3, h3, us, hu3, ?_⟩
          rw [hnew, if_neg (fun z => z c), List.append_nil]
          exact hp3
        · have hd : (!decide (V.int pr.2 = V.int 0)) = true := by
            rw [decide_eq_false (fun z => c (V.int.inj z))]; rfl
          show if (!decide (V.int pr.2 = V.int 0)) = true then _ else _
          rw [hd]
          refine iteT ⟨_, rfl, _, rfl, _, rfl, e, _, rfl, hg _ h3 hb, (by show 2 ≤ sizeLine; decide), fun p hp => ?_⟩
          have npD : D ≠ p := ne_of_none hu3 hp
          have npe : e ≠ p := ne_of_none h3 hp
          have nbD : b ≠ D := fun z => by rw [z, hu3] at hb; cases hb
          refine ⟨us.map V.ref, by rw [L2.upd_ne npD]; exact hu3, ?_, ?_, ?_, us ++ [p], ?_, ?_⟩
          · have l1 := pairs_len hp3
            have l2 := List.length_filter_le (fun p : Row × Int => decide (p.2 ≠ 0)) ((sumAll rows).take j)
            have l3 : ((sumAll rows).take j).length ≤ 64 := by rw [List.length_take]; omega
            rw [List.length_map, l1]
            have : sizeLine = 16777216 := rfl
            omega
          · intro a o n h
            rw [L2.upd_ne (ne_of_none h hD2), L2.upd_ne (ne_of_none (e3 a o n h) hp)]
            exact e3 a o n h
          · rw [L2.upd_ne nD, L2.upd_ne npe]; exact h3
          · rw [upd_same, List.map_append]; rfl
          · rw [hnew, if_pos c]
            have keepT : ∀ a xs, H3 a = some (.tup xs) → (upd (upd H3 p (.tup [V.ref b, .int pr.2])) D (.lst (us.map V.ref ++ [V.ref p]))) a = some (.tup xs) := fun a xs h => by
              rw [L2.upd_ne (fun z => by rw [z, hu3] at h; cases h), L2.upd_ne (ne_of_none h hp)]; exact h
            unfold iv
            rw [List.map_append]
            refine paired_snoc (PairsOf.ex hp3 keepT) ⟨b, ?_, keepT _ _ hb⟩
            rw [L2.upd_ne npD.symm, upd_same]
      · intro H3 ⟨e3, h3, us, hu3, hp3⟩
        refine ⟨h3, ?_⟩
        rw [iv_len, List.take_length] at hp3
        have keepT : ∀ a xs, H3 a = some (.tup xs) → (upd H3 e (.dT (iv (sumAll rows)))) a = some (.tup xs) := fun a xs h => by
          rw [L2.upd_ne (fun z => by rw [z, h3] at h; cases h)]; exact h
        refine ⟨D, us, _, rfl, .inl ?_, PairsOf.ex hp3 keepT, fun p hp => ?_⟩
        · rw [L2.upd_ne nD.symm]; exact hu3
        · have em : KG.mergeT [] (iv ((sumAll rows).filter fun p => decide (p.2 ≠ 0))) = iv (sums rows) := merge_nil (rep_sums rows).1
          rw [em]
          refine q _ p (fun b o h => ?_) ?_ upd_same
          rotate_left
          · cases z : H p with
            | none => rfl
            | some u =>
              have nb := ne_of_none z he
              have z2 := e3 p u nb (e2 p u nb z)
              rw [L2.upd_ne nb, z2] at hp
              cases hp
          have nb := ne_of_none h he
          have z := e3 b o nb (e2 b o nb h)
          rw [L2.upd_ne (ne_of_none (a := b) (by rw [L2.upd_ne nb]; exact z) hp), L2.upd_ne nb]
          exact z
end
end KM
set_option Elab.async false
set_option linter.all false
set_option maxRecDepth 100000
set_option maxHeartbeats 4000000
namespace KM
open PySem PySem.Spec PyProof.Rows L2 KB KC KS RZ
def isT : Key → Bool
  | .inl _ => false
  | .inr _ => true
theorem scal_kV (x y : Key) : scal (kV x) (kV y) = true := by cases x <;> cases y <;> rfl
theorem dec_kV (x y : Key) : decide (kV x = kV y) = decide (x = y) := by
  by_cases e : x = y
  · rw [e, decide_eq_true rfl, decide_eq_true rfl]
  · rw [decide_eq_false (fun z => e (kV_inj z)), decide_eq_false e]
@[irreducible] def rIsiK (K : PySem.W.Frag) : List V → Hp → VK → Prop := rIsi K
theorem call_isiK {X : Cx} : CallR X (.builtin "isinstance") (rIsiK X.K) := by
  unfold rIsiK
  exact call_isi
theorem isi_kV (K : PySem.W.Frag) (H : Hp) (x : Key) (Q : VK) (q : Q (.bl (isT x)) H) : rIsiK K [kV x, .ty "str"] H Q := by
  unfold rIsiK
  cases x with
  | inl i => exact ⟨_, _, _, _, false, rfl, .ty "str", .base (.int i), kit_ty (by decide +kernel), q⟩
  | inr s => exact ⟨_, _, _, _, true, rfl, .ty "str", .base (.str s), kit_ty (by decide +kernel), q⟩
theorem dp_kV (K : PySem.W.Frag) (H : Hp) (x : Key) : Dp K H (kV x) (dK x) := by
  cases x with
  | inl i => exact .int i
  | inr s => exact .str s
theorem shaped_dK {x : Key} (h : okK x = true) : SeqAt.shaped (dK x) = true := by
  cases x with
  | inl i => rfl
  | inr s =>
    show (PyData.strOk s && decide (PyData.depth (.str s) ≤ 64)) = true
    rw [show PyData.strOk s = true from h]
    rfl
theorem bef_at : ∀ {k1 k2 : Row} {i : Nat} {x y : Key}, k1.take i = k2.take i → k1[i]? = some x → k2[i]? = some y → x ≠ y → bef k1 k2 = lessK x y
  | [], _, i, _, _, _, h, _, _ => by simp at h
  | _ :: _, [], i, _, _, _, _, h, _ => by simp at h
  | a :: k1, b :: k2, 0, x, y, _, h1, h2, n => by
    obtain rfl : a = x := Option.some.inj h1
    obtain rfl : b = y := Option.some.inj h2
    show (if a = b then bef k1 k2 else lessK a b) = lessK a b
    rw [if_neg n]
  | a :: k1, b :: k2, i + 1, x, y, h, h1, h2, n => by
    rw [List.take_succ_cons, List.take_succ_cons, List.cons.injEq] at h
    show (if a = b then bef k1 k2 else lessK a b) = lessK x y
    rw [if_pos h.1]
    exact bef_at h.2 h1 h2 n
@[irreducible] def spBefore : Sp := fun vs H Q _ => ∃ (a b : Addr) (k1 k2 : Row), vs = [.ref a, .ref b] ∧ H a = some (.tup (k1.map kV)) ∧ H b = some (.tup (k2.map kV)) ∧ GoodR k1 ∧ GoodR k2 ∧ ∀ H', Ex H H' → Q (.bl (bef k1 k2)) H'
section
variable {P : Program} {w : World} {K : PySem.W.Frag} {mg : Str → Option Value} {base : Heap} {f fR : Addr} {fd fdR : FuncData}
abbrev nBef : List Str := ["one", "other", "first", "second"]
theorem scBef : FnScope nBef ["one", "other"] (defScope sBefore) := ⟨rfl, rfl, rfl, by decide +kernel, rfl, by decide +kernel, by decide +kernel⟩
theorem ok_before (F : FnP K "_law_before" "_law_before" sBefore [] f fd) (T : TxtL mg) : FnOk P w K mg base CX0 1 f fd ["one", "other"] spBefore := by
  refine F.ok scBef (fun vs H Q E h => ?_) (fun cdv A outer s H vs Q E hr h => ?_)
  · unfold spBefore at h
    obtain ⟨c, d, _, _, rfl, _⟩ := h; rfl
  · unfold spBefore at h
    obtain ⟨a, b, k1, k2, rfl, h1, h2, g1, g2, q⟩ := h
    have hu := hr.units
    have hl : k1.length = k2.length := g1.1.trans g2.1.symm
    refine ⟨_, PSs.nox <| pss_cons (ps_for PassesOwn.never rfl (pi_zipA (by rfl) T.zip (pa_cons (pv 0) (pa_cons (pv 1) pa_nil))) (pg_tup rfl (pgs_cons (pg_name (i := 2) scBef.nd rfl (Or.inl rfl)) (pgs_cons (pg_name (i := 3) scBef.nd rfl (Or.inl rfl)) pgs_nil)))
        (pss_one (ps_if (pt_cmpR op_ne (pv 2) (pv 3) (nomark _))
          (pss_cons (ps_if (pt_cmpR op_ne (pe_callB call_isiK (by rfl) T.isi PyProof.Rows.boot_isinstance (pa_cons (pv 2) (pa_cons (pe_bltn (v := .ty "str") (u := .type "str") (by rfl) T.str (by decide +kernel) rfl) pa_nil)))
              (pe_callB call_isiK (by rfl) T.isi PyProof.Rows.boot_isinstance (pa_cons (pv 3) (pa_cons (pe_bltn (v := .ty "str") (u := .type "str") (by rfl) T.str (by decide +kernel) rfl) pa_nil))) (nomark _))
            (pss_one (ps_ret (pe_callB call_isiK (by rfl) T.isi PyProof.Rows.boot_isinstance (pa_cons (pv 3) (pa_cons (pe_bltn (v := .ty "str") (u := .type "str") (by rfl) T.str (by decide +kernel) rfl) pa_nil))))) pss_nil)
          (pss_one (ps_ret (pe_cmpR (op_ltD hu) (pv 2) (pv 3) (nomark _))))) pss_nil)))
      (pss_one (ps_ret (pe_cmpR op_lt (pe_callB call_len_seq (by rfl) T.len PySem.boot_len (pa_cons (pv 0) pa_nil)) (pe_callB call_len_seq (by rfl) T.len PySem.boot_len (pa_cons (pv 1) pa_nil)) (nomark _)))), ?_⟩
    refine ⟨_, rfl, _, rfl, a, b, k1.map kV, k2.map kV, rfl, .inr ⟨SqT.of h1, SqT.of h2, for_zipT (by rw [List.length_map, List.length_map, hl]) (fun i σ H2 => (∃ u v, σ = [some (.ref a), some (.ref b), u, v]) ∧ Ex H H2 ∧ k1.take i = k2.take i)
      ⟨⟨_, _, rfl⟩, Ex.refl H, rfl⟩ (fun i σ H2 ⟨_, e, _⟩ => ⟨SqT.of (e _ _ h1), SqT.of (e _ _ h2)⟩) ?_ ?_⟩⟩
    · rintro i x y t σ H2 hx hy ⟨⟨u, v, rfl⟩, e2, hk⟩ hT
      rw [List.getElem?_map] at hx hy
      obtain ⟨kx, hx', rfl⟩ := Option.map_eq_some_iff.mp hx
      obtain ⟨ky, hy', rfl⟩ := Option.map_eq_some_iff.mp hy
      have e3 := e2.trans (Ex.upd (o := .tup [kV kx, kV ky]) hT)
      refine ⟨t, _, rfl, SqT.of upd_same, rfl, _, _, rfl, _, _, rfl, rfl, ?_⟩
      refine ⟨_, rfl, _, rfl, scal_kV _ _, _, rfl, ?_⟩
      rw [dec_kV]
      by_cases c : kx = ky
      · rw [decide_eq_true c]
        refine iteF ⟨⟨_, _, rfl⟩, e3, ?_⟩
        rw [take_snoc hx', take_snoc hy', hk, c]
      · rw [decide_eq_false c]
        refine iteT ?_
        have hb := bef_at hk hx' hy' c
        refine ⟨_, rfl, isi_kV _ _ _ _ ⟨_, rfl, isi_kV _ _ _ _ ⟨rfl, _, rfl, ?_⟩⟩⟩
        by_cases ct : isT kx = isT ky
        · have hd : (!decide (V.bl (isT kx) = V.bl (isT ky))) = false := by rw [ct, decide_eq_true rfl]; rfl
          rw [hd]
          refine iteF ⟨_, rfl, _, rfl, dK kx, dK ky, dp_kV _ _ _, dp_kV _ _ _, ?_, ?_, ?_, ?_⟩
          · exact shaped_dK (List.all_eq_true.mp g1.2 _ (List.mem_of_getElem? hx'))
          · exact shaped_dK (List.all_eq_true.mp g2.2 _ (List.mem_of_getElem? hy'))
          · cases kx <;> cases ky <;> first | rfl | cases ct
          · have e : ltD (dK kx) (dK ky) = bef k1 k2 := by
              rw [hb]
              cases kx <;> cases ky <;> first | rfl | cases ct
            rw [e]
            exact q _ e3
        · have hd : (!decide (V.bl (isT kx) = V.bl (isT ky))) = true := by rw [decide_eq_false (fun z => ct (V.bl.inj z))]; rfl
          rw [hd]
          refine iteT ⟨_, rfl, isi_kV _ _ _ _ ?_⟩
          have e : isT ky = bef k1 k2 := by
            rw [hb]
            cases kx <;> cases ky <;> first | rfl | exact absurd rfl ct
          rw [e]
          exact q _ e3
    · rintro σ H2 ⟨⟨u, v, rfl⟩, e2, hk⟩
      have e : k1 = k2 := by
        rw [List.length_map, List.take_length, hl, List.take_length] at hk
        exact hk
      refine ⟨_, rfl, a, _, rfl, .inr (SqT.of (e2 _ _ h1)), _, rfl, b, _, rfl, .inr (SqT.of (e2 _ _ h2)), _, _, rfl, rfl, ?_⟩
      have e4 : decide (((k1.map kV).length : Int) < ((k2.map kV).length : Int)) = bef k1 k2 := by
        subst e
        rw [bef_irrefl]
        exact decide_eq_false (Int.lt_irrefl _)
      show Q (.bl (decide (((k1.map kV).length : Int) < ((k2.map kV).length : Int)))) H2
      rw [e4]
      exact q _ e2
end
end KM
set_option Elab.async false
set_option linter.all false
set_option maxRecDepth 100000
set_option maxHeartbeats 4000000
namespace KM
open PySem PySem.Spec PyProof.Rows L2 KB KC KS RZ
structure TxtB (K : PySem.W.Frag) (mg : Str → Option Value) (C : Addr) : Prop where
  cl : Cls K C
  nW : NoAttr K C "weights"
  gC : mg "Bag" = some (.ref C)
abbrev bF (d : Addr) : List (Str × V) := [("weights", .ref d)]
theorem bF_w (d : Addr) : (bF d).lookup ("weights" : Str) = some (.ref d) := rfl
theorem bF_m {d : Addr} {m : Str} (h : (m == ("weights" : Str)) = false) : (bF d).lookup m = none := by
  simp only [List.lookup, h]
theorem ifT {c A B : Prop} [Decidable c] (h : c) (a : A) : if c then A else B := by rw [if_pos h]; exact a
theorem ifF {c A B : Prop} [Decidable c] (h : ¬ c) (b : B) : if c then A else B := by rw [if_neg h]; exact b
abbrev sM (j : Nat) : Stmt := inClass sBag j
theorem upd_self {H : Hp} {a : Addr} {o : HO} (h : H a = some o) : upd H a o = H := by
  funext b
  by_cases e : b = a
  · rw [e, upd_same, h]
  · rw [L2.upd_ne e]
@[irreducible] def spAdd (C : Addr) : Sp := fun vs H Q _ => ∃ (a d dx q : Addr) (ws : W) (k : Row) (n : Int), vs = [.ref a, .ref q, .int n] ∧ H a = some (.ins C dx (bF d)) ∧ H d = some (.dT (iv ws)) ∧ H q = some (.tup (k.map kV)) ∧ ws.length ≤ 1000 ∧
  Q .non (upd H d (.dT (iv (addW ws k n))))
theorem add_raw {C : Addr} {H : Hp} {a d dx q : Addr} {ws : W} {k : Row} {n : Int} {Q : VK} {E : XK} (h1 : H a = some (.ins C dx (bF d))) (h2 : H d = some (.dT (iv ws))) (hq : H q = some (.tup (k.map kV))) (hl : ws.length ≤ 1000) (fin : Q .non (upd H d (.dT (iv (addW ws k n))))) : spAdd C [.ref a, .ref q, .int n] H Q E := by
  unfold spAdd
  exact ⟨a, d, dx, q, ws, k, n, rfl, h1, h2, hq, hl, fin⟩
theorem addW_len (ws : W) (k : Row) (n : Int) : (addW ws k n).length ≤ ws.length + 1 := by
  unfold addW
  split
  · exact putI_len _ _ _
  · split
    · exact Nat.le_succ_of_le (List.length_filter_le _ _)
    · exact Nat.le_succ _
section
variable {P : Program} {w : World} {K : PySem.W.Frag} {mg : Str → Option Value} {base : Heap} {C f fA : Addr} {fd fdA : FuncData}
abbrev nAdd : List Str := ["self", "row", "weight", "total"]
theorem scAdd : FnScope nAdd ["self", "row", "weight"] (defScope (sM 1)) := ⟨rfl, rfl, rfl, by decide +kernel, rfl, by decide +kernel, by decide +kernel⟩
theorem ok_add (F : FnP K "add" "Bag.add" (sM 1) [.int 1] f fd) (B : TxtB K mg C) : FnOk P w K mg base CX0 1 f fd ["self", "row", "weight"] (spAdd C) := by
  refine F.ok scAdd (fun vs H Q E h => ?_) (fun cdv A outer s H vs Q E hr h => ?_)
  · unfold spAdd at h
    obtain ⟨c, d, _, _, _, _, _, rfl, _⟩ := h; rfl
  · unfold spAdd at h
    obtain ⟨a, d, dx, q, ws, k, n, rfl, ha, hd, hq, hl, fin⟩ := h
    have hu := hr.units
    have hu1 := Nat.lt_trans (Nat.add_lt_add_left (by decide : 1 < 64) _) hu
    refine ⟨_, PSs.nox <| pss_cons (ps_set (i := 3) scAdd.nd rfl (Or.inl rfl) (pe_op op_add (pe_dget2 hu1 (pe_fld (pv 0) rfl) (pv 1) pe_int ⟨rfl, rfl, rfl, rfl⟩) (pv 2)))
      (pss_one (ps_if (pt_cmpR op_ne (pv 3) pe_int (nomark _)) (pss_one (ps_dput hu1 (pe_fld (pv 0) rfl) (pv 1) (pv 3) rfl))
        (pss_one (ps_if (pt_cmp (pc_din hu1 (pv 1) (pe_fld (pv 0) rfl))) (pss_one (ps_ddelT hu1 (pe_fld (pv 0) rfl) (pv 1))) pss_nil)))), ?_⟩
    have hgt : DGet H d (.ref q) (valV (iv ws) k) := DGet.t hd hq
    refine ⟨_, rfl, _, C, dx, _, _, rfl, ha, B.cl, B.nW, bF_w d, _, rfl, .inr ⟨_, .inl hd⟩, _, rfl, _, hgt, _, rfl, _, _, getD_iv _ _, rfl, ?_⟩
    refine ⟨_, rfl, rfl, _, rfl, ?_⟩
    unfold addW at fin
    by_cases c : (look ws k).getD 0 + n = 0
    · rw [if_neg (fun z => z c)] at fin
      have hd0 : (!decide (V.int ((look ws k).getD 0 + n) = V.int 0)) = false := by rw [c]; rfl
      show if (!decide (V.int ((look ws k).getD 0 + n) = V.int 0)) = true then _ else _
      rw [hd0]
      refine iteF ⟨_, rfl, _, rfl, _, C, dx, _, _, rfl, ha, B.cl, B.nW, bF_w d, _, _, rfl, hgt, _, rfl, ?_⟩
      have e0 : (valV (iv ws) k).isSome = (look ws k).isSome := by rw [valV_iv]; cases look ws k <;> rfl
      rw [e0]
      by_cases c2 : (look ws k).isSome = true
      · rw [if_pos c2] at fin
        refine ifT c2 ?_
        refine ⟨_, rfl, _, C, dx, _, _, rfl, ha, B.cl, B.nW, bF_w d, _, rfl, _, _, k, q, rfl, rfl, hd, hq, by rw [e0]; exact c2, ?_⟩
        rw [dropK_iv]
        exact fin
      · rw [if_neg c2, upd_self hd] at fin
        exact ifF c2 fin
    · rw [if_pos c] at fin
      have hd0 : (!decide (V.int ((look ws k).getD 0 + n) = V.int 0)) = true := by rw [decide_eq_false (fun z => c (V.int.inj z))]; rfl
      show if (!decide (V.int ((look ws k).getD 0 + n) = V.int 0)) = true then _ else _
      rw [hd0]
      refine iteT ⟨_, rfl, _, rfl, _, C, dx, _, _, rfl, ha, B.cl, B.nW, bF_w d, _, rfl, d, _, rfl, DPut.t hd hq ?_, ?_⟩
      · rw [iv_len]
        have : sizeLine = 16777216 := rfl
        omega
      · rw [putK_iv]
        exact fin
@[irreducible] def spInit (C : Addr) : Sp := fun vs H Q _ => ∃ (p dx r : Addr) (ts : List Addr) (rows : W), vs = [.ref p, .ref r] ∧ H p = some (.ins C dx []) ∧ H r = some (.lst (ts.map V.ref)) ∧ PairsOf H ts (iv rows) ∧ rows.length ≤ 1000 ∧
  ∀ d, H d = none → d ≠ p → Q .non (upd (upd H p (.ins C dx (bF d))) d (.dT (iv (mk rows))))
@[irreducible] def spInit0 (K : PySem.W.Frag) (C : Addr) : Sp := fun vs H Q _ => ∃ (p dx r : Addr), vs = [.ref p, .ref r] ∧ H p = some (.ins C dx []) ∧ SqT K H r [] ∧
  ∀ d, H d = none → d ≠ p → Q .non (upd (upd H p (.ins C dx (bF d))) d (.dT (iv [])))
def mkTo (rows : W) (i : Nat) : W := mk (rows.take i)
theorem mkTo_succ {rows : W} {i : Nat} {p : Row × Int} (h : rows[i]? = some p) : mkTo rows (i + 1) = addW (mkTo rows i) p.1 p.2 := by
  unfold mkTo mk
  rw [take_snoc h, List.foldl_append]
  rfl
theorem mk_len (rows : W) : (mk rows).length ≤ rows.length := by
  have go : ∀ (rows ws : W), (rows.foldl (fun ws p => addW ws p.1 p.2) ws).length ≤ ws.length + rows.length := by
    intro rows
    induction rows with
    | nil => intro ws; simp
    | cons p r ih =>
      intro ws
      have a := ih (addW ws p.1 p.2)
      have b := addW_len ws p.1 p.2
      show ((r.foldl _ (addW ws p.1 p.2)).length) ≤ _
      rw [List.length_cons]
      omega
  have := go rows []
  unfold mk
  simpa using this
theorem upd_comm {H : Hp} {a b : Addr} {o u : HO} (n : a ≠ b) : upd (upd H a o) b u = upd (upd H b u) a o := by
  funext c
  by_cases e1 : c = a
  · subst e1
    rw [L2.upd_ne n, upd_same, upd_same]
  · by_cases e2 : c = b
    · subst e2
      rw [upd_same, L2.upd_ne e1, upd_same]
    · rw [L2.upd_ne e2, L2.upd_ne e1, L2.upd_ne e1, L2.upd_ne e2]
abbrev nInit : List Str := ["self", "rows", "row", "weight"]
theorem scInit : FnScope nInit ["self", "rows"] (defScope (sM 0)) := ⟨rfl, rfl, rfl, by decide +kernel, rfl, by decide +kernel, by decide +kernel⟩
theorem bindsAdd (FA : FnP K "add" "Bag.add" (sM 1) [.int 1] fA fdA) : Binds K fdA ["self", "row", "weight"] [] := by
  obtain ⟨ds, h1, h2⟩ := FA.binds1 (ps := ["self", "row", "weight"]) 3 1 (by simp) rfl fun T kV doc pm an cdv ct us its h1 h2 => match us, its, h1, h2 with
    | [_, _, _], [_], _, _ => ⟨_, rfl, rfl⟩
  cases h1
  exact h2
theorem ok_init (F : FnP K "__init__" "Bag.__init__" (sM 0) [.ref r0] f fd) (B : TxtB K mg C) (FA : FnP K "add" "Bag.add" (sM 1) [.int 1] fA fdA) (mA : Meth K C "add" fA) : FnOk P w K mg base CX0 2 f fd ["self", "rows"] (spInit C) := by
  have GA : FnOk P w K mg base CX0 1 fA fdA ["self", "row", "weight"] (spAdd C) := ok_add FA B
  have bA := bindsAdd FA
  refine F.ok scInit (fun vs H Q E h => ?_) (fun cdv A outer s H vs Q E hr h => ?_)
  · unfold spInit at h
    obtain ⟨_, _, _, _, _, rfl, _⟩ := h; rfl
  · unfold spInit at h
    obtain ⟨p, dx, r, ts, rows, rfl, hp, hr2, hps, hl, fin⟩ := h
    refine ⟨_, PSs.nox <| pss_cons (ps_fld (pv 0) pe_dnewT rfl)
      (pss_one (ps_for PassesOwn.never rfl (pi_list (pv 1)) (pg_tup rfl (pgs_cons (pg_name (i := 2) scInit.nd rfl (Or.inl rfl)) (pgs_cons (pg_name (i := 3) scInit.nd rfl (Or.inl rfl)) pgs_nil)))
        (pss_one (ps_expr (pe_meth (pv 0) B.cl mA GA hr bA .nil pass0 (pa_cons (pv 2) (pa_cons (pv 3) pa_nil))))))), ?_⟩
    intro d hd
    have ndp : d ≠ p := fun e => by rw [e, hp] at hd; cases hd
    have e0 : upd (upd H d (.dT [])) p (.ins C dx (putF "weights" (.ref d) [])) = upd (upd H p (.ins C dx (bF d))) d (.dT (iv (mkTo rows 0))) := upd_comm ndp
    refine ⟨_, rfl, p, C, dx, [], rfl, by rw [L2.upd_ne ndp.symm]; exact hp, B.cl, B.nW, by decide, ?_⟩
    rw [e0]
    have keep : ∀ b o i, b ≠ p → H b = some o → (upd (upd H p (.ins C dx (bF d))) d (.dT (iv (mkTo rows i)))) b = some o := fun b o i n h => by
      rw [L2.upd_ne (ne_of_none h hd), L2.upd_ne n]; exact h
    have nrp : r ≠ p := ne_of hr2 hp (fun z => nomatch z)
    refine ⟨_, rfl, r, rfl, ⟨_, SqL.of (keep r _ 0 nrp hr2)⟩, for_list (xs := ts.map V.ref) (fun i σ H2 => (∃ u v, σ = [some (.ref p), some (.ref r), u, v]) ∧ H2 = upd (upd H p (.ins C dx (bF d))) d (.dT (iv (mkTo rows i))))
      ⟨⟨_, _, rfl⟩, rfl⟩ (fun i σ H2 _ ⟨_, e⟩ => by rw [e]; exact SqL.of (keep r _ i nrp hr2)) ?_ ?_⟩
    · rintro i x σ H2 hx ⟨⟨u, v, rfl⟩, rfl⟩
      obtain ⟨t, ht, rfl⟩ := map_ref_at hx
      obtain ⟨pr, q, hi, hT, hK⟩ := pairs_at hps ht
      refine ⟨t, _, rfl, SqT.of (keep t _ i (ne_of hT hp (fun z => nomatch z)) hT), rfl, _, _, rfl, _, _, rfl, rfl, ?_⟩
      refine ⟨_, rfl, p, dx, _, rfl, by rw [L2.upd_ne ndp.symm, upd_same], bF_m (by decide +kernel), _, rfl, _, rfl, ?_⟩
      refine add_raw (dx := dx) (ws := mkTo rows i) (k := pr.1) (by rw [L2.upd_ne ndp.symm, upd_same]) upd_same (keep q _ i (ne_of hK hp (fun z => nomatch z)) hK) ?_ ⟨⟨_, _, rfl⟩, ?_⟩
      · have h1 := mk_len (rows.take i)
        have h2 : (rows.take i).length ≤ rows.length := by rw [List.length_take]; omega
        exact Nat.le_trans h1 (Nat.le_trans h2 hl)
      · rw [upd2, mkTo_succ hi]
    · rintro σ H2 ⟨⟨u, v, rfl⟩, rfl⟩
      have e : mkTo rows (ts.map V.ref).length = mk rows := by
        unfold mkTo
        rw [List.length_map, pairs_len hps, List.take_length]
      rw [e]
      exact fin d hd ndp
end
end KM
set_option Elab.async false
set_option linter.all false
set_option maxRecDepth 100000
set_option maxHeartbeats 4000000
namespace KM
open PySem PySem.Spec PyProof.Rows L2 KB KC KS RZ
def BagD (C : Addr) (H : Hp) (a d : Addr) (ws : W) : Prop := ∃ dx, H a = some (.ins C dx (bF d)) ∧ H d = some (.dT (iv ws))
theorem BagD.ex {C : Addr} {H H' : Hp} {a d : Addr} {ws : W} (b : BagD C H a d ws) (e : Ex H H') : BagD C H' a d ws := let ⟨dx, h1, h2⟩ := b; ⟨dx, e _ _ h1, e _ _ h2⟩
section
variable {P : Program} {w : World} {K : PySem.W.Frag} {mg : Str → Option Value} {base : Heap} {C f fA fI fW : Addr} {fd fdA fdI fdW : FuncData} {r0 : Addr}
theorem ok_init0 (F : FnP K "__init__" "Bag.__init__" (sM 0) [.ref r0] f fd) (B : TxtB K mg C) (FA : FnP K "add" "Bag.add" (sM 1) [.int 1] fA fdA) (mA : Meth K C "add" fA) : FnOk P w K mg base CX0 2 f fd ["self", "rows"] (spInit0 K C) := by
  have GA : FnOk P w K mg base CX0 1 fA fdA ["self", "row", "weight"] (spAdd C) := ok_add FA B
  have bA := bindsAdd FA
  refine F.ok scInit (fun vs H Q E h => ?_) (fun cdv A outer s H vs Q E hr h => ?_)
  · unfold spInit0 at h
    obtain ⟨_, _, _, rfl, _⟩ := h; rfl
  · unfold spInit0 at h
    obtain ⟨p, dx, r, rfl, hp, hr2, fin⟩ := h
    refine ⟨_, PSs.nox <| pss_cons (ps_fld (pv 0) pe_dnewT rfl)
      (pss_one (ps_for PassesOwn.never rfl (pi_tup (pv 1)) (pg_tup rfl (pgs_cons (pg_name (i := 2) scInit.nd rfl (Or.inl rfl)) (pgs_cons (pg_name (i := 3) scInit.nd rfl (Or.inl rfl)) pgs_nil)))
        (pss_one (ps_expr (pe_meth (pv 0) B.cl mA GA hr bA .nil pass0 (pa_cons (pv 2) (pa_cons (pv 3) pa_nil))))))), ?_⟩
    intro d hd
    have ndp : d ≠ p := fun e => by rw [e, hp] at hd; cases hd
    have e0 : upd (upd H d (.dT [])) p (.ins C dx (putF "weights" (.ref d) [])) = upd (upd H p (.ins C dx (bF d))) d (.dT (iv [])) := upd_comm ndp
    refine ⟨_, rfl, p, C, dx, [], rfl, by rw [L2.upd_ne ndp.symm]; exact hp, B.cl, B.nW, by decide, ?_⟩
    rw [e0]
    have hT : SqT K (upd (upd H p (.ins C dx (bF d))) d (.dT (iv []))) r [] := by
      rcases hr2 with h | h
      · rcases h with h | ⟨o, h⟩
        · exact .inl (.inl (by rw [L2.upd_ne (ne_of_none h hd), L2.upd_ne (ne_of h hp (fun z => nomatch z))]; exact h))
        · exact .inl (.inr ⟨o, by rw [L2.upd_ne (ne_of_none h hd), L2.upd_ne (ne_of h hp (fun z => nomatch z))]; exact h⟩)
      · exact .inr h
    refine ⟨_, rfl, r, rfl, ⟨_, hT⟩, for_tup (xs := []) (fun i σ H2 => (∃ u v, σ = [some (.ref p), some (.ref r), u, v]) ∧ H2 = upd (upd H p (.ins C dx (bF d))) d (.dT (iv [])))
      ⟨⟨_, _, rfl⟩, rfl⟩ (fun i σ H2 _ ⟨_, e⟩ => by rw [e]; exact hT) (fun i x σ H2 hx => by cases hx) ?_⟩
    rintro σ H2 ⟨⟨u, v, rfl⟩, rfl⟩
    exact fin d hd ndp
@[irreducible] def spWeight (C : Addr) : Sp := fun vs H Q _ => ∃ (a d q : Addr) (ws : W) (k : Row), vs = [.ref a, .ref q] ∧ BagD C H a d ws ∧ H q = some (.tup (k.map kV)) ∧ Q (.int ((look ws k).getD 0)) H
theorem scWeight : FnScope ["self", "row"] ["self", "row"] (defScope (sM 2)) := ⟨rfl, rfl, rfl, by decide +kernel, rfl, by decide +kernel, by decide +kernel⟩
theorem ok_weight (F : FnP K "weight" "Bag.weight" (sM 2) [] f fd) (B : TxtB K mg C) : FnOk P w K mg base CX0 1 f fd ["self", "row"] (spWeight C) := by
  refine F.ok scWeight (fun vs H Q E h => ?_) (fun cdv A outer s H vs Q E hr h => ?_)
  · unfold spWeight at h
    obtain ⟨_, _, _, _, _, rfl, _⟩ := h; rfl
  · unfold spWeight at h
    obtain ⟨a, d, q, ws, k, rfl, ⟨dx, ha, hd⟩, hq, fin⟩ := h
    have hu := hr.units
    have hu1 := Nat.lt_trans (Nat.add_lt_add_left (by decide : 1 < 64) _) hu
    refine ⟨_, PSs.nox <| pss_one (ps_ret (pe_dget2 hu1 (pe_fld (pv 0) rfl) (pv 1) pe_int ⟨rfl, rfl, rfl, rfl⟩)), ?_⟩
    refine ⟨_, rfl, a, C, dx, _, _, rfl, ha, B.cl, B.nW, bF_w d, _, rfl, .inr ⟨_, .inl hd⟩, _, rfl, _, DGet.t hd hq, ?_⟩
    rw [getD_iv]
    exact fin
@[irreducible] def spWeighted (C : Addr) : Sp := fun vs H Q _ => ∃ (a d : Addr) (ws : W), vs = [.ref a] ∧ BagD C H a d ws ∧ ∀ H' l ts, Ex H H' → H' l = some (.lst (ts.map V.ref)) → PairsOf H' ts (iv ws) → Q (.ref l) H'
theorem scWeighted : FnScope ["self"] ["self"] (defScope (sM 4)) := ⟨rfl, rfl, rfl, by decide +kernel, rfl, by decide +kernel, by decide +kernel⟩
theorem ok_weighted (F : FnP K "weighted" "Bag.weighted" (sM 4) [] f fd) (B : TxtB K mg C) (T : TxtL mg) : FnOk P w K mg base CX0 1 f fd ["self"] (spWeighted C) := by
  refine F.ok scWeighted (fun vs H Q E h => ?_) (fun cdv A outer s H vs Q E hr h => ?_)
  · unfold spWeighted at h
    obtain ⟨_, _, _, rfl, _⟩ := h; rfl
  · unfold spWeighted at h
    obtain ⟨a, d, ws, rfl, ⟨dx, ha, hd⟩, fin⟩ := h
    refine ⟨_, PSs.nox <| pss_one (ps_ret (pe_callTy (cr_listItT rfl) (by rfl) T.list (by decide +kernel) (pa_cons (pe_bm0 PySem.F.plainAttrs_dict PySem.F.slot_dict_items PySem.F.type_dict_items L2.DX.mt_itemsT (pe_fld (pv 0) rfl)) pa_nil))), ?_⟩
    refine ⟨_, rfl, a, C, dx, _, _, rfl, ha, B.cl, B.nW, bF_w d, ?_⟩
    exact ⟨.inr (.inr (.inl ⟨rfl, .inr ⟨_, hd⟩⟩)), d, _, rfl, rfl, hd, fun p hp => ⟨p, d, _, rfl, upd_same, by rw [L2.upd_ne (ne_of_none hd hp)]; exact hd, fun H' l ts e n hl hps => fin H' l ts ((Ex.upd hp).trans e) hl hps⟩⟩
theorem weighted_step {C : Addr} {H : Hp} {a d : Addr} {ws : W} {Q : VK} {E : XK} (b : BagD C H a d ws) (q : ∀ H' l ts, Ex H H' → H' l = some (.lst (ts.map V.ref)) → PairsOf H' ts (iv ws) → Q (.ref l) H') : spWeighted C [.ref a] H Q E := by
  unfold spWeighted
  exact ⟨a, d, ws, rfl, b, q⟩
theorem weight_step {C : Addr} {H : Hp} {a d p : Addr} {ws : W} {k : Row} {Q : VK} {E : XK} (b : BagD C H a d ws) (h : H p = some (.tup (k.map kV))) (q : Q (.int ((look ws k).getD 0)) H) : spWeight C [.ref a, .ref p] H Q E := by
  unfold spWeight
  exact ⟨a, d, p, ws, k, rfl, b, h, q⟩
theorem init_step {C : Addr} {H1 : Hp} {r : Addr} {ts : List Addr} {rows : W} {Q : VK} {E : XK} (h : H1 r = some (.lst (ts.map V.ref))) (hp : PairsOf H1 ts (iv rows)) (hl : rows.length ≤ 1000)
    (q : ∀ H' x d, Ex H1 H' → H1 d = none → BagD C H' x d (mk rows) → Q (.ref x) H') (x dx : Addr) (hx : H1 x = none) (hdx : H1 dx = none) (n : dx ≠ x) :
    spInit C [.ref x, .ref r] (upd (upd H1 dx (.own x)) x (.ins C dx [])) (fun v H2 => v = .non ∧ Q (.ref x) H2) E := by
  have ex : Ex H1 (upd (upd H1 dx (.own x)) x (.ins C dx [])) := Ex.on (Ex.upd hdx) hx
  unfold spInit
  refine ⟨x, dx, r, ts, rows, rfl, upd_same, ex _ _ h, PairsOf.ex hp (fun b xs e => ex _ _ e), hl, fun d hd nd => ⟨rfl, q _ x d ?_ ?_ ⟨dx, ?_, upd_same⟩⟩⟩
  · have hd2 : H1 d = none := by
      by_cases e : d = dx
      · rw [e, L2.upd_ne n, upd_same] at hd; cases hd
      · rw [L2.upd_ne nd, L2.upd_ne e] at hd; exact hd
    exact Ex.on (Ex.on ex hx) hd2
  · by_cases e : d = dx
    · rw [e, L2.upd_ne n, upd_same] at hd; cases hd
    · rw [L2.upd_ne nd, L2.upd_ne e] at hd; exact hd
  · rw [L2.upd_ne nd.symm, upd_same]
theorem init0_step {K : PySem.W.Frag} {C : Addr} {H1 : Hp} {r : Addr} {Q : VK} {E : XK} (h : SqT K H1 r [])
    (q : ∀ H' x d, Ex H1 H' → H1 d = none → BagD C H' x d [] → Q (.ref x) H') (x dx : Addr) (hx : H1 x = none) (hdx : H1 dx = none) (n : dx ≠ x) :
    spInit0 K C [.ref x, .ref r] (upd (upd H1 dx (.own x)) x (.ins C dx [])) (fun v H2 => v = .non ∧ Q (.ref x) H2) E := by
  have ex : Ex H1 (upd (upd H1 dx (.own x)) x (.ins C dx [])) := Ex.on (Ex.upd hdx) hx
  have hT : SqT K (upd (upd H1 dx (.own x)) x (.ins C dx [])) r [] := h.elim (fun h => .inl (Ex.rd ex h)) .inr
  unfold spInit0
  refine ⟨x, dx, r, rfl, upd_same, hT, fun d hd nd => ⟨rfl, q _ x d ?_ ?_ ⟨dx, ?_, upd_same⟩⟩⟩
  · have hd2 : H1 d = none := by
      by_cases e : d = dx
      · rw [e, L2.upd_ne n, upd_same] at hd; cases hd
      · rw [L2.upd_ne nd, L2.upd_ne e] at hd; exact hd
    exact Ex.on (Ex.on ex hx) hd2
  · by_cases e : d = dx
    · rw [e, L2.upd_ne n, upd_same] at hd; cases hd
    · rw [L2.upd_ne nd, L2.upd_ne e] at hd; exact hd
  · rw [L2.upd_ne nd.symm, upd_same]
structure TxtM (K : PySem.W.Frag) (mg : Str → Option Value) (C fI : Addr) (fdI : FuncData) (r0 fA : Addr) (fdA : FuncData) : Prop where
  B : TxtB K mg C
  I : FnP K "__init__" "Bag.__init__" (sM 0) [.ref r0] fI fdI
  mkI : Mk K C fI
  A : FnP K "add" "Bag.add" (sM 1) [.int 1] fA fdA
  mA : Meth K C "add" fA
theorem bindsI (FI : FnP K "__init__" "Bag.__init__" (sM 0) [.ref r0] fI fdI) : Binds K fdI ["self", "rows"] [] := by
  obtain ⟨ds, h1, h2⟩ := FI.binds1 (ps := ["self", "rows"]) 2 1 (by simp) rfl fun T kV doc pm an cdv ct us its h1 h2 => match us, its, h1, h2 with
    | [_, _], [_], _, _ => ⟨_, rfl, rfl⟩
  cases h1
  exact h2
theorem bindsI0 (FI : FnP K "__init__" "Bag.__init__" (sM 0) [.ref r0] fI fdI) : ∃ ds, Vals [.ref r0] ds ∧ Binds K fdI ["self", "rows"] ds :=
  FI.binds1 (ps := ["self", "rows"]) 1 0 (by simp) rfl fun T kV doc pm an cdv ct us its h1 h2 => match us, its, h1, h2 with
    | [_], [_], _, _ => ⟨_, rfl, rfl⟩
@[irreducible] def spPlus (C : Addr) : Sp := fun vs H Q _ => ∃ (a d a2 d2 : Addr) (ws ws2 : W), vs = [.ref a, .ref a2] ∧ BagD C H a d ws ∧ BagD C H a2 d2 ws2 ∧ ws.length + ws2.length ≤ 1000 ∧
  ∀ H' x d, Ex H H' → H d = none → BagD C H' x d (mk (ws ++ ws2)) → Q (.ref x) H'
theorem iv_append (a b : W) : iv (a ++ b) = iv a ++ iv b := List.map_append
theorem paired_append {α β : Type} {R : α → β → Prop} : ∀ {l l2 : List α} {m m2 : List β}, Paired R l m → Paired R l2 m2 → Paired R (l ++ l2) (m ++ m2)
  | _, _, _, _, Paired.nil, r => r
  | _, _, _, _, Paired.cons h t, r => Paired.cons h (paired_append t r)
theorem scPlus : FnScope ["self", "other"] ["self", "other"] (defScope (sM 5)) := ⟨rfl, rfl, rfl, by decide +kernel, rfl, by decide +kernel, by decide +kernel⟩
theorem ok_plus (F : FnP K "plus" "Bag.plus" (sM 5) [] f fd) (M : TxtM K mg C fI fdI r0 fA fdA) (T : TxtL mg) (FW : FnP K "weighted" "Bag.weighted" (sM 4) [] fW fdW) (mW : Meth K C "weighted" fW) :
    FnOk P w K mg base CX0 4 f fd ["self", "other"] (spPlus C) := by
  have GI : FnOk P w K mg base CX0 2 fI fdI ["self", "rows"] (spInit C) := ok_init M.I M.B M.A M.mA
  have GW : FnOk P w K mg base CX0 1 fW fdW ["self"] (spWeighted C) := ok_weighted FW M.B T
  have bW : Binds K fdW ["self"] [] := FW.bindsN fun _ _ _ _ _ _ us hl => match us, hl with | [_], _ => rfl
  refine F.ok scPlus (fun vs H Q E h => ?_) (fun cdv A outer s H vs Q E hr h => ?_)
  · unfold spPlus at h
    obtain ⟨_, _, _, _, _, _, rfl, _⟩ := h; rfl
  · unfold spPlus at h
    obtain ⟨a, d, a2, d2, ws, ws2, rfl, b1, b2, hl, fin⟩ := h
    refine ⟨_, PSs.nox <| pss_one (ps_ret (pe_make M.mkI GI hr (by rfl) M.B.gC (bindsI M.I) .nil pass0 (pa_cons (pe_op op_cat (pe_meth0 (pv 0) M.B.cl mW GW (hr.mono (by decide)) bW .nil pass0) (pe_meth0 (pv 1) M.B.cl mW GW (hr.mono (by decide)) bW .nil pass0)) pa_nil))), ?_⟩
    obtain ⟨dx, ha, hd⟩ := id b1
    obtain ⟨dx2, ha2, hd2⟩ := id b2
    refine ⟨_, rfl, a, dx, _, rfl, ha, bF_m (by decide +kernel), weighted_step b1 fun H1 l ts e1 hl1 hp1 => ⟨_, rfl, a2, dx2, _, rfl, e1 _ _ ha2, bF_m (by decide +kernel), weighted_step (b2.ex e1) fun H2 l2 ts2 e2 hl2 hp2 => ?_⟩⟩
    have n1 := pairs_len hp1
    have n2 := pairs_len hp2
    refine ⟨l, l2, _, _, rfl, rfl, e2 _ _ hl1, hl2, ?_, fun p hp => init_step (ts := ts ++ ts2) (rows := ws ++ ws2) ?_ ?_ ?_ fun H' x d e n b => fin H' x d ((e1.trans e2).trans ((Ex.upd hp).trans e)) ?_ b⟩
    · rw [List.length_map, List.length_map, n1, n2]
      have : sizeLine = 16777216 := rfl
      omega
    · rw [upd_same, List.map_append]
    · rw [iv_append]
      refine paired_append (PairsOf.ex hp1 fun b xs h => ?_) (PairsOf.ex hp2 fun b xs h => Ex.upd hp b _ h)
      exact Ex.upd hp b _ (e2 b _ h)
    · rw [List.length_append]; exact hl
    · cases z : H d with
      | none => rfl
      | some u =>
        have := Ex.upd (o := .lst (ts.map V.ref ++ ts2.map V.ref)) hp d u (e2 d u (e1 d u z))
        rw [this] at n; cases n
end
end KM
set_option Elab.async false
set_option linter.all false
set_option maxRecDepth 100000
set_option maxHeartbeats 4000000
namespace KM
open PySem PySem.Spec PyProof.Rows L2 KB KC KS RZ
theorem filterMap_snoc {α β : Type} {G : α → Option β} {l : List α} {i : Nat} {x : α} (h : l[i]? = some x) : (l.take (i + 1)).filterMap G = (l.take i).filterMap G ++ (match G x with | some y => [y] | none => []) := by
  rw [take_snoc h, List.filterMap_append, List.filterMap_cons]
  cases G x <;> rfl
theorem lcP {K : PySem.W.Frag} {a D : Addr} {ts : List Addr} {ws : W} {H1 : Hp} {g : TG} {tt : TT} {te : TE} {vs : List Nat} {σ : L2.St} {Qd : Hp → Prop} (G : Row × Int → Option (Row × Int)) (hl : H1 a = some (.lst (ts.map V.ref))) (hp : PairsOf H1 ts (iv ws)) (hz : ws.length ≤ 1000) (hD : H1 D = none)
    (turn : ∀ (p : Row × Int) (t q : Addr) (H2 : Hp) (R : V → Hp → Prop) (R' : Hp → Prop), Ex H1 H2 → p ∈ ws → H2 t = some (.tup [.ref q, .int p.2]) → H2 q = some (.tup (p.1.map kV)) → (G p = none → R' H2) →
      (∀ (p' : Row × Int) (y q' : Addr) (H4 : Hp), G p = some p' → Ex H2 H4 → H4 y = some (.tup [.ref q', .int p'.2]) → H4 q' = some (.tup (p'.1.map kV)) → R (.ref y) H4) →
      g (.ref t) (wipe σ vs) H2 fun σ2 H3 => wipe σ2 vs = wipe σ vs ∧ tt σ2 H3 fun b H3 => if b = true then te σ2 H3 R else R' H3)
    (fin : ∀ (H2 : Hp) (us : List Addr), Ex H1 H2 → H2 D = some (.lst (us.map V.ref)) → PairsOf H2 us (iv (ws.filterMap G)) → Qd H2) :
    ∃ W : Nat → Nat → Hp → Prop, (∃ m, W 0 m (upd H1 D (.lst []))) ∧ ∀ i m H, W i m H →
      ((Itl K a).stop i H ∧ Qd H) ∨ ((Itl K a).go i H ∧ ∃ Nx : Hp → Prop, (∀ H', Nx H' → ∃ m', m' < m ∧ W (i + 1) m' H') ∧ ∀ x H', (Itl K a).yld i H x H' → g x (wipe σ vs) H' fun σ2 H2 => wipe σ2 vs = wipe σ vs ∧ tt σ2 H2 fun b H3 =>
        if b = true then te σ2 H3 fun y H4 => ∃ acc, H4 D = some (.lst acc) ∧ acc.length < sizeLine ∧ Nx (upd H4 D (.lst (acc ++ [y]))) else Nx H3) := by
  refine lc_list (K := K) (a := a) (xs := ts.map V.ref) (fun i H2 => Ex H1 H2 ∧ ∃ us, H2 D = some (.lst (us.map V.ref)) ∧ PairsOf H2 us (iv ((ws.take i).filterMap G))) ?_ ?_ ?_ ?_
  · exact ⟨Ex.upd hD, [], upd_same, Paired.nil⟩
  · rintro i H2 _ ⟨e, _⟩
    exact SqL.of (e _ _ hl)
  · rintro i x H2 hx ⟨e2, us, hu, hps⟩
    obtain ⟨t, ht, rfl⟩ := map_ref_at hx
    obtain ⟨p, q, hi, hT, hK⟩ := pairs_at hp ht
    have hpm := List.mem_of_getElem? hi
    have hnew := filterMap_snoc (G := G) hi
    refine turn p t q H2 (fun y H4 => ∃ acc, H4 D = some (.lst acc) ∧ acc.length < sizeLine ∧ Ex H1 (upd H4 D (.lst (acc ++ [y]))) ∧ ∃ us, (upd H4 D (.lst (acc ++ [y]))) D = some (.lst (us.map V.ref)) ∧ PairsOf (upd H4 D (.lst (acc ++ [y]))) us (iv ((ws.take (i + 1)).filterMap G)))
      (fun H3 => Ex H1 H3 ∧ ∃ us, H3 D = some (.lst (us.map V.ref)) ∧ PairsOf H3 us (iv ((ws.take (i + 1)).filterMap G))) e2 hpm (e2 _ _ hT) (e2 _ _ hK) (fun hn => ?_) (fun p' y q' H4 hg e4 h1 h2 => ?_)
    · rw [hnew, hn]
      exact ⟨e2, us, hu, by simpa using hps⟩
    · rw [hg] at hnew
      have hu4 := e4 _ _ hu
      have keepT : ∀ b xs, H4 b = some (.tup xs) → (upd H4 D (.lst (us.map V.ref ++ [.ref y]))) b = some (.tup xs) := fun b xs h => by
        rw [L2.upd_ne (fun z => by rw [z, hu4] at h; cases h)]; exact h
      refine ⟨us.map V.ref, hu4, ?_, Ex.on (e2.trans e4) hD, us ++ [y], ?_, ?_⟩
      · have l1 := pairs_len hps
        have l2 := List.length_filterMap_le G (ws.take i)
        rw [List.length_map, l1]
        rw [List.length_take] at l2
        have : sizeLine = 16777216 := rfl
        omega
      · rw [upd_same, List.map_append]; rfl
      · rw [hnew, iv_append]
        exact paired_snoc (PairsOf.ex hps fun b xs h => keepT b xs (e4 b _ h)) ⟨q', keepT _ _ h1, keepT _ _ h2⟩
  · rintro H2 ⟨e2, us, hu, hps⟩
    rw [List.length_map, pairs_len hp, List.take_length] at hps
    exact fin H2 us e2 hu hps
theorem filterMap_scale (ws : W) (n : Int) : ws.filterMap (fun p => some (p.1, p.2 * n)) = scale ws n := by
  unfold scale
  rw [← List.filterMap_eq_map]
  rfl
def onceW (ws : W) : W := ws.filterMap fun p => if 0 < p.2 then some (p.1, 1) else none
section
variable {P : Program} {w : World} {K : PySem.W.Frag} {mg : Str → Option Value} {base : Heap} {C f fA fI fW fP fT : Addr} {fd fdA fdI fdW fdP fdT : FuncData} {r0 : Addr}
@[irreducible] def spTimes (C : Addr) : Sp := fun vs H Q _ => ∃ (a d : Addr) (ws : W) (n : Int), vs = [.ref a, .int n] ∧ BagD C H a d ws ∧ ws.length ≤ 1000 ∧ -100 ≤ n ∧ n ≤ 100 ∧
  ∀ H' x d, Ex H H' → H d = none → BagD C H' x d (mk (scale ws n)) → Q (.ref x) H'
abbrev nTimes : List Str := ["self", "number", "row", "weight"]
theorem scTimes : FnScope nTimes ["self", "number"] (defScope (sM 6)) := ⟨rfl, rfl, rfl, by decide +kernel, rfl, by decide +kernel, by decide +kernel⟩
theorem ok_times (F : FnP K "times" "Bag.times" (sM 6) [] f fd) (M : TxtM K mg C fI fdI r0 fA fdA) (T : TxtL mg) (FW : FnP K "weighted" "Bag.weighted" (sM 4) [] fW fdW) (mW : Meth K C "weighted" fW) :
    FnOk P w K mg base CX0 4 f fd ["self", "number"] (spTimes C) := by
  have GI : FnOk P w K mg base CX0 2 fI fdI ["self", "rows"] (spInit C) := ok_init M.I M.B M.A M.mA
  have GW : FnOk P w K mg base CX0 1 fW fdW ["self"] (spWeighted C) := ok_weighted FW M.B T
  have bW : Binds K fdW ["self"] [] := FW.bindsN fun _ _ _ _ _ _ us hl => match us, hl with | [_], _ => rfl
  refine F.ok scTimes (fun vs H Q E h => ?_) (fun cdv A outer s H vs Q E hr h => ?_)
  · unfold spTimes at h
    obtain ⟨_, _, _, _, rfl, _⟩ := h; rfl
  · unfold spTimes at h
    obtain ⟨a, d, ws, n, rfl, b1, hl, hn1, hn2, fin⟩ := h
    refine ⟨_, PSs.nox <| pss_one (ps_ret (pe_make M.mkI GI hr (by rfl) M.B.gC (bindsI M.I) .nil pass0 (pa_cons (pe_lc (own := [("row", 2), ("weight", 3)]) (g := gTup K 2 (gCons (gName 2) (gCons (gName 3) gNil))) (tt := tYes) rfl scTimes.nd (pi_list (pe_meth0 (pv 0) M.B.cl mW GW (hr.mono (by decide)) bW .nil pass0)) (blkOk_by (N := nTimes) (sc := defScope (sM 6)) (by decide +kernel))
        (fun _ _ _ _ _ => pg_tup rfl (pgs_cons (pg_name (i := 2) scTimes.nd rfl (Or.inl rfl)) (pgs_cons (pg_name (i := 3) scTimes.nd rfl (Or.inl rfl)) pgs_nil))) (fun _ _ _ _ _ => pts_nil)
        (fun _ _ _ _ _ => pe_tup (pa_cons (pv 2) (pa_cons (pe_op op_mul (pv 3) (pv 1)) pa_nil)))) pa_nil))), ?_⟩
    obtain ⟨dx, ha, hd⟩ := id b1
    refine ⟨_, rfl, a, dx, _, rfl, ha, bF_m (by decide +kernel), weighted_step b1 fun H1 l ts e1 hl1 hp1 => ⟨l, rfl, ⟨_, SqL.of hl1⟩, fun D hD => lcP (fun p => some (p.1, p.2 * n)) hl1 hp1 hl hD ?_ ?_⟩⟩
    · intro p t q H2 R R' e2 _ hT hK _ yes
      refine ⟨t, _, rfl, SqT.of hT, rfl, _, _, rfl, _, _, rfl, rfl, rfl, ?_⟩
      refine ⟨_, rfl, _, rfl, _, rfl, _, _, rfl, rfl, .inr ⟨by omega, by omega⟩, (by show 2 ≤ sizeLine; decide), fun y hy => ?_⟩
      exact yes _ y q _ rfl (Ex.upd hy) upd_same (Ex.upd hy _ _ hK)
    · intro H2 us e2 hu hps
      rw [filterMap_scale] at hps
      refine init_step hu hps (by unfold scale; rw [List.length_map]; exact hl) fun H' x d e n b => fin H' x d ((e1.trans e2).trans e) ?_ b
      cases z : H d with
      | none => rfl
      | some u =>
        rw [e2 d u (e1 d u z)] at n; cases n
@[irreducible] def spOnce (C : Addr) : Sp := fun vs H Q _ => ∃ (a d : Addr) (ws : W), vs = [.ref a] ∧ BagD C H a d ws ∧ ws.length ≤ 1000 ∧
  ∀ H' x d, Ex H H' → H d = none → BagD C H' x d (mk (onceW ws)) → Q (.ref x) H'
abbrev nOnce : List Str := ["self", "row", "weight"]
theorem scOnce : FnScope nOnce ["self"] (defScope (sM 8)) := ⟨rfl, rfl, rfl, by decide +kernel, rfl, by decide +kernel, by decide +kernel⟩
theorem ok_once (F : FnP K "once" "Bag.once" (sM 8) [] f fd) (M : TxtM K mg C fI fdI r0 fA fdA) (T : TxtL mg) (FW : FnP K "weighted" "Bag.weighted" (sM 4) [] fW fdW) (mW : Meth K C "weighted" fW) :
    FnOk P w K mg base CX0 4 f fd ["self"] (spOnce C) := by
  have GI : FnOk P w K mg base CX0 2 fI fdI ["self", "rows"] (spInit C) := ok_init M.I M.B M.A M.mA
  have GW : FnOk P w K mg base CX0 1 fW fdW ["self"] (spWeighted C) := ok_weighted FW M.B T
  have bW : Binds K fdW ["self"] [] := FW.bindsN fun _ _ _ _ _ _ us hl => match us, hl with | [_], _ => rfl
  refine F.ok scOnce (fun vs H Q E h => ?_) (fun cdv A outer s H vs Q E hr h => ?_)
  · unfold spOnce at h
    obtain ⟨_, _, _, rfl, _⟩ := h; rfl
  · unfold spOnce at h
    obtain ⟨a, d, ws, rfl, b1, hl, fin⟩ := h
    refine ⟨_, PSs.nox <| pss_one (ps_ret (pe_make M.mkI GI hr (by rfl) M.B.gC (bindsI M.I) .nil pass0 (pa_cons (pe_lc (own := [("row", 1), ("weight", 2)]) (g := gTup K 2 (gCons (gName 1) (gCons (gName 2) gNil))) rfl scOnce.nd (pi_list (pe_meth0 (pv 0) M.B.cl mW GW (hr.mono (by decide)) bW .nil pass0)) (blkOk_by (N := nOnce) (sc := defScope (sM 8)) (by decide +kernel))
        (fun _ _ _ _ _ => pg_tup rfl (pgs_cons (pg_name (i := 1) scOnce.nd rfl (Or.inl rfl)) (pgs_cons (pg_name (i := 2) scOnce.nd rfl (Or.inl rfl)) pgs_nil))) (fun _ _ _ _ _ => pts_one (pt_cmpR op_gt (pv 2) pe_int (nomark _)))
        (fun _ _ _ _ _ => pe_tup (pa_cons (pv 1) (pa_cons pe_int pa_nil)))) pa_nil))), ?_⟩
    obtain ⟨dx, ha, hd⟩ := id b1
    refine ⟨_, rfl, a, dx, _, rfl, ha, bF_m (by decide +kernel), weighted_step b1 fun H1 l ts e1 hl1 hp1 => ⟨l, rfl, ⟨_, SqL.of hl1⟩, fun D hD => lcP (fun p => if 0 < p.2 then some (p.1, 1) else none) hl1 hp1 hl hD ?_ ?_⟩⟩
    · intro p t q H2 R R' e2 _ hT hK no yes
      refine ⟨t, _, rfl, SqT.of hT, rfl, _, _, rfl, _, _, rfl, rfl, rfl, ?_⟩
      refine ⟨_, rfl, _, _, rfl, rfl, _, rfl, ?_⟩
      by_cases c : 0 < p.2
      · refine ifT (decide_eq_true c) ⟨_, rfl, (by show 2 ≤ sizeLine; decide), fun y hy => ?_⟩
        exact yes (p.1, 1) y q _ (if_pos c) (Ex.upd hy) upd_same (Ex.upd hy _ _ hK)
      · exact ifF (by simp [c]) (no (if_neg c))
    · intro H2 us e2 hu hps
      refine init_step hu hps (Nat.le_trans (List.length_filterMap_le _ _) hl) fun H' x d e n b => fin H' x d ((e1.trans e2).trans e) ?_ b
      cases z : H d with
      | none => rfl
      | some u =>
        rw [e2 d u (e1 d u z)] at n; cases n
end
end KM
set_option Elab.async false
set_option linter.all false
set_option maxRecDepth 100000
set_option maxHeartbeats 4000000
namespace KM
open PySem PySem.Spec PyProof.Rows L2 KB KC KS RZ
theorem plus_step {C : Addr} {H : Hp} {a d a2 d2 : Addr} {ws ws2 : W} {Q : VK} {E : XK} (b : BagD C H a d ws) (b2 : BagD C H a2 d2 ws2) (hl : ws.length + ws2.length ≤ 1000)
    (q : ∀ H' x d, Ex H H' → H d = none → BagD C H' x d (mk (ws ++ ws2)) → Q (.ref x) H') : spPlus C [.ref a, .ref a2] H Q E := by
  unfold spPlus
  exact ⟨a, d, a2, d2, ws, ws2, rfl, b, b2, hl, q⟩
theorem times_step {C : Addr} {H : Hp} {a d : Addr} {ws : W} {n : Int} {Q : VK} {E : XK} (b : BagD C H a d ws) (hl : ws.length ≤ 1000) (h1 : -100 ≤ n) (h2 : n ≤ 100)
    (q : ∀ H' x d, Ex H H' → H d = none → BagD C H' x d (mk (scale ws n)) → Q (.ref x) H') : spTimes C [.ref a, .int n] H Q E := by
  unfold spTimes
  exact ⟨a, d, ws, n, rfl, b, hl, h1, h2, q⟩
theorem once_step {C : Addr} {H : Hp} {a d : Addr} {ws : W} {Q : VK} {E : XK} (b : BagD C H a d ws) (hl : ws.length ≤ 1000)
    (q : ∀ H' x d, Ex H H' → H d = none → BagD C H' x d (mk (onceW ws)) → Q (.ref x) H') : spOnce C [.ref a] H Q E := by
  unfold spOnce
  exact ⟨a, d, ws, rfl, b, hl, q⟩
theorem exNone {H H' : Hp} {a : Addr} (e : Ex H H') (n : H' a = none) : H a = none := by
  cases z : H a with
  | none => rfl
  | some u => rw [e a u z] at n; cases n
section
variable {P : Program} {w : World} {K : PySem.W.Frag} {mg : Str → Option Value} {base : Heap} {C f fA fI fW fP fT fV : Addr} {fd fdA fdI fdW fdP fdT fdV : FuncData} {r0 : Addr}
@[irreducible] def spMinus (C : Addr) : Sp := fun vs H Q _ => ∃ (a d a2 d2 : Addr) (ws ws2 : W), vs = [.ref a, .ref a2] ∧ BagD C H a d ws ∧ BagD C H a2 d2 ws2 ∧ ws.length + ws2.length ≤ 1000 ∧
  ∀ H' x d, Ex H H' → H d = none → BagD C H' x d (mk (ws ++ mk (scale ws2 (-1)))) → Q (.ref x) H'
theorem scMinus : FnScope ["self", "other"] ["self", "other"] (defScope (sM 7)) := ⟨rfl, rfl, rfl, by decide +kernel, rfl, by decide +kernel, by decide +kernel⟩
theorem ok_minus (F : FnP K "minus" "Bag.minus" (sM 7) [] f fd) (M : TxtM K mg C fI fdI r0 fA fdA) (T : TxtL mg) (FW : FnP K "weighted" "Bag.weighted" (sM 4) [] fW fdW) (mW : Meth K C "weighted" fW)
    (FP : FnP K "plus" "Bag.plus" (sM 5) [] fP fdP) (mP : Meth K C "plus" fP) (FT : FnP K "times" "Bag.times" (sM 6) [] fT fdT) (mT : Meth K C "times" fT) :
    FnOk P w K mg base CX0 5 f fd ["self", "other"] (spMinus C) := by
  have GP : FnOk P w K mg base CX0 4 fP fdP ["self", "other"] (spPlus C) := ok_plus FP M T FW mW
  have GT : FnOk P w K mg base CX0 4 fT fdT ["self", "number"] (spTimes C) := ok_times FT M T FW mW
  have bP : Binds K fdP ["self", "other"] [] := FP.bindsN fun _ _ _ _ _ _ us hl => match us, hl with | [_, _], _ => rfl
  have bT : Binds K fdT ["self", "number"] [] := FT.bindsN fun _ _ _ _ _ _ us hl => match us, hl with | [_, _], _ => rfl
  refine F.ok scMinus (fun vs H Q E h => ?_) (fun cdv A outer s H vs Q E hr h => ?_)
  · unfold spMinus at h
    obtain ⟨_, _, _, _, _, _, rfl, _⟩ := h; rfl
  · unfold spMinus at h
    obtain ⟨a, d, a2, d2, ws, ws2, rfl, b1, b2, hl, fin⟩ := h
    refine ⟨_, PSs.nox <| pss_one (ps_ret (pe_meth (pv 0) M.B.cl mP GP hr bP .nil pass0 (pa_cons (pe_meth (pv 1) M.B.cl mT GT hr bT .nil pass0 (pa_cons (pe_un un_neg pe_int) pa_nil)) pa_nil))), ?_⟩
    obtain ⟨dx, ha, hd⟩ := id b1
    obtain ⟨dx2, ha2, hd2⟩ := id b2
    refine ⟨_, rfl, a, dx, _, rfl, ha, bF_m (by decide +kernel), _, rfl, a2, dx2, _, rfl, ha2, bF_m (by decide +kernel), 1, rfl, times_step b2 (by omega) (by decide) (by decide) fun H1 x1 d1 e1 _ b3 => plus_step (b1.ex e1) b3 ?_ fun H' x d e n b => fin H' x d (e1.trans e) (exNone e1 n) b⟩
    have h1 := mk_len (scale ws2 (-1))
    have h2 : (scale ws2 (-1)).length = ws2.length := List.length_map ..
    show ws.length + (mk (scale ws2 (-1))).length ≤ 1000
    omega
@[irreducible] def spSame (C : Addr) : Sp := fun vs H Q _ => ∃ (a d a2 d2 : Addr) (ws ws2 : W), vs = [.ref a, .ref a2] ∧ BagD C H a d ws ∧ BagD C H a2 d2 ws2 ∧ Q (.bl (KB.eqT (iv ws) (iv ws2))) H
theorem scSame : FnScope ["one", "other"] ["one", "other"] (defScope sSame) := ⟨rfl, rfl, rfl, by decide +kernel, rfl, by decide +kernel, by decide +kernel⟩
theorem ok_same (F : FnP K "same_bags" "same_bags" sSame [] f fd) (B : TxtB K mg C) : FnOk P w K mg base CX0 1 f fd ["one", "other"] (spSame C) := by
  refine F.ok scSame (fun vs H Q E h => ?_) (fun cdv A outer s H vs Q E hr h => ?_)
  · unfold spSame at h
    obtain ⟨_, _, _, _, _, _, rfl, _⟩ := h; rfl
  · unfold spSame at h
    obtain ⟨a, d, a2, d2, ws, ws2, rfl, ⟨dx, ha, hd⟩, ⟨dx2, ha2, hd2⟩, fin⟩ := h
    have hu := hr.units
    have hu1 := Nat.lt_trans (Nat.add_lt_add_left (by decide : 1 < 64) _) hu
    refine ⟨_, PSs.nox <| pss_one (ps_ret (pe_cmpR (op_eqDT hu1) (pe_fld (pv 0) rfl) (pe_fld (pv 1) rfl) (nomark _))), ?_⟩
    exact ⟨_, rfl, a, C, dx, _, _, rfl, ha, B.cl, B.nW, bF_w d, _, rfl, a2, C, dx2, _, _, rfl, ha2, B.cl, B.nW, bF_w d2, d, d2, _, _, rfl, rfl, hd, hd2, intVals_iv _, intVals_iv _, fin⟩
@[irreducible] def spVRank : Sp := fun vs H Q _ => ∃ x : Key, vs = [kV x] ∧ ∀ p, H p = none → Q (.ref p) (upd H p (.tup [.int (if isT x = true then 1 else 0), kV x]))
theorem scVRank : FnScope ["value"] ["value"] (defScope sVRank) := ⟨rfl, rfl, rfl, by decide +kernel, rfl, by decide +kernel, by decide +kernel⟩
theorem ok_vrank (F : FnP K "value_rank" "value_rank" sVRank [] f fd) (T : TxtL mg) : FnOk P w K mg base CX0 1 f fd ["value"] spVRank := by
  refine F.ok scVRank (fun vs H Q E h => ?_) (fun cdv A outer s H vs Q E hr h => ?_)
  · unfold spVRank at h
    obtain ⟨_, rfl, _⟩ := h; rfl
  · unfold spVRank at h
    obtain ⟨x, rfl, fin⟩ := h
    refine ⟨_, PSs.nox <| pss_one (ps_ret (pe_tup (pa_cons (pe_ifExp (pt_val (pe_callB call_isiK (by rfl) T.isi PyProof.Rows.boot_isinstance (pa_cons (pv 0) (pa_cons (pe_bltn (v := .ty "str") (u := .type "str") (by rfl) T.str (by decide +kernel) rfl) pa_nil)))) pe_int pe_int) (pa_cons (pv 0) pa_nil)))), ?_⟩
    refine ⟨_, rfl, isi_kV _ _ _ _ ⟨_, rfl, ?_⟩⟩
    cases e : isT x with
    | true =>
      rw [e] at fin
      exact iteT ⟨_, rfl, (by show 2 ≤ sizeLine; decide), fun p hp => fin p hp⟩
    | false =>
      rw [e] at fin
      exact iteF ⟨_, rfl, (by show 2 ≤ sizeLine; decide), fun p hp => fin p hp⟩
theorem vrank_step {H : Hp} {x : Key} {Q : VK} {E : XK} (q : ∀ p, H p = none → Q (.ref p) (upd H p (.tup [.int (if isT x = true then 1 else 0), kV x]))) : spVRank [kV x] H Q E := by
  unfold spVRank
  exact ⟨x, rfl, q⟩
theorem dp_rkK (K : PySem.W.Frag) {H : Hp} {p : Addr} {x : Key} (h : H p = some (.tup [.int (if isT x = true then 1 else 0), kV x])) : Dp K H (.ref p) (rkK x) := by
  cases x with
  | inl i => exact .tup (SqT.of h) (.cons (.int _) (.cons (.int _) .nil))
  | inr s => exact .tup (SqT.of h) (.cons (.int _) (.cons (.str _) .nil))
theorem dpAll_snoc {K : PySem.W.Frag} {H : Hp} : ∀ {vs : List V} {ds : List PyData} {v : V} {d : PyData}, DpAll K H vs ds → Dp K H v d → DpAll K H (vs ++ [v]) (ds ++ [d])
  | _, _, _, _, .nil, h => .cons h .nil
  | _, _, _, _, .cons a b, h => .cons a (dpAll_snoc b h)
theorem dpAll_length {K : PySem.W.Frag} {H : Hp} : ∀ {vs : List V} {ds : List PyData}, DpAll K H vs ds → vs.length = ds.length
  | _, _, .nil => rfl
  | _, _, .cons _ b => congrArg (· + 1) (dpAll_length b)
@[irreducible] def spRRank (K : PySem.W.Frag) : Sp := fun vs H Q _ => ∃ (q : Addr) (k : Row), vs = [.ref q] ∧ H q = some (.tup (k.map kV)) ∧ k.length ≤ 1000 ∧ ∀ H' p, Ex H H' → Dp K H' (.ref p) (.tuple (rk k)) → Q (.ref p) H'
theorem scRRank : FnScope ["row", "value"] ["row"] (defScope sRRank) := ⟨rfl, rfl, rfl, by decide +kernel, rfl, by decide +kernel, by decide +kernel⟩
theorem ok_rrank (F : FnP K "row_rank" "row_rank" sRRank [] f fd) (T : TxtL mg) (FV : FnP K "value_rank" "value_rank" sVRank [] fV fdV) (gV : mg "value_rank" = some (.ref fV)) : FnOk P w K mg base CX0 2 f fd ["row"] (spRRank K) := by
  have GV : FnOk P w K mg base CX0 1 fV fdV ["value"] spVRank := ok_vrank FV T
  have bV : Binds K fdV ["value"] [] := FV.bindsN fun _ _ _ _ _ _ us hl => match us, hl with | [_], _ => rfl
  refine F.ok scRRank (fun vs H Q E h => ?_) (fun cdv A outer s H vs Q E hr h => ?_)
  · unfold spRRank at h
    obtain ⟨_, _, rfl, _⟩ := h; rfl
  · unfold spRRank at h
    obtain ⟨q, k, rfl, hq, hl, fin⟩ := h
    refine ⟨_, PSs.nox <| pss_one (ps_ret (pe_callTy call_tuple_of (by rfl) T.tuple (by decide +kernel) (pa_cons (pe_lc (own := [("value", 1)]) (g := gName 1) (tt := tYes) rfl scRRank.nd (pi_tup (pv 0)) (blkOk_by (N := ["row", "value"]) (sc := defScope sRRank) (by decide +kernel))
        (fun _ _ _ _ _ => pg_name (i := 1) scRRank.nd rfl (Or.inl rfl)) (fun _ _ _ _ _ => pts_nil)
        (fun _ _ _ _ _ => pe_call GV hr (by rfl) gV FV.kp bV .nil pass0 (pa_cons (pv 1) pa_nil))) pa_nil))), ?_⟩
    refine ⟨_, rfl, q, rfl, ⟨_, SqT.of hq⟩, fun D hD => lc_tup (xs := k.map kV) (fun i H2 => Ex H H2 ∧ ∃ us, H2 D = some (.lst us) ∧ DpAll K H2 us (rk (k.take i)) ∧ i ≤ k.length) ⟨Ex.upd hD, [], upd_same, .nil, Nat.zero_le _⟩ (fun i H2 _ ⟨e, _⟩ => SqT.of (e _ _ hq)) ?_ ?_⟩
    · rintro i x H2 hx ⟨e2, us, hu, hd, hi⟩
      rw [List.getElem?_map] at hx
      obtain ⟨kx, hx', rfl⟩ := Option.map_eq_some_iff.mp hx
      have hil : i < k.length := (List.getElem?_eq_some_iff.mp hx').1
      refine ⟨rfl, ?_⟩
      refine ⟨_, rfl, vrank_step fun p hp => ⟨us, by rw [L2.upd_ne (ne_of_none hu hp)]; exact hu, ?_, ?_⟩⟩
      · have h1 := dpAll_length hd
        unfold rk at h1
        rw [List.length_map, List.length_take] at h1
        have : sizeLine = 16777216 := rfl
        omega
      · have keep : ∀ b xs, Rd (upd H2 p (.tup [.int (if isT kx = true then 1 else 0), kV kx])) b (.tup xs) → Rd (upd (upd H2 p (.tup [.int (if isT kx = true then 1 else 0), kV kx])) D (.lst (us ++ [.ref p]))) b (.tup xs) := by
          intro b xs h
          have nD : ∀ z, (upd H2 p (.tup [.int (if isT kx = true then 1 else 0), kV kx])) D = some z → z = .lst us := fun z hz => by
            rw [L2.upd_ne (ne_of_none hu hp), hu] at hz
            exact (Option.some.inj hz).symm
          rcases h with h | ⟨o, h⟩
          · exact .inl (by rw [L2.upd_ne (fun z => by rw [z] at h; cases nD _ h)]; exact h)
          · exact .inr ⟨o, by rw [L2.upd_ne (fun z => by rw [z] at h; cases nD _ h)]; exact h⟩
        have hd1 : DpAll K (upd H2 p (.tup [.int (if isT kx = true then 1 else 0), kV kx])) (us ++ [.ref p]) (rk (k.take i) ++ [rkK kx]) := dpAll_snoc (dpAll_ex (Ex.upd hp) hd) (dp_rkK K upd_same)
        have ek : rk (k.take (i + 1)) = rk (k.take i) ++ [rkK kx] := by
          unfold rk
          rw [take_snoc hx', List.map_append]; rfl
        refine ⟨Ex.on (e2.trans (Ex.upd hp)) hD, _, upd_same, ?_, hil⟩
        rw [ek]
        refine dpAll_tups keep ?_ hd1
        rw [← ek]
        exact pure_rk _
    · rintro H2 ⟨e2, us, hu, hd, _⟩
      rw [List.length_map, List.take_length] at hd
      refine ⟨D, us, rfl, .inl ⟨SqL.of hu, fun l hl2 => fin _ l (e2.trans (Ex.upd hl2)) (.tup (SqT.of upd_same) (dpAll_ex (Ex.upd hl2) hd))⟩⟩
theorem rrank_step {K : PySem.W.Frag} {H : Hp} {q : Addr} {k : Row} {Q : VK} {E : XK} (h : H q = some (.tup (k.map kV))) (hl : k.length ≤ 1000) (fin : ∀ H' p, Ex H H' → Dp K H' (.ref p) (.tuple (rk k)) → Q (.ref p) H') : spRRank K [.ref q] H Q E := by
  unfold spRRank
  exact ⟨q, k, rfl, h, hl, fin⟩
end
end KM
set_option Elab.async false
set_option linter.all false
set_option maxRecDepth 100000
set_option maxHeartbeats 4000000
namespace KH
open PySem PySem.Spec PyProof.Rows PySem.Calls L2 KB GxR
def TabbedS (P : Addr) (q : Str) (H H' : Hp) : Prop := LamX.TabS H' P q ∧ ∀ b o, b ≠ P → H b = some o → H' b = some o
theorem ltN {a n s h : Nat} (h1 : n ≤ a) (h2 : n = s + 2) (h3 : h = s + 1) (z : a = h) : False := by omega
section
variable {X : Cx} {pins : List (Addr × Obj)} {σ : L2.St} {H : Hp} {s : Shared}
def ReadyS (X : Cx) (pins : List (Addr × Obj)) (σ : L2.St) (H1 : Hp) (P : Addr) (q : Str) (es : Array DictEntry) (pb : Int → Bool) (g : Addr) (s5 : Shared) : Prop :=
  ∃ (fp wr : List Addr) (G : Array GenState → Array GenState → Prop) (F : Nat → Value → Prop) (St : Nat → Shared → Prop),
    WalksS X.prog X.w X.A.in1 g fp wr G es.size F St ∧ St 0 s5 ∧ TruthOf X.prog X.w X.A.in1 F (trE pb es) ∧ ∀ s', Moved wr G s5 s' → ∃ H2, TabbedS P q H1 H2 ∧ Inv X pins σ H2 s'
theorem gen_valsS {c P : Addr} {q : Str} {elt e : Expr} {x : Str} {px gpos apos cpos : Pos} {scope : Scope} {pb : Int → Bool} {te : TE} {k : Nat} {Q' : Value → Shared → Prop} {R : List (List Key × V) → Hp → Prop}
    (hq : X.env.qual ++ Str.ofString "<genexpr>" = q) (hr : Room k X.A) (TB : TabB X.base X.mg c P) (hcode : X.env.code = .ref c) (S : GenS X.env scope x) (hi : PE X e te) (hel : EltI X.prog X.w scope x elt pb)
    (hbase : attributeBase e "values" X.env (eval e X.env) = eval e X.env) (hline : (apos.endLine == cpos.line) = true)
    (hs : ∀ v, genFold (.Call (.Attribute e "values" apos) [] [] cpos) X.env v = pure v) (I : Inv X pins σ H s) (h : te σ H fun v H1 => ∃ (d : Addr) (kvs : List (List Key × V)), v = .ref d ∧ H1 d = some (.dT kvs) ∧ IntVals kvs ∧ LamX.TabS H1 P q ∧ R kvs H1)
    (hQ : ∀ kvs H1 es g s5, R kvs H1 → (es.toList.all fun e => intP pb e.val) = (kvs.all fun p => vP pb p.2) → ReadyS X pins σ H1 P q es pb g s5 → Q' (.ref g) s5) :
    wpAny (model X.prog X.w) X.A (eval (.GeneratorExp elt [⟨.Name x px, .Call (.Attribute e "values" apos) [] [] cpos, [], 0⟩] scope gpos) X.env) Q' X.xe s := by
  refine wpAny_GeneratorExp_walksQ hr.hd S.co (closure_ok S.free) S.cell S.dot S.loc S.kind (by have := hr.dp; omega) ?_ hs
  refine wpAny_Call_method (T := "dict") (id := "dict.values") hbase rfl hline F.plainAttrs_dict F.slot_dict_values F.type_dict_values (thn (hi.run pins s σ H _ I h) fun u s1 ⟨v, H1, I1, r1, d, kvs, ev, hd, hiv, ⟨ps, hP, ht, ha⟩, q1⟩ => ?_)
  subst ev
  obtain rfl : u = Value.ref d := r1
  obtain ⟨z, hm0, xs, rel, o, es, ep, ho, hx, hdat, hes, his, hn⟩ := dt_of I1.hok hd
  have raw : s1.heap.DictRaw d es ep := ⟨o, ho, hx, hdat⟩
  refine ⟨raw.typeIs, fun a e => by cases e; exact ⟨o, ho, hx.2.1⟩, ?_⟩
  show wpAny _ _ (callWith cpos (.builtin "dict.values") [.ref d] [] []) _ X.xe s1
  refine method_meetsIn F.slot_dict_values F.entry_dict_values rfl (PySem.evalArgs_none ⟨rfl, raw.typeIs, F.args_dict_values_1 _, _, meets_dict_values_raw d hm0, ⟨es, ep, raw⟩, ?_⟩)
  refine wpAny_pyIter_values_raw ⟨_, Heap.get?_push_size _ rfl, rfl, rfl⟩ (raw.at fun o e => Heap.get?_push_of_some _ e) ?_
  generalize hva : s1.heap.push { cls := .type "dict_values", data := .fields #[.ref d] } = hv
  have kv : ∀ b u, s1.heap.get? b = some u → hv.get? b = some u := fun b u e => by rw [← hva]; exact Heap.get?_push_of_some _ e
  have zv : hv.objs.size = s1.heap.objs.size + 1 := by rw [← hva, Heap.size_push]
  show _ ∧ _
  generalize hio : ({ cls := .type "dict_valueiterator", data := .fields #[.ref d, .int 0 0, .int es.size 0, .int ep 0] } : Obj) = io
  have k2 : ∀ b u, s1.heap.get? b = some u → (hv.push io).get? b = some u := fun b u e => Heap.get?_push_of_some _ (kv b u e)
  have hPs : s1.heap.get? P = some { cls := .none, data := .fields ps } := I1.hok P _ hP
  have hPlt : P < s1.heap.objs.size := Heap.lt_size hPs
  have hdlt : d < s1.heap.objs.size := Heap.lt_size ho
  have hP2 : (hv.push io).get? P = some { cls := .none, data := .fields ps } := k2 _ _ hPs
  have cd : PySem.W.CodeHd (hv.push io) c P := TB.code.keeps fun b u e => k2 b u (I1.bk b u e)
  have lim2 : (hv.push io).NoLimit := I1.nolimit.keeps k2
  have hst : (hv.push io).IsValIter hv.objs.size d 0 es.size ep ∧ (hv.push io).DictRaw d es ep := ⟨⟨_, Heap.get?_push_size _ (by rw [← hio]; rfl), by rw [← hio], by rw [← hio]; rfl⟩, raw.at fun o e => k2 _ _ e⟩
  have W : ∀ A' : Around, A'.handled = none → Walks X.prog X.w A' hv.objs.size [hv.objs.size, d] [hv.objs.size] es.size (fun i v => ∃ hi : i < es.size, v = es[i].val) (fun i h => h.IsValIter hv.objs.size d i es.size ep ∧ h.DictRaw d es ep) :=
    fun A' hA => Walks.rawValues hA _ d (by rw [zv]; exact Nat.ne_of_lt (Nat.lt_succ_of_lt hdlt)) es ep
  have vints : ∀ (i : Nat) (hi : i < es.size), ∃ n t, es[i].val = Value.int n t := fun i hi => by
    have hi' : i < xs.length := by rw [← size_of_entries hes]; exact hi
    have e1 := entry_at hes i
    rw [Array.getElem?_eq_getElem hi, List.getElem?_eq_getElem hi'] at e1
    have e2 := Option.some.inj e1
    obtain ⟨n, t, e3⟩ := kt_int rel hiv xs[i] (List.getElem_mem hi')
    exact ⟨n, t, by rw [e2]; exact e3⟩
  have hall : (es.toList.all fun e => intP pb e.val) = kvs.all fun p => vP pb p.2 := by
    rw [hes, List.all_map, ← all_kt pb rel]
    rfl
  have cont : ∀ (code : Value) (h3 : Heap) (tk : Nat) (ps' : Array Value), Heap.ExtBut P (hv.push io) h3 → (hv.push io).objs.size ≤ h3.objs.size → h3.get? P = some { cls := .none, data := .fields ps' } → (∃ more, ps' = ps ++ more) → TriplesOk ps'.toList → ∀ co : Option Addr, (∀ pos' cv, codeAmong pos' ps'.toList = some cv → codeAmong pos' ps.toList = some cv ∨ ∃ c', co = some c' ∧ cv = .ref c') → (∀ c', co = some c' → (hv.push io).objs.size ≤ c' ∧ c' < h3.objs.size ∧ h3.CodeRec (.ref c') q) →
      wpAny (model X.prog X.w) X.A (builtinsFor X.env.globals X.env.builtins) (fun bi s₄ =>
        ∃ Ia fp wr n₀ Pf St₀ pz F, Value.ref hv.objs.size = .ref Ia ∧ (∀ A' : Around, A'.handled = none → Walks X.prog X.w A' Ia fp wr n₀ Pf St₀) ∧ St₀ 0 s₄.heap ∧ (∀ b ∈ fp, b < s₄.heap.objs.size) ∧ s₄.heap.NoLimit ∧ cStatics ∉ wr ∧
          (∀ href : Heap, (∀ b o, s₄.heap.get? b = some o → href.get? b = some o) →
            QuietGen X.prog X.w (genEnv scope (cloFrom X.env.cells scope.names []) s₄.heap.objs.size code bi X.env) x [] elt (List.range s₄.heap.objs.size) wr Pf pz F href) ∧
          (∀ a h₅ tk gs, gs.bare = true → s₄.heap.objs.size < a → h₅.objs.size = a + 1 → (∀ b o, s₄.heap.get? b = some o → h₅.get? b = some o) →
            WalksS X.prog X.w X.A.in4 a (a :: s₄.heap.objs.size :: List.range s₄.heap.objs.size) (s₄.heap.objs.size :: wr) (GenOnlyQ s₄.gens.size) (passing pz n₀ 0).length
              (fun j y => ∃ i, (passing pz n₀ 0)[j]? = some i ∧ F i y) (GenAt X.prog X.w X.A.in4 a s₄.gens.size s₄.heap.objs.size (List.range s₄.heap.objs.size) wr pz n₀ F) →
            GenAt X.prog X.w X.A.in4 a s₄.gens.size s₄.heap.objs.size (List.range s₄.heap.objs.size) wr pz n₀ F 0 { s₄ with gens := s₄.gens.push gs, toks := tk, heap := h₅ } →
            Q' (.ref a) { s₄ with gens := s₄.gens.push gs, toks := tk, heap := h₅ })) X.xe { s1 with heap := h3, toks := tk } := by
    intro code h3 tk ps' hx3 hsz hP3 hmore ht3 co hnew hco
    obtain ⟨bm, ob, e1, e2, e3, e4, e5, e6, e7, e8⟩ := TB.bm
    have hcP : cStatics ≠ P := fun e => by
      obtain ⟨_, hns, _⟩ := I1.nolimit
      obtain ⟨o', es', ep', ho', hd', _⟩ := hns
      rw [e, hPs] at ho'
      cases ho'
      cases hd'
    have hcl : cStatics < s1.heap.objs.size := let ⟨_, hns, _⟩ := I1.nolimit; hns.lt
    have sz2 : (hv.push io).objs.size = s1.heap.objs.size + 2 := by rw [Heap.size_push, zv]
    have keep3 : ∀ b u, b ≠ P → s1.heap.get? b = some u → h3.get? b = some u := fun b u hb e => hx3 b u hb (k2 b u e)
    refine wpAny_builtinsFor (m := X.mg) (by rw [I1.ok.glob]; exact (((I1.mod.glob.keeps I1.bk).keeps k2)).extBut hx3 TB.gP) e1 e2 (keep3 _ _ e4 (I1.bk _ _ e5)) e6 e7 e8 ?_
    refine ⟨hv.objs.size, [hv.objs.size, d], [hv.objs.size], es.size, _, _, (fun _ => true), (fun i y => ∃ hi : i < es.size, y = .bool (intP pb es[i].val)), rfl, W, ?_, ?_, lim2.extBut hx3 hcP, ?_, ?_, ?_⟩
    · refine (W X.A hr.hd).frame _ _ _ hst fun b hb u e => hx3 b u (fun z => ?_) e
      rcases List.mem_cons.mp hb with z2 | z2
      · exact (nat1 hPlt zv (z.symm.trans z2)).elim
      · rcases List.mem_cons.mp z2 with z2 | z2
        · rw [z.symm.trans z2, ho] at hPs
          cases hPs
          cases hdat
        · cases z2
    · intro b hb
      rcases List.mem_cons.mp hb with z | z
      · rw [z]
        show hv.objs.size < h3.objs.size
        omega
      · rcases List.mem_cons.mp z with z | z
        · rw [z]
          exact Nat.lt_of_lt_of_le hdlt (show s1.heap.objs.size ≤ h3.objs.size by omega)
        · cases z
    · intro z
      rcases List.mem_cons.mp z with z | z
      · exact (nat1 hcl zv z).elim
      · cases z
    · intro href hhref
      refine ⟨fun A' E' i v s₂ m₂ hA hPv hn hm hk => ?_, fun A' E' i v s₂ m₂ hA hPv hp hn hm hk => ?_⟩
      · simp only [List.forIn_nil]
        exact wpAny_pure ⟨rfl, keeps_refl _⟩
      · obtain ⟨hi', rfl⟩ := hPv
        obtain ⟨n, t, e⟩ := vints i hi'
        rw [e] at hm
        exact wpAny_mono (hel _ A' E' n t s₂ m₂ rfl hn hm) (fun y s3 r => ⟨⟨hi', by rw [r.1, e]; rfl⟩, r.2⟩) fun _ _ e => e
    · intro g h5 tk5 gs hgb hag hsz5 hk5 W5 hat
      simp only [GxR.passing_true, List.length_range] at W5
      refine hQ kvs H1 es g _ q1 hall ⟨_, _, _, _, _, W5.in4_1, hat, ?_, fun s' hmv => ?_⟩
      · intro j y sj Qj Ej hy hQj
        obtain ⟨i, hij, hi', rfl⟩ := hy
        obtain ⟨hj, ej⟩ := List.getElem?_eq_some_iff.mp hij
        rw [List.getElem_range] at ej
        subst ej
        have hQ2 : Qj (trE pb es j) sj := hQj
        unfold trE at hQ2
        rw [Array.getElem?_eq_getElem hi'] at hQ2
        exact wpAny_truthy_bool hQ2
      · obtain ⟨more, em⟩ := hmore
        have nwr : ∀ b u, s1.heap.get? b = some u → b ∉ h3.objs.size :: [hv.objs.size] := fun b u e hb => by
          have hl := Heap.lt_size e
          rcases List.mem_cons.mp hb with z | z
          · exact (nat2 hl (by omega) z).elim
          · rcases List.mem_cons.mp z with z | z
            · exact (nat1 hl zv z).elim
            · cases z
        have J := inv_tab (more := more) (h' := s'.heap) (g' := s'.gens) (d' := s'.drawn) (t' := s'.toks) I1 hP (fun b u hb e => hmv.heap b u (nwr b u e) (hk5 b u (keep3 b u hb e)))
          (by rw [← em]; exact hmv.heap P _ (nwr P _ hPs) (hk5 P _ hP3)) (AllBare.movedS (I1.bare.push hgb) hmv)
        rw [sh_eta s1 s' hmv.os] at J
        cases co with
        | none =>
          refine ⟨upd H1 P (.tbl (ps ++ more)), ⟨⟨ps ++ more, upd_same, by rw [← em]; exact ht3, fun pos' cv hcv => ?_⟩, fun b o hb e => by rw [upd_ne hb]; exact e⟩, J⟩
          rw [← em] at hcv
          rcases hnew pos' cv hcv with z | ⟨c', z, _⟩
          · obtain ⟨c0, e1, e2⟩ := ha pos' cv z
            exact ⟨c0, e1, by rw [upd_ne (fun z => by rw [z, hP] at e2; cases e2)]; exact e2⟩
          · cases z
        | some c' =>
          obtain ⟨hge, hlt, cr⟩ := hco c' rfl
          obtain ⟨c2, oc, vs, t, e2, hoc, hd2, hv2⟩ := id cr
          cases e2
          have hge1 : s1.heap.objs.size ≤ c' := by omega
          have nC : H1 c' = none := I1.hok.fresh hge1
          have nPc : P ≠ c' := ne_of_none hP nC
          have nw : c' ∉ h3.objs.size :: [hv.objs.size] := fun z => by
            rcases List.mem_cons.mp z with z | z
            · exact Nat.lt_irrefl _ (z ▸ hlt)
            · rcases List.mem_cons.mp z with z | z
              · exact ltN hge sz2 zv z
              · cases z
          have ho' : s'.heap.get? c' = some oc := hmv.heap c' _ nw (hk5 c' _ hoc)
          have nC2 : upd H1 P (.tbl (ps ++ more)) c' = none := by rw [upd_ne nPc.symm]; exact nC
          have J2 : Inv X pins σ (upd (upd H1 P (.tbl (ps ++ more))) c' (LamX.CodeO c' q)) s' := J.take (h' := s'.heap) (t' := s'.toks) (fun b ob _ e => e) (I1.fpOk hge1 nC2)
            (show ObjOk X.prog X.w _ s'.heap c' (LamX.CodeO c' q) from ⟨⟨oc, vs, t, ho', hd2, hv2⟩, ⟨_, ho'⟩, fun h1 h2 ⟨o1, v1, t1, z1, z2, z3⟩ k => ⟨o1, v1, t1, k _ z1, z2, z3⟩⟩)
          refine ⟨_, ⟨⟨ps ++ more, by rw [upd_ne nPc, upd_same], by rw [← em]; exact ht3, fun pos' cv hcv => ?_⟩, fun b o hb e => by rw [upd_ne (ne_of_none e nC), upd_ne hb]; exact e⟩, J2⟩
          rw [← em] at hcv
          rcases hnew pos' cv hcv with z | ⟨c3, z, e3⟩
          · obtain ⟨c0, e1, e2⟩ := ha pos' cv z
            exact ⟨c0, e1, by rw [upd_ne (ne_of_none e2 nC), upd_ne (fun z => by rw [z, hP] at e2; cases e2)]; exact e2⟩
          · cases z
            exact ⟨c', e3, upd_same⟩
  refine ⟨lim2, ?_⟩
  cases hf : codeAmong gpos ps.toList with
  | none =>
    refine wpAny_genexprCodeX hcode (cd.code hP2 ht) (cd.tab hP2) hf fun c' h' tk hx3 hge hlt hco' hrec' htab' _ => ?_
    obtain ⟨o1, vs, f1, tf, fl, tg, inF, tx, tt, op, _, _, _, _, _, _, _, _, _, htr, _⟩ := hco'
    have eL : (ps ++ #[rawInt gpos.line, rawInt gpos.col, .ref c']).toList = ps.toList ++ [rawInt gpos.line, rawInt gpos.col, .ref c'] := by simp
    refine cont _ h' tk _ hx3 (Nat.le_trans hge (Nat.le_of_lt hlt)) htab'.2 ⟨_, rfl⟩ htr (some c') (fun pos' cv hcv => ?_) (fun c3 e => ?_)
    · rw [eL] at hcv
      rcases LamX.among_app _ ht hcv with z | z
      · exact .inl z
      · exact .inr ⟨c', rfl, z⟩
    · cases e
      exact ⟨hge, hlt, hq ▸ hrec'⟩
  | some cv =>
    refine wpAny_genexprCode_hit hcode (cd.code hP2 ht) hf ?_
    exact cont cv (hv.push io) s1.toks ps (Heap.ExtBut.refl _ _) (Nat.le_refl _) hP2 ⟨#[], by simp⟩ ht none (fun _ _ z => .inl z) (fun _ e => nomatch e)
def tAllS (P : Addr) (q : Str) (pb : Int → Bool) (te : TE) : TE := fun σ H Q => te σ H fun v H1 => ∃ (d : Addr) (kvs : List (List Key × V)), v = .ref d ∧ H1 d = some (.dT kvs) ∧ IntVals kvs ∧ LamX.TabS H1 P q ∧ ∀ H2, TabbedS P q H1 H2 → Q (.bl (kvs.all fun p => vP pb p.2)) H2
theorem pe_allS {c P : Addr} {elt e : Expr} {x : Str} {px p pos gpos apos cpos : Pos} {scope : Scope} {pb : Int → Bool} {te : TE} {k : Nat}
    (hq : X.env.qual ++ Str.ofString "<genexpr>" = q) (hr : Room k X.A) (hg : Gl X "all") (hm : X.mg "all" = none) (TB : TabB X.base X.mg c P) (hcode : X.env.code = .ref c) (S : GenS X.env scope x) (hi : PE X e te) (hel : EltI X.prog X.w scope x elt pb)
    (hbase : attributeBase e "values" X.env (eval e X.env) = eval e X.env := by rfl) (hline : (apos.endLine == cpos.line) = true := by rfl)
    (hs : ∀ v, genFold (.Call (.Attribute e "values" apos) [] [] cpos) X.env v = pure v := by intro _; rfl)
    (he : starEach [.GeneratorExp elt [⟨.Name x px, .Call (.Attribute e "values" apos) [] [] cpos, [], 0⟩] scope gpos] X.env = (false, eval (.GeneratorExp elt [⟨.Name x px, .Call (.Attribute e "values" apos) [] [] cpos, [], 0⟩] scope gpos) X.env) :: starEach [] X.env := by rfl) :
    PE X (.Call (.Name "all" p) [.GeneratorExp elt [⟨.Name x px, .Call (.Attribute e "values" apos) [] [] cpos, [], 0⟩] scope gpos] [] pos) (tAllS P q pb te) := by
  refine ⟨fun pins s σ H Q I h => ?_⟩
  refine wpAny_Call_Name_kw (ld_blt I hg hm boot_all ?_)
  refine PyProof.Rows.callWith_builtin1 ?_ he (by rfl)
  rw [he]
  show wpAny _ _ (spliced ((false, eval (.GeneratorExp elt [⟨.Name x px, .Call (.Attribute e "values" apos) [] [] cpos, [], 0⟩] scope gpos) X.env) :: backTo pos (starEach [] X.env))) _ _ s
  refine Calls.spliced_cons (gen_valsS (R := fun kvs H1 => ∀ H2, TabbedS P q H1 H2 → Q (.bl (kvs.all fun p => vP pb p.2)) H2) hq hr TB hcode S hi hel hbase hline hs I h fun kvs H1 es g s5 hR hal hG => ?_)
  obtain ⟨fp, wr, G, F, St, W, hst, htr, hI⟩ := hG
  refine Calls.spliced_nil ?_
  refine call_all_walkS (W.self 0 _ _ _ hst ⟨g, fp, wr, G, _, F, St, _, rfl, W, hst, htr, fun s' hmv => ?_⟩)
  obtain ⟨H2, hT, J⟩ := hI s' hmv
  refine ⟨.bl _, H2, J, rfl, ?_⟩
  rw [all_trE pb es, hal]
  exact hR H2 hT
end
end KH
set_option Elab.async false
set_option linter.all false
set_option maxRecDepth 100000
set_option maxHeartbeats 4000000
namespace KM
open PySem PySem.Spec PyProof.Rows L2 KB KC KD KS RZ LamX
theorem okC {P : Program} {w : World} {K : PySem.W.Frag} {mg : Str → Option Value} {base : Heap} {x qual : Str} {st : Stmt} {dvs : List V} {f c : Addr} {fd : FuncData} {CX : CXT} {N ps : List Str} {k : Nat} {sp : Sp} (F : FnP K x qual st dvs f fd) (hc : fd.code = .ref c) (S : FnScope N ps (defScope st)) (len : ∀ vs H Q E, sp vs H Q E → vs.length = ps.length)
    (hbody : ∀ (A : Around) (outer : List Env) (s : Shared) (H : Hp) (vs : List V) (Q : VK) (E : XK), Room k (A.deeper (envOfC qual (defScope st) s.heap.objs.size f (.ref c))) → sp vs H Q E →
      ∃ t, PSs (cxOf CX P w K mg base N qual (defScope st) f (.ref c) A outer s H E) (defBody st) t ∧ t { nx := fun _ H' => Q .non H', rt := Q } (start N vs) H) : FnOk P w K mg base CX (k + 1) f fd ps sp := by
  obtain ⟨oc, od, dV, kV, doc, pm, an, cdv, ct, osl, rfl, lk, hcd, hD, hK⟩ := F.ex
  have e : cdv = .ref c := hc
  subst e
  exact fn_of lk hcd S len hbody
abbrev qS : Str := "Bag.is_set.<locals>.<genexpr>"
abbrev qR : Str := "Bag.rows.<locals>.<lambda>"
abbrev qL : Str := "law.<locals>.<lambda>"
abbrev TT (Ps Pr Pl : Addr) : List (Addr × Str) := [(Ps, qS), (Pr, qR), (Pl, qL)]
structure Apart (Ps Pr Pl : Addr) : Prop where
  sr : Ps ≠ Pr
  sl : Ps ≠ Pl
  rl : Pr ≠ Pl
theorem tabs_tabbed {Ps Pr Pl : Addr} {H H' : Hp} (ap : Apart Ps Pr Pl) (t : Tabs (TT Ps Pr Pl) H) (b : KH.TabbedS Ps qS H H') : Tabs (TT Ps Pr Pl) H' ∧ ExtN H H' := by
  obtain ⟨ps, hP, _, _⟩ := t (Ps, qS) (List.mem_cons_self ..)
  have one : ∀ p : Addr × Str, p ∈ TT Ps Pr Pl → p.1 ≠ Ps → TabS H' p.1 p.2 := fun p hp n => by
    obtain ⟨qs, h1, h2, h3⟩ := t p hp
    refine ⟨qs, b.2 _ _ n h1, h2, fun pos cv hc => ?_⟩
    obtain ⟨c, e1, e2⟩ := h3 pos cv hc
    exact ⟨c, e1, b.2 _ _ (fun z => by rw [z, hP] at e2; cases e2) e2⟩
  refine ⟨fun p hp => ?_, fun a o e n => b.2 a o (fun z => by rw [z, hP] at e; exact n _ (Option.some.inj e).symm) e⟩
  rcases List.mem_cons.mp hp with e | h
  · rw [e]; exact b.1
  · rcases List.mem_cons.mp h with e | h
    · exact one p hp (by rw [e]; exact ap.sr.symm)
    · rcases List.mem_cons.mp h with e | h
      · exact one p hp (by rw [e]; exact ap.sl.symm)
      · cases h
theorem BagD.exN {C : Addr} {H H' : Hp} {a d : Addr} {ws : W} (b : BagD C H a d ws) (e : ExtN H H') : BagD C H' a d ws := let ⟨dx, h1, h2⟩ := b; ⟨dx, e _ _ h1 (fun _ z => nomatch z), e _ _ h2 (fun _ z => nomatch z)⟩
theorem PairsOf.exN {H H' : Hp} {ts : List Addr} {kvs : List (List Key × V)} (p : PairsOf H ts kvs) (e : ExtN H H') : PairsOf H' ts kvs := PairsOf.ex p fun b xs h => e b _ h (fun _ z => nomatch z)
theorem Ex.toN {H H' : Hp} (e : KS.Ex H H') : ExtN H H' := ExtN.of e
def posW (ws : W) : Bool := ws.all fun p => decide (0 < p.2)
section
variable {P : Program} {w : World} {K : PySem.W.Frag} {mg : Str → Option Value} {base : Heap} {C f cS Ps Pr Pl : Addr} {fd : FuncData}
@[irreducible] def spIsSet (C Ps Pr Pl : Addr) : Sp := fun vs H Q _ => ∃ (a d : Addr) (ws : W), vs = [.ref a] ∧ BagD C H a d ws ∧ Tabs (TT Ps Pr Pl) H ∧ ∀ H', ExtN H H' → Tabs (TT Ps Pr Pl) H' → Q (.bl (posW ws)) H'
theorem scIsSet : FnScope ["self"] ["self"] (defScope (sM 9)) := ⟨rfl, rfl, rfl, by decide +kernel, rfl, by decide +kernel, by decide +kernel⟩
theorem ok_isset (F : FnP K "is_set" "Bag.is_set" (sM 9) [] f fd) (hc : fd.code = .ref cS) (TBs : GxR.TabB base mg cS Ps) (ap : Apart Ps Pr Pl) (B : TxtB K mg C) (T : TxtL mg) : FnOk P w K mg base CX0 1 f fd ["self"] (spIsSet C Ps Pr Pl) := by
  refine okC F hc scIsSet (fun vs H Q E h => ?_) (fun A outer s H vs Q E hr h => ?_)
  · unfold spIsSet at h
    obtain ⟨_, _, _, rfl, _⟩ := h; rfl
  · unfold spIsSet at h
    obtain ⟨a, d, ws, rfl, ⟨dx, ha, hd⟩, ht, fin⟩ := h
    refine ⟨_, PSs.nox <| pss_one (ps_ret (KH.pe_allS (c := cS) (P := Ps) (q := qS) (pb := fun i => decide (0 < i)) (x := "weight") (show (Str.ofString "Bag.is_set" ++ Str.ofString ".<locals>.") ++ Str.ofString "<genexpr>" = qS by decide +kernel) hr (by rfl) T.all TBs rfl ⟨rfl, rfl, by decide +kernel, rfl, rfl, fun y hy e => by
        rcases List.mem_cons.mp hy with rfl | hy
        · cases e
        · rcases List.mem_cons.mp hy with rfl | hy
          · cases e
          · cases hy⟩ (pe_fld (pv 0) rfl) (KH.elt_gt rfl rfl))), ?_⟩
    refine ⟨_, rfl, a, C, dx, _, _, rfl, ha, B.cl, B.nW, bF_w d, d, iv ws, rfl, hd, intVals_iv ws, ht _ (List.mem_cons_self ..), fun H2 tb => ?_⟩
    obtain ⟨h1, h2⟩ := tabs_tabbed ap ht tb
    have e : ((iv ws).all fun p => KH.vP (fun i => decide (0 < i)) p.2) = posW ws := by
      unfold iv posW
      rw [List.all_map]
      rfl
    rw [e]
    exact fin H2 h2 h1
theorem isset_step {H : Hp} {a d : Addr} {ws : W} {Q : VK} {E : XK} (b : BagD C H a d ws) (t : Tabs (TT Ps Pr Pl) H) (fin : ∀ H', ExtN H H' → Tabs (TT Ps Pr Pl) H' → Q (.bl (posW ws)) H') : spIsSet C Ps Pr Pl [.ref a] H Q E := by
  unfold spIsSet
  exact ⟨a, d, ws, rfl, b, t, fin⟩
end
end KM
set_option Elab.async false
set_option linter.all false
set_option maxRecDepth 100000
set_option maxHeartbeats 4000000
namespace KM
open PySem PySem.Spec PyProof.Rows L2 KB KC KD KS RZ LamX
def OkR (k : Row) : Prop := k ≠ [] ∧ k.all okK = true ∧ k.length ≤ 1000
def Sorted (us : W) : Prop := us.Pairwise fun x y => bef x.1 y.1 = true
theorem lay_rk : ∀ {k : Row}, k.all okK = true → PyData.canLayAll0 (rk k) = true
  | [], _ => rfl
  | x :: r, h => by
    rw [List.all_cons, Bool.and_eq_true] at h
    show (PyData.canLay0 (rkK x) && PyData.canLayAll0 (rk r)) = true
    rw [lay_rk h.2, Bool.and_true]
    cases x with
    | inl i => rfl
    | inr s =>
      have h1 : PyData.strOk s = true := h.1
      simp [rkK, PyData.canLay0, PyData.canLayAll0, h1]
theorem depth_rk : ∀ k : Row, PyData.depthAll (rk k) ≤ 1
  | [] => Nat.zero_le _
  | x :: r => by
    show max (PyData.depth (rkK x)) (PyData.depthAll (rk r)) ≤ 1
    have h := depth_rk r
    have h2 : PyData.depth (rkK x) ≤ 1 := by cases x <;> exact Nat.le_refl _
    omega
theorem shaped_rk {k : Row} (h : k.all okK = true) : SeqAt.shaped (.tuple (rk k)) = true := by
  show (PyData.canLayAll0 (rk k) && decide (PyData.depthAll (rk k) + 1 ≤ 64)) = true
  have := depth_rk k
  rw [lay_rk h, decide_eq_true (by omega)]
  rfl
def intOf : V → Int
  | .int i => i
  | _ => 0
def unV (x : List Key × V) : Row × Int := (x.1, intOf x.2)
theorem un_iv (ws : W) : (iv ws).map unV = ws := by
  unfold iv
  rw [List.map_map]
  have : (unV ∘ fun p : Row × Int => (p.1, V.int p.2)) = id := rfl
  rw [this, List.map_id]
theorem iv_un {l : List (List Key × V)} (h : IntVals l) : iv (l.map unV) = l := by
  unfold iv
  rw [List.map_map]
  have : ∀ x ∈ l, ((fun p : Row × Int => (p.1, V.int p.2)) ∘ unV) x = x := fun x hx => by
    obtain ⟨i, e⟩ := h x hx
    cases x with
    | mk a b =>
      have e' : b = .int i := e
      subst e'
      rfl
  rw [List.map_congr_left this, List.map_id']
theorem sort_un {ws : W} {l : List (List Key × V)} (nd : Nd ws) (pm : l.Perm (iv ws)) (so : l.Pairwise fun x y => ¬ rho (ws.map (·.1)) y.1 < rho (ws.map (·.1)) x.1) :
    ∃ us : W, iv us = l ∧ us.Perm ws ∧ Sorted us := by
  have hi : IntVals l := fun x hx => intVals_iv ws x (pm.mem_iff.mp hx)
  have hp : (l.map unV).Perm ws := by
    have := pm.map unV
    rw [un_iv] at this
    exact this
  refine ⟨l.map unV, iv_un hi, hp, ?_⟩
  have nd2 : Nd (l.map unV) := by
    unfold Nd
    exact (List.Perm.nodup_iff (hp.map fun q : Row × Int => q.1)).mpr nd
  have nd3 : (l.map unV).Pairwise fun x y => x.1 ≠ y.1 := by
    unfold Nd at nd2
    exact List.pairwise_map.mp nd2
  unfold Sorted
  have so2 : (l.map unV).Pairwise fun x y => ¬ rho (ws.map (·.1)) y.1 < rho (ws.map (·.1)) x.1 := List.pairwise_map.mpr so
  have mem : ∀ x ∈ l.map unV, x.1 ∈ ws.map (·.1) := fun x hx => List.mem_map.mpr ⟨x, hp.mem_iff.mp hx, rfl⟩
  have both := List.Pairwise.and so2 nd3
  refine List.Pairwise.imp_of_mem (fun {x y} hx hy h => ?_) both
  obtain ⟨h1, h2⟩ := h
  cases e : bef x.1 y.1 with
  | true => rfl
  | false =>
    have z := bef_tri h2 e
    rw [rho_iff (mem y hy) (mem x hx)] at z
    exact absurd (of_decide_eq_true z) h1
@[irreducible] def spRows (C Ps Pr Pl : Addr) : Sp := fun vs H Q _ => ∃ (a d : Addr) (ws : W), vs = [.ref a] ∧ BagD C H a d ws ∧ Nd ws ∧ (∀ p ∈ ws, OkR p.1) ∧ ws.length ≤ 1000 ∧ Tabs (TT Ps Pr Pl) H ∧
  ∀ H' l o ts us, ExtN H H' → Tabs (TT Ps Pr Pl) H' → H' l = some (.frz o (.tup (ts.map V.ref))) → o.dict = none → PairsOf H' ts (iv us) → us.Perm ws → Sorted us → Q (.ref l) H'
section
variable {P : Program} {w : World} {K : PySem.W.Frag} {mg : Str → Option Value} {base : Heap} {C f cR Ps Pr Pl fR fV : Addr} {fd fdR fdV : FuncData}
theorem scRows : FnScope ["self"] ["self"] (defScope (sM 3)) := ⟨rfl, rfl, rfl, by decide +kernel, rfl, by decide +kernel, by decide +kernel⟩
theorem ok_rows (F : FnP K "rows" "Bag.rows" (sM 3) [] f fd) (hc : fd.code = .ref cR) (TBr : LamX.TabB base mg cR Pr) (ap : Apart Ps Pr Pl) (B : TxtB K mg C) (T : TxtL mg)
    (FR : FnP K "row_rank" "row_rank" sRRank [] fR fdR) (gR : mg "row_rank" = some (.ref fR)) (FV : FnP K "value_rank" "value_rank" sVRank [] fV fdV) (gV : mg "value_rank" = some (.ref fV)) :
    FnOk P w K mg base CX0 6 f fd ["self"] (spRows C Ps Pr Pl) := by
  have GR : FnOk P w K mg base CX0 2 fR fdR ["row"] (spRRank K) := ok_rrank FR T FV gV
  have bR : Binds K fdR ["row"] [] := FR.bindsN fun _ _ _ _ _ _ us hl => match us, hl with | [_], _ => rfl
  refine okC F hc scRows (fun vs H Q E h => ?_) (fun A outer s H vs Q E hr h => ?_)
  · unfold spRows at h
    obtain ⟨_, _, _, rfl, _⟩ := h; rfl
  · unfold spRows at h
    obtain ⟨a, d, ws, rfl, ⟨dx, ha, hd⟩, nd, hok, hlen, ht, fin⟩ := h
    have hu66 : (A.deeper (envOfC (Str.ofString "Bag.rows") (defScope (sM 3)) s.heap.objs.size f (.ref cR))).units + 66 < cLine := by
      have := hr.un
      omega
    have qr : (Str.ofString "Bag.rows" ++ Str.ofString ".<locals>.") ++ Str.ofString "<lambda>" = qR := by decide +kernel
    refine ⟨_, PSs.nox <| pss_one (ps_ret (pe_callTy KG.cr_tupleF (by rfl) T.tuple (by decide +kernel) (pa_cons (pe_callBK (cr_sortedItK rfl hu66) (by rfl) T.sorted boot_sorted
      (pa_cons (pe_bm0 PySem.F.plainAttrs_dict PySem.F.slot_dict_items PySem.F.type_dict_items L2.DX.mt_itemsT (pe_fld (pv 0) rfl)) pa_nil)
      (pk_cons (pe_lamV (T := TT Ps Pr Pl) TBr rfl (show (Pr, (Str.ofString "Bag.rows" ++ Str.ofString ".<locals>.") ++ Str.ofString "<lambda>") ∈ TT Ps Pr Pl by rw [qr]; exact List.mem_cons_of_mem _ (List.mem_cons_self ..))
        (show ∀ p ∈ TT Ps Pr Pl, p.1 = Pr → p.2 = (Str.ofString "Bag.rows" ++ Str.ofString ".<locals>.") ++ Str.ofString "<lambda>" by
          rw [qr]
          intro p hp e
          rcases List.mem_cons.mp hp with z | h
          · rw [z] at e; exact absurd e ap.sr
          · rcases List.mem_cons.mp h with z | h
            · rw [z]
            · rcases List.mem_cons.mp h with z | h
              · rw [z] at e; exact absurd e.symm ap.rl
              · cases h) rfl (fun y hy e => by
          rcases List.mem_cons.mp hy with rfl | hy
          · cases e
          · rcases List.mem_cons.mp hy with rfl | hy
            · cases e
            · cases hy) rfl) pk_nil)) pa_nil))), ?_⟩
    refine ⟨_, rfl, a, C, dx, _, _, rfl, ha, B.cl, B.nW, bF_w d, .inr (.inr (.inl ⟨rfl, .inr ⟨_, hd⟩⟩)), d, _, rfl, rfl, hd, fun p hp => ?_⟩
    have e1 : KS.Ex H (upd H p (L2.DX.itemsO p d)) := Ex.upd hp
    refine ⟨ht.ext e1, fun fl c' H2 e2 t2 hfl hc' _ => ?_⟩
    refine ⟨p, d, fl, iv ws, fun x => rk x.1, fun x => rho (ws.map (·.1)) x.1, rfl, rfl, e2 _ _ upd_same (fun _ z => nomatch z), e2 _ _ (e1 _ _ hd) (fun _ z => nomatch z), ?_, ?_, ?_, ?_, ?_, ?_, fun H3 D zs e3 hD hD3 pm so ps => ?_⟩
    · intro x hx
      obtain ⟨q, hq, rfl⟩ := List.mem_map.mp hx
      exact shaped_rk (hok q hq).2.1
    · intro x _
      exact pure_rk _
    · intro x hx
      obtain ⟨q, hq, rfl⟩ := List.mem_map.mp hx
      obtain ⟨h1, _⟩ := hok q hq
      cases e : q.1 with
      | nil => exact absurd e h1
      | cons k r =>
        cases k with
        | inl i => exact ⟨_, _, rfl⟩
        | inr z => exact ⟨_, _, rfl⟩
    · intro x _ y _
      exact okL_rk _ _
    · intro x hx y hy
      obtain ⟨q, hq, rfl⟩ := List.mem_map.mp hx
      obtain ⟨r, hr2, rfl⟩ := List.mem_map.mp hy
      rw [ltL_rk]
      exact rho_iff (List.mem_map.mpr ⟨q, hq, rfl⟩) (List.mem_map.mpr ⟨r, hr2, rfl⟩)
    · refine keyCall_lam (k := 2) (N := ["pair"]) (pn := "pair") ⟨rfl, rfl, rfl, by decide +kernel, rfl, by decide +kernel, by decide +kernel⟩ hr hfl hc' (fun s pm ctv u => .of_eq rfl) ?_
      intro A2 outer2 s2 H4 hr2 x hx t q Q2 e4 h1 h2 hfin
      obtain ⟨q0, hq0, rfl⟩ := List.mem_map.mp hx
      refine ⟨_, pe_call GR hr2 (by rfl) gR FR.kp bR .nil pass0 (pa_cons (pe_ix ix_tup (pv 0) pe_int (fun _ _ => rfl)) pa_nil), ?_⟩
      exact ⟨_, rfl, t, _, 0, _, rfl, rfl, SqT.of h1, rfl, rrank_step h2 (hok q0 hq0).2.2 fun H5 y e5 dp => hfin _ _ e5 dp⟩
    · obtain ⟨us, hu, hpm, hso⟩ := sort_un nd pm so
      refine ⟨D, _, rfl, SqL.of hD3, fun l o ho hl => ?_⟩
      have e4 : KS.Ex H3 (upd H3 l (.frz o (.tup (zs.map fun z => V.ref z.1)))) := Ex.upd hl
      have em : (zs.map fun z => V.ref z.1) = (zs.map (·.1)).map V.ref := by rw [List.map_map]; rfl
      refine fin _ l o (zs.map (·.1)) us (((ExtN.of e1).trans e2).trans (ExtN.of (e3.trans e4))) (t2.ext (e3.trans e4)) (by rw [upd_same, em]) ho ?_ hpm hso
      rw [hu]
      refine PairsOf.ex ?_ fun b xs h => e4 b _ h
      have go : ∀ (zs : List (Addr × (List Key × V))), (∀ z ∈ zs, ∃ q, H3 z.1 = some (.tup [.ref q, z.2.2]) ∧ H3 q = some (.tup (z.2.1.map kV))) → PairsOf H3 (zs.map (·.1)) (zs.map (·.2)) := by
        intro zs
        induction zs with
        | nil => intro _; exact Paired.nil
        | cons z r ih => exact fun h => Paired.cons (h z (List.mem_cons_self ..)) (ih fun y hy => h y (List.mem_cons_of_mem _ hy))
      exact go zs ps
end
end KM
set_option Elab.async false
set_option linter.all false
set_option maxRecDepth 100000
set_option maxHeartbeats 4000000
namespace KM
open PySem PySem.Spec PyProof.Rows L2 KB KC KD KS RZ LamX
def rowD (k : Row) : PyData := .tuple (k.map dK)
def spreadD (us : W) : List PyData := us.flatMap fun p => List.replicate p.2.toNat (rowD p.1)
theorem spreadD_len {us : W} (h : ∀ p ∈ us, p.2 ≤ 1000) : (spreadD us).length ≤ us.length * 1000 := by
  induction us with
  | nil => simp [spreadD]
  | cons p r ih =>
    have h1 := ih fun q hq => h q (List.mem_cons_of_mem _ hq)
    have h2 := h p (List.mem_cons_self ..)
    unfold spreadD at h1 ⊢
    rw [List.flatMap_cons, List.length_append, List.length_replicate, List.length_cons]
    omega
theorem spreadD_snoc {us : W} {i : Nat} {p : Row × Int} (h : us[i]? = some p) : spreadD (us.take (i + 1)) = spreadD (us.take i) ++ List.replicate p.2.toNat (rowD p.1) := by
  unfold spreadD
  rw [take_snoc h, List.flatMap_append]
  simp
theorem pureL_app : ∀ (a b : List PyData), pureL (a ++ b) = (pureL a && pureL b)
  | [], b => by simp [pureL]
  | x :: a, b => by
    show (pureD x && pureL (a ++ b)) = ((pureD x && pureL a) && pureL b)
    rw [pureL_app a b, Bool.and_assoc]
theorem pure_row (k : Row) : pureD (rowD k) = true := by
  show pureL (k.map dK) = true
  induction k with
  | nil => rfl
  | cons x r ih =>
    show (pureD (dK x) && pureL (r.map dK)) = true
    rw [ih]
    cases x <;> rfl
theorem pure_rep (k : Row) : ∀ n, pureL (List.replicate n (rowD k)) = true
  | 0 => rfl
  | n + 1 => by
    show (pureD (rowD k) && pureL (List.replicate n (rowD k))) = true
    rw [pure_row, pure_rep k n]
    rfl
theorem pure_spread (us : W) : pureL (spreadD us) = true := by
  induction us with
  | nil => rfl
  | cons p r ih =>
    unfold spreadD at ih ⊢
    rw [List.flatMap_cons, pureL_app, pure_rep, ih]
    rfl
theorem dp_row {K : PySem.W.Frag} {H : Hp} {q : Addr} {k : Row} (h : H q = some (.tup (k.map kV))) : Dp K H (.ref q) (rowD k) := by
  have go : ∀ k : Row, DpAll K H (k.map kV) (k.map dK) := by
    intro k
    induction k with
    | nil => exact .nil
    | cons x r ih => exact .cons (dp_kV K H x) ih
  exact .tup (SqT.of h) (go k)
theorem keep_list {K : PySem.W.Frag} {H : Hp} {D : Addr} {xs ys vs : List V} {ds : List PyData} (hD : H D = some (.lst xs)) (hp : pureL ds = true) (h : DpAll K H vs ds) : DpAll K (upd H D (.lst ys)) vs ds := by
  refine dpAll_tups (fun b zs r => ?_) hp h
  rcases r with r | ⟨o, r⟩
  · exact .inl (by rw [L2.upd_ne (fun z => by rw [z, hD] at r; cases r)]; exact r)
  · exact .inr ⟨o, by rw [L2.upd_ne (fun z => by rw [z, hD] at r; cases r)]; exact r⟩
@[irreducible] def spSpread (K : PySem.W.Frag) (C CR Ps Pr Pl : Addr) : Sp := fun vs H Q E => ∃ (a d : Addr) (ws : W), vs = [.ref a] ∧ BagD C H a d ws ∧ Nd ws ∧ (∀ p ∈ ws, OkR p.1) ∧ ws.length ≤ 1000 ∧ (∀ p ∈ ws, p.2 ≤ 1000) ∧ Tabs (TT Ps Pr Pl) H ∧
  (posW ws = false → ∀ H', ExtN H H' → Tabs (TT Ps Pr Pl) H' → E (.ref CR) none H') ∧
  (posW ws = true → ∀ H' l us, ExtN H H' → Tabs (TT Ps Pr Pl) H' → Dp K H' (.ref l) (.tuple (spreadD us)) → us.Perm ws → Sorted us → Q (.ref l) H')
theorem rows_step {C Ps Pr Pl : Addr} {H : Hp} {a d : Addr} {ws : W} {Q : VK} {E : XK} (b : BagD C H a d ws) (nd : Nd ws) (ok : ∀ p ∈ ws, OkR p.1) (hl : ws.length ≤ 1000) (ht : Tabs (TT Ps Pr Pl) H)
    (fin : ∀ H' l o ts us, ExtN H H' → Tabs (TT Ps Pr Pl) H' → H' l = some (.frz o (.tup (ts.map V.ref))) → o.dict = none → PairsOf H' ts (iv us) → us.Perm ws → Sorted us → Q (.ref l) H') : spRows C Ps Pr Pl [.ref a] H Q E := by
  unfold spRows
  exact ⟨a, d, ws, rfl, b, nd, ok, hl, ht, fin⟩
theorem lc2_tup {K : PySem.W.Frag} {a : Addr} {xs : List V} {g : TG} {tt : L2.TT} {vs : List Nat} {σ : L2.St} {H1 : Hp} {D : Addr} {Qd : Hp → Prop} {In : L2.St → Hp → (Hp → Prop) → Prop} (Pv : Nat → Hp → Prop) (h0 : Pv 0 (upd H1 D (.lst []))) (hl : ∀ i H, i ≤ xs.length → Pv i H → SqT K H a xs)
    (hs : ∀ i x H, xs[i]? = some x → Pv i H → g x (wipe σ vs) H fun σ2 H2 => wipe σ2 vs = wipe σ vs ∧ tt σ2 H2 fun b H3 => if b = true then In σ2 H3 (Pv (i + 1)) else Pv (i + 1) H3) (hd : ∀ H, Pv xs.length H → Qd H) :
    ∃ W : Nat → Nat → Hp → Prop, (∃ m, W 0 m (upd H1 D (.lst []))) ∧ ∀ i m H, W i m H →
      ((Itt K a).stop i H ∧ Qd H) ∨ ((Itt K a).go i H ∧ ∃ Nx : Hp → Prop, (∀ H', Nx H' → ∃ m', m' < m ∧ W (i + 1) m' H') ∧ ∀ x H', (Itt K a).yld i H x H' → g x (wipe σ vs) H' fun σ2 H2 => wipe σ2 vs = wipe σ vs ∧ tt σ2 H2 fun b H3 => if b = true then In σ2 H3 Nx else Nx H3) := by
  refine ⟨fun i m H => m = xs.length - i ∧ i ≤ xs.length ∧ Pv i H, ⟨xs.length, rfl, Nat.zero_le _, h0⟩, ?_⟩
  rintro i m H ⟨rfl, hi, p⟩
  have q := hl i H hi p
  by_cases hlt : i < xs.length
  · refine .inr ⟨⟨xs, xs[i], q, List.getElem?_eq_getElem hlt⟩, Pv (i + 1), fun H' p' => ⟨xs.length - (i + 1), by omega, rfl, hlt, p'⟩, fun x H' y => ?_⟩
    obtain ⟨e, y⟩ := y
    subst e
    exact hs i x _ (y xs q) p
  · obtain rfl : i = xs.length := by omega
    exact .inl ⟨⟨xs, q, Nat.le_refl _⟩, hd H p⟩
theorem lc2_rng {n : Nat} {g1 : TG} {tt1 : L2.TT} {te : TE} {vs1 : List Nat} {σ2 : L2.St} {H4 : Hp} {D : Addr} {Nx : Hp → Prop} (Pv : Nat → Hp → Prop) (h0 : Pv 0 H4)
    (hs : ∀ j H, j < n → Pv j H → g1 (.int (0 + j)) (wipe σ2 vs1) H fun σ3 H5 => wipe σ3 vs1 = wipe σ2 vs1 ∧ tt1 σ3 H5 fun b H6 =>
      if b = true then te σ3 H6 fun y H7 => ∃ acc, H7 D = some (.lst acc) ∧ acc.length < sizeLine ∧ Pv (j + 1) (upd H7 D (.lst (acc ++ [y]))) else Pv (j + 1) H6) (hd : ∀ H, Pv n H → Nx H) :
    ∃ W1 : Nat → Nat → Hp → Prop, (∃ m, W1 0 m H4) ∧ ∀ j k H, W1 j k H →
      ((Itr 0 n).stop j H ∧ Nx H) ∨ ((Itr 0 n).go j H ∧ ∃ Nx1 : Hp → Prop, (∀ H', Nx1 H' → ∃ k', k' < k ∧ W1 (j + 1) k' H') ∧ ∀ x H', (Itr 0 n).yld j H x H' → g1 x (wipe σ2 vs1) H' fun σ3 H5 => wipe σ3 vs1 = wipe σ2 vs1 ∧ tt1 σ3 H5 fun b H6 =>
        if b = true then te σ3 H6 fun y H7 => ∃ acc, H7 D = some (.lst acc) ∧ acc.length < sizeLine ∧ Nx1 (upd H7 D (.lst (acc ++ [y]))) else Nx1 H6) := by
  refine ⟨fun j k H => k = n - j ∧ j ≤ n ∧ Pv j H, ⟨n, rfl, Nat.zero_le _, h0⟩, ?_⟩
  rintro j k H ⟨rfl, hj, p⟩
  by_cases hlt : j < n
  · refine .inr ⟨hlt, Pv (j + 1), fun H' p' => ⟨n - (j + 1), by omega, rfl, hlt, p'⟩, fun x H' y => ?_⟩
    obtain ⟨e, y⟩ := y
    subst e y
    exact hs j _ hlt p
  · obtain rfl : j = n := by omega
    exact .inl ⟨Nat.le_refl _, hd H p⟩
def veB : List Value := [.type "ValueError", .type "Exception", .type "BaseException", .type "object"]
structure TxtX (K : PySem.W.Frag) (mg : Str → Option Value) (CR : Addr) : Prop where
  g : mg "RowError" = some (.ref CR)
  x : PySem.W.excIn K CR veB "ValueError.__new__" = true
  k : PySem.W.keepIn K (.ref CR) = true
  b : PySem.W.subIn K (.ref CR) (.type "BaseException") = some true
  t : PySem.W.typeIn K (.ref CR) = some (.type "type")
  e : PySem.W.exmOne K (.ref CR) (.ref CR) = some true
structure TxtP (K : PySem.W.Frag) (mg : Str → Option Value) (base : Heap) (C cS Ps cR Pr Pl fR fV fS fRw : Addr) (fdR fdV fdS fdRw : FuncData) : Prop where
  B : TxtB K mg C
  T : TxtL mg
  ap : Apart Ps Pr Pl
  TBs : GxR.TabB base mg cS Ps
  TBr : LamX.TabB base mg cR Pr
  FR : FnP K "row_rank" "row_rank" sRRank [] fR fdR
  gR : mg "row_rank" = some (.ref fR)
  FV : FnP K "value_rank" "value_rank" sVRank [] fV fdV
  gV : mg "value_rank" = some (.ref fV)
  FS : FnP K "is_set" "Bag.is_set" (sM 9) [] fS fdS
  cS : fdS.code = .ref cS
  mS : Meth K C "is_set" fS
  FRw : FnP K "rows" "Bag.rows" (sM 3) [] fRw fdRw
  cR : fdRw.code = .ref cR
  mRw : Meth K C "rows" fRw
section
variable {P : Program} {w : World} {K : PySem.W.Frag} {mg : Str → Option Value} {base : Heap} {C CR f cS Ps cR Pr Pl fR fV fS fRw : Addr} {fd fdR fdV fdS fdRw : FuncData}
abbrev nSpr : List Str := ["self", "row", "weight", "_"]
theorem scSpread : FnScope nSpr ["self"] (defScope (sM 10)) := ⟨rfl, rfl, rfl, by decide +kernel, rfl, by decide +kernel, by decide +kernel⟩
theorem ok_spread (F : FnP K "spread" "Bag.spread" (sM 10) [] f fd) (M : TxtP K mg base C cS Ps cR Pr Pl fR fV fS fRw fdR fdV fdS fdRw) (TX : TxtX K mg CR) :
    FnOk P w K mg base (L2.CX P w) 7 f fd ["self"] (spSpread K C CR Ps Pr Pl) := by
  have GS : FnOk P w K mg base CX0 1 fS fdS ["self"] (spIsSet C Ps Pr Pl) := ok_isset M.FS M.cS M.TBs M.ap M.B M.T
  have GRw : FnOk P w K mg base CX0 6 fRw fdRw ["self"] (spRows C Ps Pr Pl) := ok_rows M.FRw M.cR M.TBr M.ap M.B M.T M.FR M.gR M.FV M.gV
  have bS : Binds K fdS ["self"] [] := M.FS.bindsN fun _ _ _ _ _ _ us hl => match us, hl with | [_], _ => rfl
  have bRw : Binds K fdRw ["self"] [] := M.FRw.bindsN fun _ _ _ _ _ _ us hl => match us, hl with | [_], _ => rfl
  refine F.ok scSpread (fun vs H Q E h => ?_) (fun cdv A outer s H vs Q E hr h => ?_)
  · unfold spSpread at h
    obtain ⟨_, _, _, rfl, _⟩ := h; rfl
  · unfold spSpread at h
    obtain ⟨a, d, ws, rfl, b1, nd, hok, hl, hw, ht, bad, good⟩ := h
    refine ⟨_, pss_cons (ps_if (pt_not (pt_val (pe_meth0 (pv 0) M.B.cl M.mS GS (hr.mono (by decide)) bS .nil pass0)))
        (pss_one (ps_raise rfl (takes_of rfl rfl rfl rfl) (pmk_own PySem.F.excBase_ValueError TX.x TX.g TX.k (raises_own TX.b TX.t) rfl))) pss_nil)
      (PSs.nox <| pss_one (ps_ret (pe_callTy call_tuple_of (by rfl) M.T.tuple (by decide +kernel) (pa_cons (pe_lc2 (own := [("row", 1), ("weight", 2), ("_", 3)]) (vs1 := [3]) (g := gTup K 2 (gCons (gName 1) (gCons (gName 2) gNil))) (g1 := gName 3) (tt := tYes) (tt1 := tYes) rfl scSpread.nd
        (pi_tup (pe_meth0 (pv 0) M.B.cl M.mRw GRw hr bRw .nil pass0)) (blkOk_by (N := nSpr) (sc := defScope (sM 10)) (by decide +kernel)) (by decide)
        (fun _ _ _ _ _ => pg_tup rfl (pgs_cons (pg_name (i := 1) scSpread.nd rfl (Or.inl rfl)) (pgs_cons (pg_name (i := 2) scSpread.nd rfl (Or.inl rfl)) pgs_nil))) (fun _ _ _ _ _ => pts_nil)
        (fun _ _ _ _ _ => pi_range1 (by rfl) M.T.range (pa_cons (pv 2) pa_nil)) (fun _ _ _ _ _ => pg_name (i := 3) scSpread.nd rfl (Or.inl rfl)) (fun _ _ _ _ _ => pts_nil)
        (fun _ _ _ _ _ => pv 1)) pa_nil)))), ?_⟩
    obtain ⟨dx, ha, hd⟩ := id b1
    refine ⟨_, rfl, a, dx, _, rfl, ha, bF_m (by decide +kernel), isset_step b1 ht fun H1 e1 t1 => ⟨posW ws, rfl, ?_⟩⟩
    cases e : posW ws with
    | false => exact ifT rfl (bad e H1 e1 t1)
    | true =>
      refine ifF (by decide) ?_
      refine ⟨_, rfl, a, dx, _, rfl, e1 _ _ ha (fun _ z => nomatch z), bF_m (by decide +kernel), rows_step (b1.exN e1) nd hok hl t1 fun H2 l o ts us e2 t2 hL ho hps hpm hso => ⟨l, rfl, ⟨_, .inl (.inr ⟨o, hL⟩)⟩, fun D hD => ?_⟩⟩
      have hlen := pairs_len hps
      have hwu : ∀ p ∈ us, p.2 ≤ 1000 := fun p hp => hw p (hpm.mem_iff.mp hp)
      have hul : us.length ≤ 1000 := by rw [hpm.length_eq]; exact hl
      have hpos : ∀ p ∈ us, 0 < p.2 := fun p hp => by
        have := List.all_eq_true.mp e p (hpm.mem_iff.mp hp)
        exact of_decide_eq_true this
      have bound : ∀ (i n : Nat) (p : Row × Int), us[i]? = some p → n ≤ p.2.toNat → (spreadD (us.take i)).length + n ≤ 1000000 := fun i n p hi hn => by
        have h1 := spreadD_len (us := us.take i) fun q hq => hwu q (List.mem_of_mem_take hq)
        have h2 := hwu p (List.mem_of_getElem? hi)
        have h3 : i < us.length := (List.getElem?_eq_some_iff.mp hi).1
        have h4 : (us.take i).length = i := by rw [List.length_take]; omega
        rw [h4] at h1
        omega
      refine lc2_tup (xs := ts.map V.ref) (In := fun σ2 H3 Nx => iRng1 (tCons (tVar 2) tNil) σ2 H3 fun J1 H4 => ∃ W1 : Nat → Nat → Hp → Prop, (∃ m, W1 0 m H4) ∧ ∀ j k H, W1 j k H →
          (J1.stop j H ∧ Nx H) ∨ (J1.go j H ∧ ∃ Nx1 : Hp → Prop, (∀ H', Nx1 H' → ∃ k', k' < k ∧ W1 (j + 1) k' H') ∧ ∀ x H', J1.yld j H x H' → (gName 3) x (wipe σ2 [3]) H' fun σ3 H5 => wipe σ3 [3] = wipe σ2 [3] ∧ tYes σ3 H5 fun b H6 =>
            if b = true then (tVar 1) σ3 H6 fun y H7 => ∃ acc, H7 D = some (.lst acc) ∧ acc.length < sizeLine ∧ Nx1 (upd H7 D (.lst (acc ++ [y]))) else Nx1 H6))
        (fun i H3 => KS.Ex H2 H3 ∧ ∃ xs, H3 D = some (.lst xs) ∧ DpAll K H3 xs (spreadD (us.take i)))
        ⟨Ex.upd hD, [], upd_same, .nil⟩ (fun i H3 _ ⟨e3, _⟩ => .inl (.inr ⟨o, e3 _ _ hL⟩)) ?_ ?_
      · rintro i x H3 hx ⟨e3, xs, hx3, hdp⟩
        obtain ⟨t, ht', rfl⟩ := map_ref_at hx
        obtain ⟨p, q, hi, hT, hK⟩ := pairs_at hps ht'
        have hpp := hpos p (List.mem_of_getElem? hi)
        have hpw := hwu p (List.mem_of_getElem? hi)
        refine ⟨t, _, rfl, SqT.of (e3 _ _ hT), rfl, _, _, rfl, _, _, rfl, rfl, rfl, ?_⟩
        refine ⟨_, rfl, p.2, rfl, by omega, by omega, ?_⟩
        refine lc2_rng (fun j H4 => KS.Ex H2 H4 ∧ ∃ xs, H4 D = some (.lst xs) ∧ DpAll K H4 xs (spreadD (us.take i) ++ List.replicate j (rowD p.1))) ⟨e3, xs, hx3, by simpa using hdp⟩ ?_ ?_
        · rintro j H4 hj ⟨e4, ys, hy4, hdp4⟩
          refine ⟨rfl, ?_⟩
          have hl4 := dpAll_length hdp4
          rw [List.length_append, List.length_replicate] at hl4
          have hb := bound i j p hi (by omega)
          refine ⟨_, rfl, ys, hy4, ?_, Ex.on e4 hD, _, upd_same, ?_⟩
          · have : sizeLine = 16777216 := rfl
            omega
          · have hd5 : DpAll K H4 (ys ++ [.ref q]) ((spreadD (us.take i) ++ List.replicate j (rowD p.1)) ++ [rowD p.1]) := dpAll_snoc hdp4 (dp_row (e4 _ _ hK))
            have er : List.replicate (j + 1) (rowD p.1) = List.replicate j (rowD p.1) ++ [rowD p.1] := by rw [List.replicate_succ']
            rw [er, ← List.append_assoc]
            refine keep_list hy4 ?_ hd5
            rw [pureL_app, pureL_app, pure_spread, pure_rep]
            show (true && true && (pureD (rowD p.1) && true)) = true
            rw [pure_row]
            rfl
        · rintro H4 ⟨e4, ys, hy4, hdp4⟩
          refine ⟨e4, ys, hy4, ?_⟩
          rw [spreadD_snoc hi]
          exact hdp4
      · rintro H3 ⟨e3, xs, hx3, hdp⟩
        rw [List.length_map, hlen, List.take_length] at hdp
        refine ⟨D, xs, rfl, .inl ⟨SqL.of hx3, fun l2 hl2 => ?_⟩⟩
        exact good e _ l2 us ((e1.trans e2).trans (ExtN.of (e3.trans (Ex.upd hl2)))) (t2.ext (e3.trans (Ex.upd hl2))) (.tup (SqT.of upd_same) (dpAll_ex (Ex.upd hl2) hdp)) hpm hso
end
end KM
set_option Elab.async false
set_option linter.all false
set_option maxRecDepth 100000
set_option maxHeartbeats 4000000
namespace KM
open PySem PySem.Spec PyProof.Rows L2 KB KC KD KS RZ LamX
def forBody : Stmt → List Stmt
  | .For _ _ body _ _ => body
  | _ => []
abbrev law0 : List Stmt := forBody ((defBody sLaw).getD 0 (.Pass ⟨0,0,0,0⟩))
abbrev bagBody : List Stmt := forBody (law0.getD 3 (.Pass ⟨0,0,0,0⟩))
theorem dget_frz {H : Hp} {e b : Addr} {od : Obj} {ws : W} {p : Row × Int} (h : H e = some (.frz od (.dT (iv ws)))) (nd : Nd ws) (hp : p ∈ ws) (hb : H b = some (.tup (p.1.map kV))) : DGet H e (.ref b) (some (.int p.2)) :=
  .inr ⟨_, p.1, b, .inr ⟨od, h⟩, rfl, hb, by rw [valV_iv, (look_mem nd).mpr hp]; rfl⟩
theorem iv_at {ws : W} {j : Nat} {k : List Key} {v : V} (h : (iv ws)[j]? = some (k, v)) : ∃ p, ws[j]? = some p ∧ k = p.1 ∧ v = .int p.2 := by
  unfold iv at h
  rw [List.getElem?_map] at h
  obtain ⟨p, h1, h2⟩ := Option.map_eq_some_iff.mp h
  obtain ⟨h3, h4⟩ := Prod.mk.inj h2
  exact ⟨p, h1, h3.symm, h4.symm⟩
theorem lcK {K : PySem.W.Frag} {e D : Addr} {od : Obj} {ws : W} {HL : Hp} {tt : L2.TT} {i : Nat} {σ : L2.St} {Qd : Hp → Prop} (G : Row × Int → Bool) (hi : i < σ.length) (he : HL e = some (.frz od (.dT (iv ws)))) (hz : ws.length ≤ 1000) (hD : HL D = none)
    (turn : ∀ (p : Row × Int) (q : Addr) (H3 : Hp) (R : Bool → Hp → Prop), KS.Ex HL H3 → p ∈ ws → H3 q = some (.tup (p.1.map kV)) → (∀ H4, KS.Ex H3 H4 → R (G p) H4) → tt ((wipe σ [i]).set i (some (.ref q))) H3 R)
    (fin : ∀ (H3 : Hp) (xs : List V), KS.Ex HL H3 → H3 D = some (.lst xs) → DpAll K H3 xs ((ws.filter G).map fun p => rowD p.1) → Qd H3) :
    ∃ W : Nat → Nat → Hp → Prop, (∃ m, W 0 m (upd HL D (.lst []))) ∧ ∀ j m H, W j m H →
      ((Itkt e od (iv ws)).stop j H ∧ Qd H) ∨ ((Itkt e od (iv ws)).go j H ∧ ∃ Nx : Hp → Prop, (∀ H', Nx H' → ∃ m', m' < m ∧ W (j + 1) m' H') ∧ ∀ x H', (Itkt e od (iv ws)).yld j H x H' → (gName i) x (wipe σ [i]) H' fun σ2 H2 => wipe σ2 [i] = wipe σ [i] ∧ tt σ2 H2 fun b H3 =>
        if b = true then (tVar i) σ2 H3 fun y H4 => ∃ acc, H4 D = some (.lst acc) ∧ acc.length < sizeLine ∧ Nx (upd H4 D (.lst (acc ++ [y]))) else Nx H3) := by
  have len_w : (wipe σ [i]).length = σ.length := wipe_length _ _
  have ww : ∀ x, wipe ((wipe σ [i]).set i x) [i] = wipe σ [i] := fun x => by
    show ((σ.set i none).set i x).set i none = σ.set i none
    rw [List.set_set, List.set_set]
  refine lc_it walk_keysT (fun j H3 => KS.Ex HL H3 ∧ ∃ xs, H3 D = some (.lst xs) ∧ DpAll K H3 xs (((ws.take j).filter G).map fun p => rowD p.1)) ⟨Ex.upd hD, [], upd_same, .nil⟩ (fun j H _ h => h.1 _ _ he) ?_ ?_
  · rintro j x H0 H3 hj ⟨e3, xs, hx3, hdp⟩ ⟨rfl, k, v, q, hv, rfl, hq⟩
    obtain ⟨p, hp, rfl, rfl⟩ := iv_at hv
    have hpm := List.mem_of_getElem? hp
    have hnew : ((ws.take (j + 1)).filter G).map (fun p => rowD p.1) = ((ws.take j).filter G).map (fun p => rowD p.1) ++ (if G p = true then [rowD p.1] else []) := by
      rw [take_snoc hp, List.filter_append, List.map_append]
      congr 1
      cases e : G p <;> simp [List.filter_cons, e]
    refine ⟨ww _, turn p q H3 _ e3 hpm hq fun H4 e4 => ?_⟩
    have hx4 := e4 _ _ hx3
    have hd4 := dpAll_ex e4 hdp
    cases hg : G p with
    | false =>
      refine iteF ⟨e3.trans e4, xs, hx4, ?_⟩
      rw [hnew, hg, if_neg (by decide), List.append_nil]
      exact hd4
    | true =>
      refine iteT ⟨.ref q, ?_, xs, hx4, ?_, Ex.on (e3.trans e4) hD, _, upd_same, ?_⟩
      · show ((wipe σ [i]).set i (some (V.ref q)))[i]? = _
        rw [List.getElem?_set_self (by rw [len_w]; exact hi)]
      · have l1 := dpAll_length hdp
        rw [List.length_map] at l1
        have l2 := List.length_filter_le G (ws.take j)
        rw [List.length_take] at l2
        have : sizeLine = 16777216 := rfl
        omega
      · rw [hnew, hg, if_pos rfl]
        refine keep_list hx4 ?_ (dpAll_snoc hd4 (dp_row (e4 _ _ hq)))
        rw [pureL_app]
        have go : ∀ l : W, pureL (l.map fun p => rowD p.1) = true := by
          intro l
          induction l with
          | nil => rfl
          | cons a r ih =>
            show (pureD (rowD a.1) && pureL (r.map fun p => rowD p.1)) = true
            rw [pure_row, ih]
            rfl
        rw [go]
        show (true && (pureD (rowD p.1) && true)) = true
        rw [pure_row]
        rfl
  · rintro H3 ⟨e3, xs, hx3, hdp⟩
    rw [iv_len, List.take_length] at hdp
    exact fin H3 xs e3 hx3 hdp
theorem lcKP {e D : Addr} {od : Obj} {ws : W} {HL : Hp} {g : TG} {tt : L2.TT} {te : TE} {vs : List Nat} {σ : L2.St} {Qd : Hp → Prop} (G : Row × Int → Option (Row × Int)) (he : HL e = some (.frz od (.dT (iv ws)))) (hz : ws.length ≤ 1000) (hD : HL D = none)
    (turn : ∀ (p : Row × Int) (q : Addr) (H2 : Hp) (R : V → Hp → Prop) (R' : Hp → Prop), KS.Ex HL H2 → p ∈ ws → H2 q = some (.tup (p.1.map kV)) → (G p = none → R' H2) →
      (∀ (p' : Row × Int) (y q' : Addr) (H4 : Hp), G p = some p' → KS.Ex H2 H4 → H4 y = some (.tup [.ref q', .int p'.2]) → H4 q' = some (.tup (p'.1.map kV)) → R (.ref y) H4) →
      g (.ref q) (wipe σ vs) H2 fun σ2 H3 => wipe σ2 vs = wipe σ vs ∧ tt σ2 H3 fun b H3 => if b = true then te σ2 H3 R else R' H3)
    (fin : ∀ (H2 : Hp) (us : List Addr), KS.Ex HL H2 → H2 D = some (.lst (us.map V.ref)) → PairsOf H2 us (iv (ws.filterMap G)) → Qd H2) :
    ∃ W : Nat → Nat → Hp → Prop, (∃ m, W 0 m (upd HL D (.lst []))) ∧ ∀ j m H, W j m H →
      ((Itkt e od (iv ws)).stop j H ∧ Qd H) ∨ ((Itkt e od (iv ws)).go j H ∧ ∃ Nx : Hp → Prop, (∀ H', Nx H' → ∃ m', m' < m ∧ W (j + 1) m' H') ∧ ∀ x H', (Itkt e od (iv ws)).yld j H x H' → g x (wipe σ vs) H' fun σ2 H2 => wipe σ2 vs = wipe σ vs ∧ tt σ2 H2 fun b H3 =>
        if b = true then te σ2 H3 fun y H4 => ∃ acc, H4 D = some (.lst acc) ∧ acc.length < sizeLine ∧ Nx (upd H4 D (.lst (acc ++ [y]))) else Nx H3) := by
  refine lc_it walk_keysT (fun j H3 => KS.Ex HL H3 ∧ ∃ us, H3 D = some (.lst (us.map V.ref)) ∧ PairsOf H3 us (iv ((ws.take j).filterMap G))) ⟨Ex.upd hD, [], upd_same, Paired.nil⟩ (fun j H _ h => h.1 _ _ he) ?_ ?_
  · rintro j x H0 H2 hj ⟨e2, us, hu, hps⟩ ⟨rfl, k, v, q, hv, rfl, hK⟩
    obtain ⟨p, hi, rfl, rfl⟩ := iv_at hv
    have hpm := List.mem_of_getElem? hi
    have hnew := filterMap_snoc (G := G) hi
    refine turn p q H2 (fun y H4 => ∃ acc, H4 D = some (.lst acc) ∧ acc.length < sizeLine ∧ KS.Ex HL (upd H4 D (.lst (acc ++ [y]))) ∧ ∃ us, (upd H4 D (.lst (acc ++ [y]))) D = some (.lst (us.map V.ref)) ∧ PairsOf (upd H4 D (.lst (acc ++ [y]))) us (iv ((ws.take (j + 1)).filterMap G)))
      (fun H3 => KS.Ex HL H3 ∧ ∃ us, H3 D = some (.lst (us.map V.ref)) ∧ PairsOf H3 us (iv ((ws.take (j + 1)).filterMap G))) e2 hpm hK (fun hn => ?_) (fun p' y q' H4 hg e4 h1 h2 => ?_)
    · rw [hnew, hn]
      exact ⟨e2, us, hu, by simpa using hps⟩
    · rw [hg] at hnew
      have hu4 := e4 _ _ hu
      have keepT : ∀ b xs, H4 b = some (.tup xs) → (upd H4 D (.lst (us.map V.ref ++ [.ref y]))) b = some (.tup xs) := fun b xs h => by
        rw [L2.upd_ne (fun z => by rw [z, hu4] at h; cases h)]; exact h
      refine ⟨us.map V.ref, hu4, ?_, Ex.on (e2.trans e4) hD, us ++ [y], ?_, ?_⟩
      · have l1 := pairs_len hps
        have l2 := List.length_filterMap_le G (ws.take j)
        rw [List.length_map, l1]
        rw [List.length_take] at l2
        have : sizeLine = 16777216 := rfl
        omega
      · rw [upd_same, List.map_append]; rfl
      · rw [hnew, iv_append]
        exact paired_snoc (PairsOf.ex hps fun b xs h => keepT b xs (e4 b _ h)) ⟨q', keepT _ _ h1, keepT _ _ h2⟩
  · rintro H2 ⟨e2, us, hu, hps⟩
    rw [iv_len, List.take_length] at hps
    exact fin H2 us e2 hu hps
end KM
set_option Elab.async false
set_option linter.all false
set_option maxRecDepth 100000
set_option maxHeartbeats 1000000
namespace KM
open PySem PySem.Spec PyProof.Rows L2 KB KC KD KS RZ LamX
theorem spread_step {K : PySem.W.Frag} {C CR Ps Pr Pl : Addr} {H : Hp} {a d : Addr} {ws : W} {Q : VK} {E : XK} (b : BagD C H a d ws) (nd : Nd ws) (ok : ∀ p ∈ ws, OkR p.1) (hl : ws.length ≤ 1000) (hw : ∀ p ∈ ws, p.2 ≤ 1000) (ht : Tabs (TT Ps Pr Pl) H)
    (bad : posW ws = false → ∀ H', ExtN H H' → Tabs (TT Ps Pr Pl) H' → E (.ref CR) none H')
    (good : posW ws = true → ∀ H' l us, ExtN H H' → Tabs (TT Ps Pr Pl) H' → Dp K H' (.ref l) (.tuple (spreadD us)) → us.Perm ws → Sorted us → Q (.ref l) H') : spSpread K C CR Ps Pr Pl [.ref a] H Q E := by
  unfold spSpread
  exact ⟨a, d, ws, rfl, b, nd, ok, hl, hw, ht, bad, good⟩
def Cal (P : Program) (w : World) (K : PySem.W.Frag) (mg : Str → Option Value) (base : Heap) (k : Nat) (x : Str) (ps : List Str) (sp : Sp) : Prop :=
  ∃ f fd, FnOk P w K mg base CX0 k f fd ps sp ∧ mg x = some (.ref f) ∧ PySem.W.keepIn K (.ref f) = true ∧ Binds K fd ps []
def CalM (P : Program) (w : World) (K : PySem.W.Frag) (mg : Str → Option Value) (base : Heap) (C : Addr) (CX : CXT) (k : Nat) (m : Str) (ps : List Str) (sp : Sp) : Prop :=
  ∃ f fd, FnOk P w K mg base CX k f fd ps sp ∧ Meth K C m f ∧ Binds K fd ps []
structure LawE (P : Program) (w : World) (K : PySem.W.Frag) (mg : Str → Option Value) (base : Heap) (C CR Ps Pr Pl cL fTo : Addr) (fdTo : FuncData) : Prop where
  T : TxtL mg
  B : TxtB K mg C
  X : TxtX K mg CR
  ap : Apart Ps Pr Pl
  TBl : LamX.TabB base mg cL Pl
  rounds : Cal P w K mg base 2 "_law_rounds" ["script", "most"] (spRounds K)
  drawn : Cal P w K mg base 2 "_law_drawn" ["dice"] spDrawn
  roll : Cal P w K mg base 1 "_law_roll" ["dice", "many"] spRoll
  sums : Cal P w K mg base 1 "_law_sums" ["rows"] spSums
  before : Cal P w K mg base 1 "_law_before" ["one", "other"] spBefore
  same : Cal P w K mg base 1 "same_bags" ["one", "other"] (spSame C)
  vrank : Cal P w K mg base 1 "value_rank" ["value"] spVRank
  rrank : Cal P w K mg base 2 "row_rank" ["row"] (spRRank K)
  add : CalM P w K mg base C CX0 1 "add" ["self", "row", "weight"] (spAdd C)
  weight : CalM P w K mg base C CX0 1 "weight" ["self", "row"] (spWeight C)
  rows : CalM P w K mg base C CX0 6 "rows" ["self"] (spRows C Ps Pr Pl)
  plus : CalM P w K mg base C CX0 4 "plus" ["self", "other"] (spPlus C)
  times : CalM P w K mg base C CX0 4 "times" ["self", "number"] (spTimes C)
  minus : CalM P w K mg base C CX0 5 "minus" ["self", "other"] (spMinus C)
  once : CalM P w K mg base C CX0 4 "once" ["self"] (spOnce C)
  isset : CalM P w K mg base C CX0 1 "is_set" ["self"] (spIsSet C Ps Pr Pl)
  spread : CalM P w K mg base C (L2.CX P w) 7 "spread" ["self"] (spSpread K C CR Ps Pr Pl)
  told : FnP K "_law_told" "_law_told" sTold [] fTo fdTo
  gTold : mg "_law_told" = some (.ref fTo)
abbrev nLaw : List Str := ["script", "dice", "first", "second", "number", "one", "other", "row", "weight", "due", "rows", "sums", "told_now", "spread", "whole", "fresh", "bag", "k"]
theorem scLaw : FnScope nLaw ["script"] (defScope sLaw) := ⟨rfl, rfl, rfl, by decide +kernel, rfl, by decide +kernel, by decide +kernel⟩
theorem scTold : FnScope ["what"] ["what"] (defScope sTold) := ⟨rfl, rfl, rfl, by decide +kernel, rfl, by decide +kernel, by decide +kernel⟩
section
variable {P : Program} {w : World} {K : PySem.W.Frag} {mg : Str → Option Value} {base : Heap} {C CR Ps Pr Pl cL fTo fL : Addr} {fdTo : FuncData} {A : Around} {outer : List PySem.Env} {s : Shared} {H0 : Hp} {E0' : XK}
abbrev xLaw (P : Program) (w : World) (K : PySem.W.Frag) (mg : Str → Option Value) (base : Heap) (fL cL : Addr) (A : Around) (outer : List PySem.Env) (s : Shared) (H0 : Hp) (E0' : XK) : Cx := (cxOf CX0 P w K mg base nLaw "law" (defScope sLaw) fL (.ref cL) A outer s H0 E0').nox
theorem qLaw : (Str.ofString "law" ++ Str.ofString ".<locals>.") ++ Str.ofString "<lambda>" = qL := by decide +kernel
theorem part_told (ve : LawE P w K mg base C CR Ps Pr Pl cL fTo fdTo) (hr : Room 11 (xLaw P w K mg base fL cL A outer s H0 E0').A) :
    ∃ t, PS (xLaw P w K mg base fL cL A outer s H0 E0') (bagBody.getD 4 (.Pass ⟨0,0,0,0⟩)) t ∧ ∀ (D : Ends) (σ : L2.St) (H : Hp) (b d : Addr) (ws : W), σ[16]? = some (some (.ref b)) → BagD C H b d ws → Nd ws → (∀ p ∈ ws, OkR p.1) → ws.length ≤ 1000 → (∀ p ∈ ws, p.2 ≤ 1000) → Tabs (TT Ps Pr Pl) H →
      (∀ (H' : Hp) (sp : V) (wh : Addr), ExtN H H' → Tabs (TT Ps Pr Pl) H' → H' wh = some (.lst []) → ((posW ws = false ∧ sp = .str "RowError") ∨ (posW ws = true ∧ ∃ l us, sp = .ref l ∧ Dp K H' sp (.tuple (spreadD us)) ∧ us.Perm ws ∧ Sorted us)) →
        D.nx ((σ.set 13 (some sp)).set 14 (some (.ref wh))) H') → t D σ H := by
  obtain ⟨fS, fdS, GS, mS, bS⟩ := ve.spread
  obtain ⟨oc, od, dV, kV, doc, pm, an, cdv, ct, osl, rfl, lk, hcd, _, _⟩ := ve.told.ex
  have bT := ve.told.bindsN (ps := ["what"]) fun _ _ _ _ _ _ us hl => match us, hl with | [_], _ => rfl
  refine ⟨_, ps_par (i := 13) (j := 14) rfl scLaw.nd rfl rfl (by decide) rfl rfl (pa_cons (pe_lamcall (T := TT Ps Pr Pl) (P := Pl) (c := cL) (k := 9) (by rfl) ve.gTold ve.told.kp lk hcd bT scTold rfl (Or.inl rfl)
      (told_gives (by rfl) ve.X.g (by decide +kernel) (fun f => rfl)) ve.TBl rfl
      (show (Pl, (Str.ofString "law" ++ Str.ofString ".<locals>.") ++ Str.ofString "<lambda>") ∈ TT Ps Pr Pl by rw [qLaw]; exact List.mem_cons_of_mem _ (List.mem_cons_of_mem _ (List.mem_cons_self ..)))
      (show ∀ p ∈ TT Ps Pr Pl, p.1 = Pl → p.2 = (Str.ofString "law" ++ Str.ofString ".<locals>.") ++ Str.ofString "<lambda>" by
          rw [qLaw]
          intro p hp e
          rcases List.mem_cons.mp hp with z | h
          · rw [z] at e; exact absurd e ve.ap.sl
          · rcases List.mem_cons.mp h with z | h
            · rw [z] at e; exact absurd e ve.ap.rl
            · rcases List.mem_cons.mp h with z | h
              · rw [z]
              · cases h)
      hr (lamS_by (by show lamSB (defScope sLaw) _ = true; decide +kernel)) rfl (fun _ _ _ _ _ => rfl)
      (fun A outer s H E f c' hr' => pe_meth0 (pv 16) ve.B.cl mS GS (hr'.mono (by decide)) bS .nil (passes_call (takes_of rfl rfl rfl rfl) (fun _ _ _ _ h => h)))) (pa_cons (pe_lst pa_nil) pa_nil)) (by rfl), ?_⟩
  intro D σ H b d ws hσ hb nd ok hl hw ht fin
  obtain ⟨dx, ha, hd⟩ := id hb
  refine ⟨ht, fun H1 e1 t1 => ?_⟩
  refine ⟨_, hσ, b, dx, _, rfl, e1 _ _ ha (fun _ z => nomatch z), bF_m (by decide +kernel), spread_step (hb.exN e1) nd ok hl hw t1 (fun hp H2 e2 t2 => ?_) (fun hp H2 l us e2 t2 dp pm so => ?_)⟩
  · refine ⟨true, ve.X.e, fun _ => ⟨by decide, fun wh hwh => ⟨_, _, rfl, ?_⟩⟩, fun z => nomatch z⟩
    exact fin _ _ wh ((e1.trans e2).trans (ExtN.of (Ex.upd hwh))) (t2.ext (Ex.upd hwh)) upd_same (.inl ⟨hp, rfl⟩)
  · refine ⟨by decide, fun wh hwh => ⟨_, _, rfl, ?_⟩⟩
    exact fin _ _ wh ((e1.trans e2).trans (ExtN.of (Ex.upd hwh))) (t2.ext (Ex.upd hwh)) upd_same (.inr ⟨hp, l, us, rfl, dp_ex (Ex.upd hwh) dp, pm, so⟩)
end
end KM
set_option Elab.async false
set_option linter.all false
set_option maxRecDepth 100000
set_option maxHeartbeats 1000000
namespace KM
open PySem PySem.Spec PyProof.Rows L2 KB KC KD KS RZ LamX
theorem sums_step {H : Hp} {r : Addr} {ts : List Addr} {rows : W} {Q : VK} {E : XK} (h : H r = some (.lst (ts.map V.ref))) (hp : PairsOf H ts (iv rows)) (hl : rows.length ≤ 64) (fin : ∀ H' e, Ex H H' → H e = none → H' e = some (.dT (iv (sums rows))) → Q (.ref e) H') : spSums [.ref r] H Q E := by
  unfold spSums
  exact ⟨r, ts, rows, rfl, h, hp, hl, fin⟩
theorem before_step {H : Hp} {a b : Addr} {k1 k2 : Row} {Q : VK} {E : XK} (h1 : H a = some (.tup (k1.map kV))) (h2 : H b = some (.tup (k2.map kV))) (g1 : GoodR k1) (g2 : GoodR k2) (fin : ∀ H', Ex H H' → Q (.bl (bef k1 k2)) H') : spBefore [.ref a, .ref b] H Q E := by
  unfold spBefore
  exact ⟨a, b, k1, k2, rfl, h1, h2, g1, g2, fin⟩
section
variable {P : Program} {w : World} {K : PySem.W.Frag} {mg : Str → Option Value} {base : Heap} {C CR Ps Pr Pl cL fTo fL : Addr} {fdTo : FuncData} {A : Around} {outer : List PySem.Env} {s : Shared} {H0 : Hp} {E0' : XK}
theorem part_0 (ve : LawE P w K mg base C CR Ps Pr Pl cL fTo fdTo) (hr : Room 11 (xLaw P w K mg base fL cL A outer s H0 E0').A) :
    ∃ t, PS (xLaw P w K mg base fL cL A outer s H0 E0') (bagBody.getD 0 (.Pass ⟨0,0,0,0⟩)) t ∧ ∀ (D : Ends) (a0 a1 a2 a3 a4 a5 a6 a7 a8 a9 a11 a12 a13 a14 a15 a17 : Option V) (H : Hp) (b d l : Addr) (ts : List Addr) (rows ws : W),
      BagD C H b d ws → Nd ws → (∀ p ∈ ws, OkR p.1) → ws.length ≤ 1000 → H l = some (.lst (ts.map V.ref)) → PairsOf H ts (iv rows) → rows.length ≤ 64 → Tabs (TT Ps Pr Pl) H →
      (∀ (H' : Hp) (e tn : Addr) (o : Obj) (us' : List Addr) (us : W), H e = none → ExtN H H' → Tabs (TT Ps Pr Pl) H' → H' e = some (.dT (iv (sums rows))) → H' tn = some (.frz o (.tup (us'.map V.ref))) → o.dict = none → PairsOf H' us' (iv us) → us.Perm ws → Sorted us →
        D.nx [a0, a1, a2, a3, a4, a5, a6, a7, a8, a9, some (.ref l), some (.ref e), some (.ref tn), a13, a14, a15, some (.ref b), a17] H') →
      t D [a0, a1, a2, a3, a4, a5, a6, a7, a8, a9, some (.ref l), a11, a12, a13, a14, a15, some (.ref b), a17] H := by
  obtain ⟨f1, fd1, G1, g1, k1, b1⟩ := ve.sums
  obtain ⟨f2, fd2, G2, m2, b2⟩ := ve.rows
  refine ⟨_, ps_asg (pe_tup (pa_cons (pe_call G1 (hr.mono (by decide)) (by rfl) g1 k1 b1 .nil pass0 (pa_cons (pv 10) pa_nil)) (pa_cons (pe_meth0 (pv 16) ve.B.cl m2 G2 (hr.mono (by decide)) b2 .nil pass0) pa_nil)))
    (pg_tup rfl (pgs_cons (pg_name (i := 11) scLaw.nd rfl (Or.inr rfl)) (pgs_cons (pg_name (i := 12) scLaw.nd rfl (Or.inr rfl)) pgs_nil))), ?_⟩
  intro D a0 a1 a2 a3 a4 a5 a6 a7 a8 a9 a11 a12 a13 a14 a15 a17 H b d l ts rows ws hb nd ok hl hlist hps h64 ht fin
  obtain ⟨dx, ha, hd⟩ := id hb
  refine ⟨_, rfl, sums_step hlist hps h64 fun H1 e e1 hne he => ⟨_, rfl, b, dx, _, rfl, e1 _ _ ha, bF_m (by decide +kernel), rows_step (hb.ex e1) nd ok hl (ht.ext e1) fun H2 tn o us' us e2 t2 htn ho hp2 pm so => ⟨by show 2 ≤ sizeLine; decide, fun p hp => ?_⟩⟩⟩
  refine ⟨p, _, rfl, SqT.of upd_same, rfl, _, _, rfl, _, _, rfl, rfl, ?_⟩
  exact fin _ e tn o us' us hne (((ExtN.of e1).trans e2).trans (ExtN.of (Ex.upd hp))) (t2.ext (Ex.upd hp)) (Ex.upd hp _ _ (e2 _ _ he (fun _ z => nomatch z))) (Ex.upd hp _ _ htn) ho (PairsOf.ex hp2 fun b xs h => Ex.upd hp b _ h) pm so
theorem part_1 (ve : LawE P w K mg base C CR Ps Pr Pl cL fTo fdTo) (hr : Room 11 (xLaw P w K mg base fL cL A outer s H0 E0').A) :
    ∃ t, PS (xLaw P w K mg base fL cL A outer s H0 E0') (bagBody.getD 1 (.Pass ⟨0,0,0,0⟩)) t ∧ ∀ (D : Ends) (a0 a1 a2 a3 a4 a5 a6 a7 a8 a9 a10 a13 a14 a15 a17 : Option V) (H : Hp) (b d e tn : Addr) (o : Obj) (us' : List Addr) (ws us sm : W),
      BagD C H b d ws → H e = some (.dT (iv sm)) → H tn = some (.frz o (.tup (us'.map V.ref))) → o.dict = none → PairsOf H us' (iv us) → us.Perm ws → Sorted us → (∃ f, Rep ws f ∧ Rep sm f) → ws.length ≤ 1000 → (∀ p ∈ us, GoodR p.1) →
      (∀ (H' : Hp), ExtN H H' → KS.Ex H H' → D.nx [a0, a1, a2, a3, a4, a5, a6, a7, a8, a9, a10, some (.ref e), some (.ref tn), a13, a14, a15, some (.ref b), a17] H') →
      t D [a0, a1, a2, a3, a4, a5, a6, a7, a8, a9, a10, some (.ref e), some (.ref tn), a13, a14, a15, some (.ref b), a17] H := by
  obtain ⟨f1, fd1, G1, g1, k1, b1⟩ := ve.before
  have hu := hr.units
  have hu1 := Nat.lt_trans (Nat.add_lt_add_left (by decide : 1 < 64) _) hu
  have hu4 := Nat.lt_trans (Nat.add_lt_add_left (by decide : 4 < 64) _) hu
  refine ⟨_, ps_if (PW.pt (pw_or (pt_cmpR (op_neDT hu1) (pe_fld (pv 16) rfl) (pv 11) (nomark _))
      (pw_or (pt_cmpR (op_neDT hu1) (pe_callTy (KG.cr_dictT rfl hu4) (by rfl) ve.T.dict (by decide +kernel) (pa_cons (pv 12) pa_nil)) (pv 11) (nomark _))
      (pw_or (pt_cmpR op_ne (pe_callB call_len_seq (by rfl) ve.T.len PySem.boot_len (pa_cons (pv 12) pa_nil)) (pe_callB call_len_dT (by rfl) ve.T.len PySem.boot_len (pa_cons (pv 11) pa_nil)) (nomark _))
      (pw_or1 (pt_cmpR (op_neD hu) (pe_lc (own := [("k", 17)]) (g := gName 17) (tt := tNot (tB (tCall spBefore [] E0 (tCons (tOp (rIxT K) (tOp (rIxT K) (tVar 12) (tOp (rI0 fun i j => .int (i - j)) (tVar 17) (tC (.int 1)))) (tC (.int 0))) (tCons (tOp (rIxT K) (tOp (rIxT K) (tVar 12) (tVar 17)) (tC (.int 0))) tNil))))) (te := tVar 17) rfl scLaw.nd (pi_range2 (by rfl) ve.T.range (pa_cons pe_int (pa_cons (pe_callB call_len_seq (by rfl) ve.T.len PySem.boot_len (pa_cons (pv 12) pa_nil)) pa_nil))) (blkOk_by (N := nLaw) (sc := defScope sLaw) (by decide +kernel))
        (fun _ _ _ _ _ => pg_name (i := 17) scLaw.nd rfl (Or.inl rfl)) (fun _ _ _ _ _ => pts_one (pt_not (pt_val (pe_call G1 (hr.mono (by decide)) (by rfl) g1 k1 b1 .nil pass0 (pa_cons (pe_ix ix_tup (pe_ix ix_tup (pv 12) (pe_op op_sub (pv 17) pe_int) (fun _ _ => rfl)) pe_int (fun _ _ => rfl)) (pa_cons (pe_ix ix_tup (pe_ix ix_tup (pv 12) (pv 17) (fun _ _ => rfl)) pe_int (fun _ _ => rfl)) pa_nil))))))
        (fun _ _ _ _ _ => pv 17)) (pe_lst pa_nil) (nomark _))))))) (pss_one (ps_ret pe_bl)) pss_nil, ?_⟩
  intro D a0 a1 a2 a3 a4 a5 a6 a7 a8 a9 a10 a13 a14 a15 a17 H b d e tn o us' ws us sm hb he htn ho hps pm so ⟨f, rw1, rw2⟩ hlen hgood fin
  obtain ⟨dx, ha, hd⟩ := id hb
  have rus : Rep us f := rep_perm rw1 pm
  have eq1 : (!KB.eqT (iv ws) (iv sm)) = false := by rw [(eqT_rep rw1 rw2).mpr fun _ => rfl]; rfl
  have eq2 : (!KB.eqT (iv us) (iv sm)) = false := by rw [(eqT_rep rus rw2).mpr fun _ => rfl]; rfl
  have hlu := pairs_len hps
  have hsm : us.length = sm.length := rep_len rus rw2
  have hul : us.length ≤ 1000 := by rw [pm.length_eq]; exact hlen
  refine ⟨_, rfl, b, C, dx, _, _, rfl, ha, ve.B.cl, ve.B.nW, bF_w d, _, rfl, d, e, _, _, rfl, rfl, hd, he, intVals_iv _, intVals_iv _, _, rfl, ?_⟩
  refine ifF (by rw [eq1]; decide) ?_
  refine ⟨_, rfl, tn, us', iv us, rfl, .inr ⟨o, htn, ho⟩, hps, fun q1 hq1 => ?_⟩
  have e1 : KS.Ex H (upd H q1 (.dT (KG.mergeT [] (iv us)))) := Ex.upd hq1
  refine ⟨_, rfl, q1, e, iv us, iv sm, rfl, rfl, ?_, e1 _ _ he, intVals_iv _, intVals_iv _, _, rfl, ?_⟩
  · rw [upd_same, merge_nil rus.1]
  refine ifF (by rw [eq2]; decide) ?_
  refine ⟨_, rfl, tn, _, rfl, .inr (.inl (.inr ⟨o, e1 _ _ htn⟩)), _, rfl, e, _, rfl, e1 _ _ he, rfl, _, rfl, ?_⟩
  have eq3 : (!decide (V.int (((us'.map V.ref).length : Nat) : Int) = V.int (((iv sm).length : Nat) : Int))) = false := by
    rw [List.length_map, iv_len, hlu, hsm, decide_eq_true rfl]; rfl
  refine ifF (by rw [eq3]; decide) ?_
  refine ⟨_, rfl, tn, _, rfl, .inr (.inl (.inr ⟨o, e1 _ _ htn⟩)), 1, _, rfl, ⟨by decide, by decide, ?_, ?_⟩, fun D2 hD2 => ?_⟩
  · omega
  · rw [List.length_map]; omega
  refine lc_range (fun i H3 => KS.Ex H H3 ∧ H3 D2 = some (.lst [])) ⟨Ex.on e1 (exNone e1 hD2), upd_same⟩ ?_ ?_
  · rintro i H3 hi ⟨e3, h3⟩
    refine ⟨rfl, ?_⟩
    rw [List.length_map] at hi
    have hi2 : i + 1 < us.length := by omega
    have hat : ∀ j, j < us.length → ∃ t q p, us'[j]? = some t ∧ us[j]? = some p ∧ H3 t = some (.tup [.ref q, .int p.2]) ∧ H3 q = some (.tup (p.1.map kV)) := fun j hj => by
      have h1 : us'[j]? = some (us'[j]'(by omega)) := List.getElem?_eq_getElem _
      obtain ⟨p, q, h2, h4, h5⟩ := pairs_at hps h1
      exact ⟨_, q, p, h1, h2, e3 _ _ h4, e3 _ _ h5⟩
    obtain ⟨t1, q1, p1, u1, v1, x1, y1⟩ := hat i (by omega)
    obtain ⟨t2, q2, p2, u2, v2, x2, y2⟩ := hat (i + 1) hi2
    have A1 : atI (us'.map V.ref) ((1 : Int) + (i : Nat) - 1) = some (.ref t1) := by
      rw [show (1 : Int) + (i : Nat) - 1 = ((i : Nat) : Int) by omega]
      exact atI_nat (by rw [List.getElem?_map, u1]; rfl)
    have A2 : atI (us'.map V.ref) ((1 : Int) + (i : Nat)) = some (.ref t2) := by
      rw [show (1 : Int) + (i : Nat) = ((i + 1 : Nat) : Int) by omega]
      exact atI_nat (by rw [List.getElem?_map, u2]; rfl)
    have hbef : bef p1.1 p2.1 = true := by
      have z := List.pairwise_iff_getElem.mp so i (i + 1) (by omega) hi2 (by omega)
      have z1 : us[i]'(by omega) = p1 := by
        have := List.getElem?_eq_getElem (l := us) (i := i) (by omega)
        rw [v1] at this
        exact (Option.some.inj this).symm
      have z2 : us[i + 1]'hi2 = p2 := by
        have := List.getElem?_eq_getElem (l := us) (i := i + 1) hi2
        rw [v2] at this
        exact (Option.some.inj this).symm
      rw [z1, z2] at z
      exact z
    have htn3 : SqT K H3 tn (us'.map V.ref) := .inl (.inr ⟨o, e3 _ _ htn⟩)
    refine ⟨_, rfl, _, rfl, _, _, rfl, rfl, tn, _, _, _, rfl, rfl, htn3, A1, t1, _, 0, _, rfl, rfl, SqT.of x1, rfl, ?_⟩
    refine ⟨_, rfl, _, rfl, tn, _, _, _, rfl, rfl, htn3, A2, t2, _, 0, _, rfl, rfl, SqT.of x2, rfl, ?_⟩
    refine before_step y1 y2 (hgood _ (List.mem_of_getElem? v1)) (hgood _ (List.mem_of_getElem? v2)) fun H4 e4 => ⟨_, rfl, ?_⟩
    rw [hbef]
    exact ifF (by decide) ⟨e3.trans e4, e4 _ _ h3⟩
  · rintro H3 ⟨e3, h3⟩
    refine ⟨by decide, fun z hz => ⟨.list [], .list [], .lst (SqL.of (Ex.upd hz _ _ h3)) .nil, .lst (SqL.of upd_same) .nil, rfl, rfl, _, rfl, ?_⟩⟩
    have eN : KS.Ex H (upd H3 z (.lst [])) := e3.trans (Ex.upd hz)
    exact ifF (by decide) (fin _ (ExtN.of eN) eN)
end
end KM
set_option Elab.async false
set_option linter.all false
set_option maxRecDepth 100000
set_option maxHeartbeats 1000000
namespace KM
open PySem PySem.Spec PyProof.Rows L2 KB KC KD KS RZ LamX
theorem posW_neg {ws sm : W} {f : Row → Int} (r1 : Rep ws f) (r2 : Rep sm f) : (sm.filter fun p => decide (p.2 < 0)).isEmpty = posW ws := by
  unfold posW
  rw [Bool.eq_iff_iff, List.isEmpty_iff, List.filter_eq_nil_iff, List.all_eq_true]
  constructor
  · intro h p hp
    have z := (r1.2 p.1 p.2).mp hp
    have z2 := h p ((r2.2 p.1 p.2).mpr z)
    have : ¬ p.2 < 0 := by simpa using z2
    exact decide_eq_true (by have := z.2; omega)
  · intro h p hp
    have z := (r2.2 p.1 p.2).mp hp
    have z2 := of_decide_eq_true (h p ((r1.2 p.1 p.2).mpr z))
    simp
    omega
theorem lay_rows : ∀ {l : W}, (∀ p ∈ l, p.1.all okK = true) → PyData.canLayAll0 (l.map fun p => rowD p.1) = true
  | [], _ => rfl
  | p :: r, h => by
    show (PyData.canLay0 (rowD p.1) && PyData.canLayAll0 (r.map fun p => rowD p.1)) = true
    rw [lay_rows fun q hq => h q (List.mem_cons_of_mem _ hq), Bool.and_true]
    have go : ∀ k : Row, k.all okK = true → PyData.canLayAll0 (k.map dK) = true := by
      intro k
      induction k with
      | nil => intro _; rfl
      | cons x r ih =>
        intro h
        rw [List.all_cons, Bool.and_eq_true] at h
        show (PyData.canLay0 (dK x) && PyData.canLayAll0 (r.map dK)) = true
        rw [ih h.2, Bool.and_true]
        cases x with
        | inl i => rfl
        | inr s => exact h.1
    exact go _ (h p (List.mem_cons_self ..))
theorem depth_row (k : Row) : PyData.depth (rowD k) ≤ 1 := by
  have go : ∀ k : Row, PyData.depthAll (k.map dK) = 0 := by
    intro k
    induction k with
    | nil => rfl
    | cons x r ih =>
      show max (PyData.depth (dK x)) (PyData.depthAll (r.map dK)) = 0
      rw [ih]
      cases x <;> rfl
  show PyData.depthAll (k.map dK) + 1 ≤ 1
  rw [go]
  exact Nat.le_refl _
theorem depth_rows (l : W) : PyData.depthAll (l.map fun p => rowD p.1) ≤ 1 := by
  induction l with
  | nil => exact Nat.zero_le _
  | cons p r ih =>
    show max (PyData.depth (rowD p.1)) (PyData.depthAll (r.map fun p => rowD p.1)) ≤ 1
    have := depth_row p.1
    omega
theorem shaped_rows {l : W} (h : ∀ p ∈ l, p.1.all okK = true) : SeqAt.shaped (.list (l.map fun p => rowD p.1)) = true := by
  show (PyData.canLayAll0 (l.map fun p => rowD p.1) && decide (PyData.depthAll (l.map fun p => rowD p.1) + 1 ≤ 64)) = true
  have := depth_rows l
  rw [lay_rows h, decide_eq_true (by omega)]
  rfl
theorem eqv_rows (l : W) : PyData.eqv (.list (l.map fun p => rowD p.1)) (.list []) = l.isEmpty := by
  cases l with
  | nil => rfl
  | cons p r => rfl
theorem unlock_ex {H H3 : Hp} {e : Addr} {od : Obj} {u : HO} (he : H e = some u) (e3 : KS.Ex (upd H e (.frz od u)) H3) : KS.Ex H (upd H3 e u) := fun b o h => by
  by_cases c : b = e
  · rw [c] at h ⊢
    rw [upd_same, ← he]; exact h
  · rw [L2.upd_ne c]
    exact e3 b o (by rw [L2.upd_ne c]; exact h)
theorem BagD.lock {C : Addr} {H : Hp} {b d e : Addr} {ws sm : W} {od : Obj} (h : BagD C H b d ws) (he : H e = some (.dT (iv sm))) (n : e ≠ d) : BagD C (upd H e (.frz od (.dT (iv sm)))) b d ws := by
  obtain ⟨dx, h1, h2⟩ := h
  exact ⟨dx, by rw [L2.upd_ne (ne_of h1 he (fun z => nomatch z))]; exact h1, by rw [L2.upd_ne n.symm]; exact h2⟩
section
variable {P : Program} {w : World} {K : PySem.W.Frag} {mg : Str → Option Value} {base : Heap} {C CR Ps Pr Pl cL fTo fL : Addr} {fdTo : FuncData} {A : Around} {outer : List PySem.Env} {s : Shared} {H0 : Hp} {E0' : XK}
theorem part_2 (ve : LawE P w K mg base C CR Ps Pr Pl cL fTo fdTo) (hr : Room 11 (xLaw P w K mg base fL cL A outer s H0 E0').A) :
    ∃ t, PS (xLaw P w K mg base fL cL A outer s H0 E0') (bagBody.getD 2 (.Pass ⟨0,0,0,0⟩)) t ∧ ∀ (D : Ends) (a0 a1 a2 a3 a4 a5 a6 a7 a8 a9 a10 a12 a13 a14 a15 a17 : Option V) (H : Hp) (b d e : Addr) (ws sm : W),
      BagD C H b d ws → H e = some (.dT (iv sm)) → e ≠ d → (∃ f, Rep ws f ∧ Rep sm f) → ws.length ≤ 1000 → (∀ p ∈ ws, GoodR p.1) → Tabs (TT Ps Pr Pl) H →
      (∀ (H' : Hp), ExtN H H' → Tabs (TT Ps Pr Pl) H' → D.nx [a0, a1, a2, a3, a4, a5, a6, a7, a8, a9, a10, some (.ref e), a12, a13, a14, a15, some (.ref b), a17] H') →
      t D [a0, a1, a2, a3, a4, a5, a6, a7, a8, a9, a10, some (.ref e), a12, a13, a14, a15, some (.ref b), a17] H := by
  obtain ⟨f1, fd1, G1, m1, b1⟩ := ve.weight
  obtain ⟨f2, fd2, G2, m2, b2⟩ := ve.isset
  have hu := hr.units
  have hu1 := Nat.lt_trans (Nat.add_lt_add_left (by decide : 1 < 64) _) hu
  refine ⟨_, ps_if (PW.pt (pw_or (pt_cmpR (op_neD hu) (pe_lock (pe_lc (own := [("row", 7)]) (g := gName 7) (tt := tTest (tOp rNe (tMeth C "weight" (spWeight C) [] E0 (tVar 16) (tCons (tVar 7) tNil)) (tDGet (tVar 11) (tVar 7)))) (te := tVar 7) rfl scLaw.nd (pi_keys (pv 11)) (blkOk_by (N := nLaw) (sc := defScope sLaw) (by decide +kernel))
          (fun _ _ _ _ _ => pg_name (i := 7) scLaw.nd rfl (Or.inl rfl)) (fun _ _ _ _ _ => pts_one (pt_cmpR op_ne (pe_meth (pv 16) ve.B.cl m1 G1 (hr.mono (by decide)) b1 .nil pass0 (pa_cons (pv 7) pa_nil)) (pe_dget hu1 (pv 11) (pv 7) (fun _ _ => rfl)) (nomark _)))
          (fun _ _ _ _ _ => pv 7))) (pe_lst pa_nil) (nomark _))
      (pw_or (pt_cmpR op_ne (pe_meth (pv 16) ve.B.cl m1 G1 (hr.mono (by decide)) b1 .nil pass0 (pa_cons (pe_tup (pa_cons pe_str pa_nil)) pa_nil)) pe_int (nomark _))
      (pw_or1 (pt_cmpR op_ne (pe_meth0 (pv 16) ve.B.cl m2 G2 (hr.mono (by decide)) b2 .nil pass0) (pe_cmpR (op_eqD hu) (pe_lock (pe_lc (own := [("row", 7)]) (g := gName 7) (tt := tTest (tOp (rI0 fun i j => .bl (decide (i < j))) (tDGet (tVar 11) (tVar 7)) (tC (.int 0)))) (te := tVar 7) rfl scLaw.nd (pi_keys (pv 11)) (blkOk_by (N := nLaw) (sc := defScope sLaw) (by decide +kernel))
          (fun _ _ _ _ _ => pg_name (i := 7) scLaw.nd rfl (Or.inl rfl)) (fun _ _ _ _ _ => pts_one (pt_cmpR op_lt (pe_dget hu1 (pv 11) (pv 7) (fun _ _ => rfl)) pe_int (nomark _)))
          (fun _ _ _ _ _ => pv 7))) (pe_lst pa_nil) (nomark _)) (nomark _)))))) (pss_one (ps_ret pe_bl)) pss_nil, ?_⟩
  intro D a0 a1 a2 a3 a4 a5 a6 a7 a8 a9 a10 a12 a13 a14 a15 a17 H b d e ws sm hb he ned ⟨f, rw1, rw2⟩ hlen hgood ht fin
  obtain ⟨dx, ha, hd⟩ := id hb
  have hsm : sm.length ≤ 1000 := by rw [← rep_len rw1 rw2]; exact hlen
  have hbe : b ≠ e := ne_of ha he (fun z => nomatch z)
  have oks : ∀ p ∈ sm.filter (fun p => decide (p.2 < 0)), p.1.all okK = true := fun p hp => by
    have h1 := (List.mem_filter.mp hp).1
    exact (hgood p ((rw1.2 p.1 p.2).mpr ((rw2.2 p.1 p.2).mp h1))).2
  refine ⟨e, _, he, trivial, fun od => ⟨_, rfl, e, od, rfl, .inr ⟨_, upd_same, fun D1 hD1 => lcK (K := K) (fun _ => false) (by show 7 < 18; decide) upd_same hsm hD1 ?_ ?_⟩⟩⟩
  · intro p q H3 R e3 hp hq hR
    obtain ⟨dx3, ha3, hd3⟩ := id ((hb.lock (od := od) he ned).ex e3)
    refine ⟨_, rfl, b, dx3, _, rfl, ha3, bF_m (by decide +kernel), _, rfl, weight_step ⟨dx3, ha3, hd3⟩ hq ⟨_, rfl, _, rfl, e, _, rfl, dget_frz (e3 _ _ upd_same) rw2.1 hp hq, rfl, _, rfl, ?_⟩⟩
    have hf := (rw2.2 p.1 p.2).mp hp
    have z : (look ws p.1).getD 0 = p.2 := by rw [rep_getD rw1]; exact hf.1
    rw [z, decide_eq_true rfl]
    exact hR H3 (Ex.refl _)
  · intro H3 xs e3 hx3 hdp
    have hf0 : sm.filter (fun _ : Row × Int => false) = [] := List.filter_eq_nil_iff.mpr fun _ _ => by decide
    rw [hf0] at hdp
    cases hdp
    refine ⟨e3 _ _ upd_same, ?_⟩
    have eH4 := unlock_ex he e3
    have nDe : D1 ≠ e := fun z => by rw [z, upd_same] at hD1; cases hD1
    have hx4 : (upd H3 e (.dT (iv sm))) D1 = some (.lst []) := by rw [L2.upd_ne nDe]; exact hx3
    generalize hH4 : upd H3 e (.dT (iv sm)) = H4 at eH4 hx4
    refine ⟨by decide, fun z1 hz1 => ⟨.list [], .list [], .lst (SqL.of (Ex.upd hz1 _ _ hx4)) .nil, .lst (SqL.of upd_same) .nil, rfl, rfl, _, rfl, ?_⟩⟩
    refine ifF (by decide) ?_
    have eH5 := eH4.trans (Ex.upd (o := .lst []) hz1)
    generalize upd H4 z1 (.lst []) = H5 at eH5
    obtain ⟨dx5, ha5, hd5⟩ := id (hb.ex eH5)
    refine ⟨_, rfl, b, dx5, _, rfl, ha5, bF_m (by decide +kernel), by decide, fun q hq => ?_⟩
    have eH6 := eH5.trans (Ex.upd (o := .tup [.str "none"]) hq)
    refine weight_step (k := [.inr "none"]) (hb.ex eH6) upd_same ⟨rfl, _, rfl, ?_⟩
    generalize upd H5 q (.tup [.str "none"]) = H6 at eH6
    have z0 : (look ws [.inr "none"]).getD 0 = 0 := by
      rw [look_none.mpr fun n hn => by
        have := (hgood _ hn).1
        exact absurd (show (1 : Nat) = 2 from this) (by decide)]
      rfl
    rw [z0, decide_eq_true rfl]
    refine ifF (by decide) ?_
    obtain ⟨dx6, ha6, hd6⟩ := id (hb.ex eH6)
    refine ⟨_, rfl, b, dx6, _, rfl, ha6, bF_m (by decide +kernel), isset_step (hb.ex eH6) (ht.ext eH6) fun H7 e7 t7 => ?_⟩
    have he7 := e7 _ _ (eH6 _ _ he) (fun _ z => nomatch z)
    refine ⟨e, _, he7, trivial, fun od2 => ⟨_, rfl, e, od2, rfl, .inr ⟨_, upd_same, fun D2 hD2 => lcK (K := K) (fun p => decide (p.2 < 0)) (by show 7 < 18; decide) upd_same hsm hD2 ?_ ?_⟩⟩⟩
    · intro p q H3 R e3 hp hq hR
      exact ⟨_, rfl, _, rfl, e, _, rfl, dget_frz (e3 _ _ upd_same) rw2.1 hp hq, _, _, rfl, rfl, _, rfl, hR H3 (Ex.refl _)⟩
    · intro H8 xs8 e8 hx8 hdp8
      refine ⟨e8 _ _ upd_same, ?_⟩
      have eH9 := unlock_ex he7 e8
      have nD2 : D2 ≠ e := fun z => by rw [z, upd_same] at hD2; cases hD2
      have hx9 : (upd H8 e (.dT (iv sm))) D2 = some (.lst xs8) := by rw [L2.upd_ne nD2]; exact hx8
      have hdp9 : DpAll K (upd H8 e (.dT (iv sm))) xs8 ((sm.filter fun p => decide (p.2 < 0)).map fun p => rowD p.1) := by
        refine dpAll_tups (fun b' zs r => ?_) ?_ hdp8
        · have h8e := e8 _ _ (upd_same (H := H7) (a := e) (o := .frz od2 (.dT (iv sm))))
          rcases r with r | ⟨o, r⟩
          · exact .inl (by rw [L2.upd_ne (fun z => by rw [z, h8e] at r; cases r)]; exact r)
          · exact .inr ⟨o, by rw [L2.upd_ne (fun z => by rw [z, h8e] at r; cases r)]; exact r⟩
        · have go : ∀ l : W, pureL (l.map fun p => rowD p.1) = true := by
            intro l
            induction l with
            | nil => rfl
            | cons a r ih =>
              show (pureD (rowD a.1) && pureL (r.map fun p => rowD p.1)) = true
              rw [pure_row, ih]
              rfl
          exact go _
      generalize upd H8 e (.dT (iv sm)) = H9 at eH9 hx9 hdp9
      refine ⟨by decide, fun z2 hz2 => ⟨.list _, .list [], .lst (SqL.of (Ex.upd hz2 _ _ hx9)) (dpAll_ex (Ex.upd hz2) hdp9), .lst (SqL.of upd_same) .nil, shaped_rows oks, rfl, rfl, _, rfl, ?_⟩⟩
      rw [eqv_rows, posW_neg rw1 rw2, decide_eq_true rfl]
      exact ifF (by decide) (fin _ ((ExtN.of eH6).trans (e7.trans (ExtN.of (eH9.trans (Ex.upd hz2))))) (t7.ext (eH9.trans (Ex.upd hz2))))
end
end KM
set_option Elab.async false
set_option linter.all false
set_option maxRecDepth 100000
set_option maxHeartbeats 1000000
namespace KM
open PySem PySem.Spec PyProof.Rows L2 KB KC KD KS RZ LamX
theorem once_rep {ws sm : W} {f : Row → Int} (r1 : Rep ws f) (r2 : Rep sm f) : ∃ g, Rep (mk (onceW ws)) g ∧ Rep (sm.filterMap fun p => if 0 < p.2 then some (p.1, 1) else none) g := by
  have nd : ∀ {l : W}, Nd l → Nd (l.filterMap fun p => if 0 < p.2 then some (p.1, (1 : Int)) else none) := by
    intro l
    induction l with
    | nil => exact fun h => h
    | cons p r ih =>
      intro h
      obtain ⟨h1, h2⟩ := nd_cons.mp h
      rw [List.filterMap_cons]
      by_cases c : 0 < p.2
      · rw [if_pos c]
        refine nd_cons.mpr ⟨fun n hn => ?_, ih h2⟩
        obtain ⟨q, hq, e⟩ := List.mem_filterMap.mp hn
        by_cases c2 : 0 < q.2
        · rw [if_pos c2] at e
          have e0 : (q.1, (1 : Int)) = (p.1, n) := Option.some.inj e
          have e1 : q.1 = p.1 := (Prod.mk.inj e0).1
          exact h1 q.2 (by rw [← e1]; exact hq)
        · rw [if_neg c2] at e; cases e
      · rw [if_neg c]; exact ih h2
  have rp : ∀ {l : W}, Rep l f → Rep (l.filterMap fun p => if 0 < p.2 then some (p.1, (1 : Int)) else none) fun k => if 0 < f k then 1 else 0 := by
    intro l r
    refine ⟨nd r.1, fun k n => ?_⟩
    rw [List.mem_filterMap]
    constructor
    · rintro ⟨q, hq, e⟩
      obtain ⟨h1, h2⟩ := (r.2 q.1 q.2).mp hq
      by_cases c : 0 < q.2
      · rw [if_pos c] at e
        have e1 : (q.1, (1 : Int)) = (k, n) := Option.some.inj e
        obtain ⟨rfl, rfl⟩ := Prod.mk.inj e1
        show (if 0 < f q.1 then (1 : Int) else 0) = 1 ∧ (1 : Int) ≠ 0
        rw [h1, if_pos c]
        exact ⟨rfl, by decide⟩
      · rw [if_neg c] at e; cases e
    · rintro ⟨h1, h2⟩
      have h1' : (if 0 < f k then (1 : Int) else 0) = n := h1
      by_cases c : 0 < f k
      · rw [if_pos c] at h1'
        exact ⟨(k, f k), (r.2 _ _).mpr ⟨rfl, by omega⟩, by rw [if_pos c, h1']⟩
      · rw [if_neg c] at h1'
        exact absurd h1'.symm h2
  have hw : Rep (onceW ws) fun k => if 0 < f k then 1 else 0 := rp r1
  exact ⟨_, rep_congr (rep_mk (onceW ws)) (fun k => tot_rep hw k), rp r2⟩
section
variable {P : Program} {w : World} {K : PySem.W.Frag} {mg : Str → Option Value} {base : Heap} {C CR Ps Pr Pl cL fTo fL : Addr} {fdTo : FuncData} {A : Around} {outer : List PySem.Env} {s : Shared} {H0 : Hp} {E0' : XK}
theorem part_3 (ve : LawE P w K mg base C CR Ps Pr Pl cL fTo fdTo) (hr : Room 11 (xLaw P w K mg base fL cL A outer s H0 E0').A) :
    ∃ t, PS (xLaw P w K mg base fL cL A outer s H0 E0') (bagBody.getD 3 (.Pass ⟨0,0,0,0⟩)) t ∧ ∀ (D : Ends) (a0 a1 a2 a3 a4 a5 a6 a7 a8 a9 a10 a12 a13 a14 a15 a17 : Option V) (H : Hp) (b d e : Addr) (ws sm : W),
      BagD C H b d ws → H e = some (.dT (iv sm)) → (∃ f, Rep ws f ∧ Rep sm f) → ws.length ≤ 1000 →
      (∀ (H' : Hp), KS.Ex H H' → D.nx [a0, a1, a2, a3, a4, a5, a6, a7, a8, a9, a10, some (.ref e), a12, a13, a14, a15, some (.ref b), a17] H') →
      t D [a0, a1, a2, a3, a4, a5, a6, a7, a8, a9, a10, some (.ref e), a12, a13, a14, a15, some (.ref b), a17] H := by
  obtain ⟨f1, fd1, G1, m1, b1⟩ := ve.once
  have hu := hr.units
  have hu1 := Nat.lt_trans (Nat.add_lt_add_left (by decide : 1 < 64) _) hu
  have hu4 := Nat.lt_trans (Nat.add_lt_add_left (by decide : 4 < 64) _) hu
  refine ⟨_, ps_if (pt_cmpR (op_neDT hu1) (pe_fld (pe_meth0 (pv 16) ve.B.cl m1 G1 (hr.mono (by decide)) b1 .nil pass0) rfl)
      (pe_callTy (KG.cr_dictT rfl hu4) (by rfl) ve.T.dict (by decide +kernel) (pa_cons (pe_lock (pe_lc (own := [("row", 7)]) (g := gName 7) rfl scLaw.nd (pi_keys (pv 11)) (blkOk_by (N := nLaw) (sc := defScope sLaw) (by decide +kernel))
          (fun _ _ _ _ _ => pg_name (i := 7) scLaw.nd rfl (Or.inl rfl)) (fun _ _ _ _ _ => pts_one (pt_cmpR op_gt (pe_dget hu1 (pv 11) (pv 7) (fun _ _ => rfl)) pe_int (nomark _)))
          (fun _ _ _ _ _ => pe_tup (pa_cons (pv 7) (pa_cons pe_int pa_nil))))) pa_nil)) (nomark _)) (pss_one (ps_ret pe_bl)) pss_nil, ?_⟩
  intro D a0 a1 a2 a3 a4 a5 a6 a7 a8 a9 a10 a12 a13 a14 a15 a17 H b d e ws sm hb he ⟨f, rw1, rw2⟩ hlen fin
  obtain ⟨dx, ha, hd⟩ := id hb
  have hsm : sm.length ≤ 1000 := by rw [← rep_len rw1 rw2]; exact hlen
  obtain ⟨g, rg1, rg2⟩ := once_rep rw1 rw2
  refine ⟨_, rfl, b, dx, _, rfl, ha, bF_m (by decide +kernel), once_step hb hlen fun H1 x2 d2 e1 n2 hb2 => ?_⟩
  obtain ⟨dx2, ha2, hd2⟩ := id hb2
  refine ⟨x2, C, dx2, _, _, rfl, ha2, ve.B.cl, ve.B.nW, bF_w d2, ?_⟩
  have he1 := e1 _ _ he
  refine ⟨e, _, he1, trivial, fun od => ⟨_, rfl, e, od, rfl, .inr ⟨_, upd_same, fun D1 hD1 => lcKP (fun p => if 0 < p.2 then some (p.1, 1) else none) upd_same hsm hD1 ?_ ?_⟩⟩⟩
  · intro p q H2 R R' e2 hp hq no yes
    refine ⟨rfl, ?_⟩
    refine ⟨_, rfl, _, rfl, e, _, rfl, dget_frz (e2 _ _ upd_same) rw2.1 hp hq, _, _, rfl, rfl, _, rfl, ?_⟩
    by_cases c : 0 < p.2
    · refine ifT (decide_eq_true c) ⟨_, rfl, (by show 2 ≤ sizeLine; decide), fun y hy => ?_⟩
      exact yes (p.1, 1) y q _ (if_pos c) (Ex.upd hy) upd_same (Ex.upd hy _ _ hq)
    · exact ifF (by simp [c]) (no (if_neg c))
  · intro H2 us e2 hu2 hps
    refine ⟨e2 _ _ upd_same, ?_⟩
    have nD : D1 ≠ e := fun z => by rw [z, upd_same] at hD1; cases hD1
    have eH := unlock_ex he1 e2
    have he2 := e2 _ _ (upd_same (H := H1) (a := e) (o := .frz od (.dT (iv sm))))
    have hps3 : PairsOf (upd H2 e (.dT (iv sm))) us (iv (sm.filterMap fun p => if 0 < p.2 then some (p.1, 1) else none)) := PairsOf.ex hps fun b' xs h => by
      rw [L2.upd_ne (fun z => by rw [z, he2] at h; cases h)]; exact h
    have hu3 : (upd H2 e (.dT (iv sm))) D1 = some (.lst (us.map V.ref)) := by rw [L2.upd_ne nD]; exact hu2
    generalize upd H2 e (.dT (iv sm)) = H3 at eH hps3 hu3
    refine ⟨D1, us, _, rfl, .inl hu3, hps3, fun p hp => ?_⟩
    rw [merge_nil rg2.1]
    refine ⟨d2, p, _, _, rfl, rfl, Ex.upd hp _ _ (eH _ _ hd2), upd_same, intVals_iv _, intVals_iv _, _, rfl, ?_⟩
    have eq1 : KB.eqT (iv (mk (onceW ws))) (iv (sm.filterMap fun p => if 0 < p.2 then some (p.1, 1) else none)) = true := (eqT_rep rg1 rg2).mpr fun _ => rfl
    rw [eq1]
    exact ifF (by decide) (fin _ (e1.trans (eH.trans (Ex.upd hp))))
end
end KM
set_option Elab.async false
set_option linter.all false
set_option maxRecDepth 100000
set_option maxHeartbeats 1000000
namespace KM
open PySem PySem.Spec PyProof.Rows L2 KB KC KD KS RZ LamX
theorem dp_exN {K : PySem.W.Frag} {H H' : Hp} (e : ExtN H H') {v : V} {d : PyData} (hp : pureD d = true) (h : Dp K H v d) : Dp K H' v d :=
  dp_tups (fun b xs r => r.elim (fun r => .inl (e _ _ r (fun _ z => nomatch z))) fun ⟨o, r⟩ => .inr ⟨o, e _ _ r (fun _ z => nomatch z)⟩) hp h
theorem dpAll_exN {K : PySem.W.Frag} {H H' : Hp} (e : ExtN H H') {vs : List V} {ds : List PyData} (hp : pureL ds = true) (h : DpAll K H vs ds) : DpAll K H' vs ds :=
  dpAll_tups (fun b xs r => r.elim (fun r => .inl (e _ _ r (fun _ z => nomatch z))) fun ⟨o, r⟩ => .inr ⟨o, e _ _ r (fun _ z => nomatch z)⟩) hp h
theorem dpAll_app {K : PySem.W.Frag} {H : Hp} : ∀ {vs ws : List V} {ds es : List PyData}, DpAll K H vs ds → DpAll K H ws es → DpAll K H (vs ++ ws) (ds ++ es)
  | _, _, _, _, .nil, h => h
  | _, _, _, _, .cons a b, h => .cons a (dpAll_app b h)
theorem dpAll_rep {K : PySem.W.Frag} {H : Hp} {v : V} {d : PyData} (h : Dp K H v d) : ∀ n, DpAll K H (List.replicate n v) (List.replicate n d)
  | 0 => .nil
  | n + 1 => .cons h (dpAll_rep h n)
theorem sorted_unique : ∀ {a b : W}, a.Perm b → Sorted a → Sorted b → a = b
  | [], b, p, _, _ => (List.Perm.nil_eq p)
  | x :: r, [], p, _, _ => absurd p.symm (by simp)
  | x :: r, y :: t, p, sa, sb => by
    have sa' := List.pairwise_cons.mp sa
    have sb' := List.pairwise_cons.mp sb
    have e : x = y := by
      have hx : x ∈ y :: t := p.mem_iff.mp (List.mem_cons_self ..)
      have hy : y ∈ x :: r := p.mem_iff.mpr (List.mem_cons_self ..)
      rcases List.mem_cons.mp hx with z | hx
      · exact z
      · rcases List.mem_cons.mp hy with z | hy
        · exact z.symm
        · have h1 := sb'.1 x hx
          have h2 := sa'.1 y hy
          have h3 := bef_trans h1 h2
          rw [bef_irrefl] at h3
          cases h3
    subst e
    rw [sorted_unique (List.Perm.cons_inv p) sa'.2 sb'.2]
theorem lay_spread {us : W} (h : ∀ p ∈ us, p.1.all okK = true) : PyData.canLayAll0 (spreadD us) = true := by
  have app : ∀ a b : List PyData, PyData.canLayAll0 (a ++ b) = (PyData.canLayAll0 a && PyData.canLayAll0 b) := by
    intro a b
    induction a with
    | nil => simp [PyData.canLayAll0]
    | cons x r ih =>
      show (PyData.canLay0 x && PyData.canLayAll0 (r ++ b)) = ((PyData.canLay0 x && PyData.canLayAll0 r) && PyData.canLayAll0 b)
      rw [ih, Bool.and_assoc]
  induction us with
  | nil => rfl
  | cons p r ih =>
    have h1 := ih fun q hq => h q (List.mem_cons_of_mem _ hq)
    unfold spreadD at h1 ⊢
    rw [List.flatMap_cons, app, h1, Bool.and_true]
    have one : PyData.canLay0 (rowD p.1) = true := by
      have := lay_rows (l := [p]) (fun q hq => by rw [List.mem_singleton] at hq; rw [hq]; exact h p (List.mem_cons_self ..))
      have z : (PyData.canLay0 (rowD p.1) && true) = true := this
      simpa using z
    have go : ∀ n, PyData.canLayAll0 (List.replicate n (rowD p.1)) = true := by
      intro n
      induction n with
      | zero => rfl
      | succ n ih2 =>
        show (PyData.canLay0 (rowD p.1) && PyData.canLayAll0 (List.replicate n (rowD p.1))) = true
        rw [one, ih2]
        rfl
    exact go _
theorem depth_spread (us : W) : PyData.depthAll (spreadD us) ≤ 1 := by
  have app : ∀ a b : List PyData, PyData.depthAll (a ++ b) = max (PyData.depthAll a) (PyData.depthAll b) := by
    intro a b
    induction a with
    | nil => simp [PyData.depthAll]
    | cons x r ih =>
      show max (PyData.depth x) (PyData.depthAll (r ++ b)) = max (max (PyData.depth x) (PyData.depthAll r)) (PyData.depthAll b)
      rw [ih]; omega
  induction us with
  | nil => exact Nat.zero_le _
  | cons p r ih =>
    unfold spreadD at ih ⊢
    rw [List.flatMap_cons, app]
    have go : ∀ n, PyData.depthAll (List.replicate n (rowD p.1)) ≤ 1 := by
      intro n
      induction n with
      | zero => exact Nat.zero_le _
      | succ n ih2 =>
        show max (PyData.depth (rowD p.1)) (PyData.depthAll (List.replicate n (rowD p.1))) ≤ 1
        have := depth_row p.1
        omega
    have := go p.2.toNat
    omega
theorem shaped_spread {us : W} (h : ∀ p ∈ us, p.1.all okK = true) : SeqAt.shaped (.tuple (spreadD us)) = true := by
  show (PyData.canLayAll0 (spreadD us) && decide (PyData.depthAll (spreadD us) + 1 ≤ 64)) = true
  have := depth_spread us
  rw [lay_spread h, decide_eq_true (by omega)]
  rfl
section
variable {P : Program} {w : World} {K : PySem.W.Frag} {mg : Str → Option Value} {base : Heap} {C CR Ps Pr Pl cL fTo fL : Addr} {fdTo : FuncData} {A : Around} {outer : List PySem.Env} {s : Shared} {H0 : Hp} {E0' : XK}
theorem part_5 (ve : LawE P w K mg base C CR Ps Pr Pl cL fTo fdTo) (hr : Room 11 (xLaw P w K mg base fL cL A outer s H0 E0').A) :
    ∃ t, PS (xLaw P w K mg base fL cL A outer s H0 E0') (bagBody.getD 5 (.Pass ⟨0,0,0,0⟩)) t ∧ ∀ (D : Ends) (a0 a1 a2 a3 a4 a5 a6 a7 a8 a9 a10 a11 a13 a15 a16 a17 : Option V) (H : Hp) (tn wh : Addr) (o : Obj) (us' : List Addr) (us : W),
      H tn = some (.frz o (.tup (us'.map V.ref))) → PairsOf H us' (iv us) → H wh = some (.lst []) → us.length ≤ 1000 → (∀ p ∈ us, -1000 ≤ p.2 ∧ p.2 ≤ 1000) →
      (∀ (H' : Hp) (wh' : Addr) (xs : List V) (b7 b8 : Option V), KS.Ex H H' → H' wh' = some (.lst xs) → DpAll K H' xs (spreadD us) → D.nx [a0, a1, a2, a3, a4, a5, a6, b7, b8, a9, a10, a11, some (.ref tn), a13, some (.ref wh'), a15, a16, a17] H') →
      t D [a0, a1, a2, a3, a4, a5, a6, a7, a8, a9, a10, a11, some (.ref tn), a13, some (.ref wh), a15, a16, a17] H := by
  refine ⟨_, ps_for PassesOwn.never rfl (pi_tup (pv 12)) (pg_tup rfl (pgs_cons (pg_name (i := 7) scLaw.nd rfl (Or.inl rfl)) (pgs_cons (pg_name (i := 8) scLaw.nd rfl (Or.inl rfl)) pgs_nil)))
    (pss_one (ps_set (i := 14) scLaw.nd rfl (Or.inl rfl) (pe_op op_cat (pv 14) (pe_op op_rep (pe_lst (pa_cons (pv 7) pa_nil)) (pv 8))))), ?_⟩
  intro D a0 a1 a2 a3 a4 a5 a6 a7 a8 a9 a10 a11 a13 a15 a16 a17 H tn wh o us' us htn hps hwh hlen hw fin
  have hlu := pairs_len hps
  have bound : ∀ (i : Nat) (p : Row × Int), us[i]? = some p → (spreadD (us.take i)).length + p.2.toNat ≤ 1000000 := fun i p hi => by
    have h1 := spreadD_len (us := us.take i) fun q hq => (hw q (List.mem_of_mem_take hq)).2
    have h2 := (hw p (List.mem_of_getElem? hi)).2
    have h3 : i < us.length := (List.getElem?_eq_some_iff.mp hi).1
    have h4 : (us.take i).length = i := by rw [List.length_take]; omega
    rw [h4] at h1
    omega
  have hT : ∀ H2, KS.Ex H H2 → SqT K H2 tn (us'.map V.ref) := fun H2 e => .inl (.inr ⟨o, e _ _ htn⟩)
  refine ⟨_, rfl, tn, rfl, ⟨_, hT H (Ex.refl H)⟩, for_tup (xs := us'.map V.ref) (fun i σ H2 => ∃ u v wi xs, σ = [a0, a1, a2, a3, a4, a5, a6, u, v, a9, a10, a11, some (.ref tn), a13, some (.ref wi), a15, a16, a17] ∧ KS.Ex H H2 ∧ H2 wi = some (.lst xs) ∧ DpAll K H2 xs (spreadD (us.take i)))
    ⟨a7, a8, wh, [], rfl, Ex.refl H, hwh, .nil⟩ (fun i σ H2 _ ⟨_, _, _, _, _, e2, _⟩ => hT H2 e2) ?_ ?_⟩
  · rintro i x σ H2 hx ⟨u, v, wi, xs, rfl, e2, hwi, hdp⟩
    obtain ⟨t, ht, rfl⟩ := map_ref_at hx
    obtain ⟨p, q, hi, hTt, hK⟩ := pairs_at hps ht
    have hb := bound i p hi
    have hpw := hw p (List.mem_of_getElem? hi)
    have hlx := dpAll_length hdp
    have hz : sizeLine = 16777216 := rfl
    refine ⟨t, _, rfl, SqT.of (e2 _ _ hTt), rfl, _, _, rfl, _, _, rfl, rfl, ?_⟩
    refine ⟨_, rfl, _, rfl, by show 1 ≤ sizeLine; decide, fun y hy => ⟨_, rfl, ?_⟩⟩
    refine ⟨y, p.2, [.ref q], rfl, rfl, upd_same, by omega, by omega, by rw [List.length_singleton]; omega, fun z hz' => ?_⟩
    have efl : (List.replicate p.2.toNat [V.ref q]).flatten = List.replicate p.2.toNat (V.ref q) := by rw [List.flatten_replicate_singleton]
    rw [efl]
    have e3 : KS.Ex H2 (upd (upd H2 y (.lst [.ref q])) z (.lst (List.replicate p.2.toNat (V.ref q)))) := (Ex.upd hy).trans (Ex.upd hz')
    refine ⟨wi, z, _, _, rfl, rfl, e3 _ _ hwi, upd_same, by rw [List.length_replicate]; omega, fun r hr => ?_⟩
    have e4 := e3.trans (Ex.upd (o := .lst (xs ++ List.replicate p.2.toNat (V.ref q))) hr)
    refine ⟨_, _, r, _, rfl, e2.trans e4, upd_same, ?_⟩
    rw [spreadD_snoc hi]
    exact dpAll_app (dpAll_ex e4 hdp) (dpAll_rep (dp_row ((e2.trans e4) _ _ hK)) _)
  · rintro σ H2 ⟨u, v, wi, xs, rfl, e2, hwi, hdp⟩
    rw [List.length_map, hlu, List.take_length] at hdp
    exact fin H2 wi xs u v e2 hwi hdp
theorem part_6 (ve : LawE P w K mg base C CR Ps Pr Pl cL fTo fdTo) (hr : Room 11 (xLaw P w K mg base fL cL A outer s H0 E0').A) :
    ∃ t, PS (xLaw P w K mg base fL cL A outer s H0 E0') (bagBody.getD 6 (.Pass ⟨0,0,0,0⟩)) t ∧ ∀ (D : Ends) (a0 a1 a2 a3 a4 a5 a6 a7 a8 a9 a10 a11 a12 a15 a17 : Option V) (H : Hp) (b d wh : Addr) (sp : V) (ws us : W) (xs : List V),
      BagD C H b d ws → Tabs (TT Ps Pr Pl) H → H wh = some (.lst xs) → DpAll K H xs (spreadD us) → us.Perm ws → Sorted us → (∀ p ∈ us, p.1.all okK = true) → ((posW ws = false ∧ sp = .str "RowError") ∨ (posW ws = true ∧ ∃ l us2, sp = .ref l ∧ Dp K H sp (.tuple (spreadD us2)) ∧ us2.Perm ws ∧ Sorted us2)) →
      (∀ (H' : Hp), ExtN H H' → Tabs (TT Ps Pr Pl) H' → D.nx [a0, a1, a2, a3, a4, a5, a6, a7, a8, a9, a10, a11, a12, some sp, some (.ref wh), a15, some (.ref b), a17] H') →
      t D [a0, a1, a2, a3, a4, a5, a6, a7, a8, a9, a10, a11, a12, some sp, some (.ref wh), a15, some (.ref b), a17] H := by
  obtain ⟨f2, fd2, G2, m2, b2⟩ := ve.isset
  have hu := hr.units
  refine ⟨_, ps_if (pt_cmpR (op_neD hu) (pv 13) (pe_ifExp (pt_val (pe_meth0 (pv 16) ve.B.cl m2 G2 (hr.mono (by decide)) b2 .nil pass0)) (pe_callTy call_tuple_of (by rfl) ve.T.tuple (by decide +kernel) (pa_cons (pv 14) pa_nil)) pe_str) (nomark _)) (pss_one (ps_ret pe_bl)) pss_nil, ?_⟩
  intro D a0 a1 a2 a3 a4 a5 a6 a7 a8 a9 a10 a11 a12 a15 a17 H b d wh sp ws us xs hb ht hwh hdp pm so hok hsp fin
  obtain ⟨dx, ha, hd⟩ := id hb
  refine ⟨_, rfl, _, rfl, b, dx, _, rfl, ha, bF_m (by decide +kernel), isset_step hb ht fun H1 e1 t1 => ⟨posW ws, rfl, ?_⟩⟩
  rcases hsp with ⟨hp, rfl⟩ | ⟨hp, l, us2, rfl, hdp2, pm2, so2⟩
  · rw [hp]
    refine ifF (by decide) ⟨.str "RowError", .str "RowError", .str _, .str _, by decide +kernel, by decide +kernel, _, rfl, ?_⟩
    have e0 : (!PyData.eqv (.str "RowError") (.str "RowError")) = false := by decide +kernel
    rw [e0]
    exact ifF (by decide) (fin H1 e1 t1)
  · rw [hp]
    have eu : us2 = us := sorted_unique (pm2.trans pm.symm) so2 so
    subst eu
    refine ifT rfl ⟨_, rfl, wh, xs, rfl, .inl ⟨SqL.of (e1 _ _ hwh (fun _ z => nomatch z)), fun q hq => ?_⟩⟩
    have pu : pureD (.tuple (spreadD us2)) = true := pure_spread us2
    have hsh := shaped_spread hok
    refine ⟨_, _, dp_ex (Ex.upd hq) (dp_exN e1 pu hdp2), .tup (SqT.of upd_same) (dpAll_ex (Ex.upd hq) (dpAll_exN e1 (pure_spread us2) hdp)), hsh, hsh, _, rfl, ?_⟩
    rw [SeqAt.eqv_refl _ (SeqAt.canLay_of_shaped hsh)]
    exact ifF (by decide) (fin _ (e1.trans (ExtN.of (Ex.upd hq))) (t1.ext (Ex.upd hq)))
end
end KM
set_option Elab.async false
set_option linter.all false
set_option maxRecDepth 100000
set_option maxHeartbeats 1000000
namespace KM
open PySem PySem.Spec PyProof.Rows L2 KB KC KD KS RZ LamX
def Small (rows : W) : Prop := rows.length ≤ 64 ∧ ∀ p ∈ rows, GoodR p.1 ∧ -10 ≤ p.2 ∧ p.2 ≤ 10
def Due (C : Addr) (H : Hp) (b l : Addr) (rows : W) : Prop := ∃ d ts ws, BagD C H b d ws ∧ H l = some (.lst (ts.map V.ref)) ∧ PairsOf H ts (iv rows) ∧ Rep ws (tot rows) ∧ Small rows
theorem Due.exN {C : Addr} {H H' : Hp} {b l : Addr} {rows : W} (h : Due C H b l rows) (e : ExtN H H') : Due C H' b l rows := by
  obtain ⟨d, ts, ws, h1, h2, h3, h4⟩ := h
  exact ⟨d, ts, ws, h1.exN e, e _ _ h2 (fun _ z => nomatch z), PairsOf.exN h3 e, h4⟩
theorem nodup_sub {α : Type} [DecidableEq α] : ∀ (a b : List α), a.Nodup → (∀ x ∈ a, x ∈ b) → a.length ≤ b.length
  | [], b, _, _ => Nat.zero_le _
  | p :: r, b, nd, h => by
    obtain ⟨h1, h2⟩ := List.nodup_cons.mp nd
    have hp : p ∈ b := h p (List.mem_cons_self ..)
    have l : (b.filter fun q => decide (q ≠ p)).length < b.length := List.length_filter_lt_length_iff_exists.mpr ⟨p, hp, by simp⟩
    have ih2 := nodup_sub r (b.filter fun q => decide (q ≠ p)) h2 fun q hq => List.mem_filter.mpr ⟨h q (List.mem_cons_of_mem _ hq), decide_eq_true fun e => h1 (by rw [e] at hq; exact hq)⟩
    rw [List.length_cons]
    omega
theorem tot_key {rows : W} {k : Row} (h : tot rows k ≠ 0) : ∃ n, (k, n) ∈ rows := by
  apply Classical.byContradiction
  intro z
  exact h (tot_not fun n hn => z ⟨n, hn⟩)
theorem rep_sub {ws rows : W} (r : Rep ws (tot rows)) {p : Row × Int} (hp : p ∈ ws) : ∃ n, (p.1, n) ∈ rows := by
  obtain ⟨h1, h2⟩ := (r.2 p.1 p.2).mp hp
  exact tot_key (by rw [h1]; exact h2)
theorem rep_short {ws rows : W} (r : Rep ws (tot rows)) : ws.length ≤ rows.length := by
  have := nodup_sub (ws.map fun q : Row × Int => q.1) (rows.map fun q : Row × Int => q.1) r.1 fun x hx => by
    obtain ⟨p, hp, rfl⟩ := List.mem_map.mp hx
    obtain ⟨n, hn⟩ := rep_sub r hp
    exact List.mem_map.mpr ⟨_, hn, rfl⟩
  rwa [List.length_map, List.length_map] at this
theorem tot_bound : ∀ {rows : W} {k : Row}, (∀ p ∈ rows, -10 ≤ p.2 ∧ p.2 ≤ 10) → -10 * (rows.length : Int) ≤ tot rows k ∧ tot rows k ≤ 10 * (rows.length : Int)
  | [], k, _ => by simp [tot]
  | p :: r, k, h => by
    have ih := tot_bound (rows := r) (k := k) fun q hq => h q (List.mem_cons_of_mem _ hq)
    have hp := h p (List.mem_cons_self ..)
    show -10 * (((p :: r).length : Nat) : Int) ≤ (if k = p.1 then p.2 else 0) + tot r k ∧ (if k = p.1 then p.2 else 0) + tot r k ≤ 10 * (((p :: r).length : Nat) : Int)
    rw [List.length_cons]
    split <;> omega
theorem good_ok {k : Row} (g : GoodR k) : OkR k := ⟨fun e => by rw [e] at g; exact absurd g.1 (by decide), g.2, by rw [g.1]; decide⟩
theorem due_facts {ws rows : W} (r : Rep ws (tot rows)) (sm : Small rows) : ws.length ≤ 64 ∧ ∀ p ∈ ws, GoodR p.1 ∧ -1000 ≤ p.2 ∧ p.2 ≤ 1000 := by
  refine ⟨Nat.le_trans (rep_short r) sm.1, fun p hp => ?_⟩
  obtain ⟨n, hn⟩ := rep_sub r hp
  have hb := tot_bound (rows := rows) (k := p.1) fun q hq => (sm.2 q hq).2
  have hv := ((r.2 p.1 p.2).mp hp).1
  have hl := sm.1
  exact ⟨(sm.2 _ hn).1, by omega, by omega⟩
section
variable {P : Program} {w : World} {K : PySem.W.Frag} {mg : Str → Option Value} {base : Heap} {C CR Ps Pr Pl cL fTo fL : Addr} {fdTo : FuncData} {A : Around} {outer : List PySem.Env} {s : Shared} {H0 : Hp} {E0' : XK}
theorem bag_body (ve : LawE P w K mg base C CR Ps Pr Pl cL fTo fdTo) (hr : Room 11 (xLaw P w K mg base fL cL A outer s H0 E0').A) :
    ∃ t, PSs (xLaw P w K mg base fL cL A outer s H0 E0') bagBody t ∧ ∀ (D : Ends) (a0 a1 a2 a3 a4 a5 a6 a7 a8 a9 a11 a12 a13 a14 a15 a17 : Option V) (H : Hp) (b l : Addr) (rows : W),
      Due C H b l rows → Tabs (TT Ps Pr Pl) H →
      (∀ (H' : Hp) (b7 b8 b11 b12 b13 b14 : Option V), ExtN H H' → Tabs (TT Ps Pr Pl) H' → D.nx [a0, a1, a2, a3, a4, a5, a6, b7, b8, a9, some (.ref l), b11, b12, b13, b14, a15, some (.ref b), a17] H') →
      t D [a0, a1, a2, a3, a4, a5, a6, a7, a8, a9, some (.ref l), a11, a12, a13, a14, a15, some (.ref b), a17] H := by
  obtain ⟨t0, d0, q0⟩ := part_0 (fL := fL) (outer := outer) (s := s) (H0 := H0) (E0' := E0') ve hr
  obtain ⟨t1, d1, q1⟩ := part_1 (fL := fL) (outer := outer) (s := s) (H0 := H0) (E0' := E0') ve hr
  obtain ⟨t2, d2, q2⟩ := part_2 (fL := fL) (outer := outer) (s := s) (H0 := H0) (E0' := E0') ve hr
  obtain ⟨t3, d3, q3⟩ := part_3 (fL := fL) (outer := outer) (s := s) (H0 := H0) (E0' := E0') ve hr
  obtain ⟨t4, d4, q4⟩ := part_told (fL := fL) (outer := outer) (s := s) (H0 := H0) (E0' := E0') ve hr
  obtain ⟨t5, d5, q5⟩ := part_5 (fL := fL) (outer := outer) (s := s) (H0 := H0) (E0' := E0') ve hr
  obtain ⟨t6, d6, q6⟩ := part_6 (fL := fL) (outer := outer) (s := s) (H0 := H0) (E0' := E0') ve hr
  refine ⟨_, (pss_cons d0 (pss_cons d1 (pss_cons d2 (pss_cons d3 (pss_cons d4 (pss_cons d5 (pss_one d6)))))) : PSs _ [bagBody.getD 0 (.Pass ⟨0,0,0,0⟩), bagBody.getD 1 (.Pass ⟨0,0,0,0⟩), bagBody.getD 2 (.Pass ⟨0,0,0,0⟩), bagBody.getD 3 (.Pass ⟨0,0,0,0⟩), bagBody.getD 4 (.Pass ⟨0,0,0,0⟩), bagBody.getD 5 (.Pass ⟨0,0,0,0⟩), bagBody.getD 6 (.Pass ⟨0,0,0,0⟩)] _), ?_⟩
  intro D a0 a1 a2 a3 a4 a5 a6 a7 a8 a9 a11 a12 a13 a14 a15 a17 H b l rows ⟨d, ts, ws, hb, hl, hps, hrep, hsm⟩ ht fin
  obtain ⟨hlen, hws⟩ := due_facts hrep hsm
  have rsm := rep_sums rows
  refine q0 _ a0 a1 a2 a3 a4 a5 a6 a7 a8 a9 a11 a12 a13 a14 a15 a17 H b d l ts rows ws hb hrep.1 (fun p hp => good_ok (hws p hp).1) (by omega) hl hps hsm.1 ht fun H1 e tn o us' us hne e1 t1' he htn ho hpu pm so => ?_
  have ned : e ≠ d := fun z => by
    obtain ⟨dx, _, hd⟩ := hb
    rw [z, hd] at hne; cases hne
  have hus : ∀ p ∈ us, GoodR p.1 ∧ -1000 ≤ p.2 ∧ p.2 ≤ 1000 := fun p hp => hws p (pm.mem_iff.mp hp)
  have hul : us.length ≤ 1000 := by rw [pm.length_eq]; omega
  refine q1 _ a0 a1 a2 a3 a4 a5 a6 a7 a8 a9 (some (.ref l)) a13 a14 a15 a17 H1 b d e tn o us' ws us (sums rows) (hb.exN e1) he htn ho hpu pm so ⟨_, hrep, rsm⟩ (by omega) (fun p hp => (hus p hp).1) fun H2 e2 e2x => ?_
  have e12 := e1.trans e2
  have he2 := e2 _ _ he (fun _ z => nomatch z)
  refine q2 _ a0 a1 a2 a3 a4 a5 a6 a7 a8 a9 (some (.ref l)) (some (.ref tn)) a13 a14 a15 a17 H2 b d e ws (sums rows) (hb.exN e12) he2 ned ⟨_, hrep, rsm⟩ (by omega) (fun p hp => (hws p hp).1) (t1'.ext e2x) fun H3 e3 t3' => ?_
  have e13 := e12.trans e3
  have he3 := e3 _ _ he2 (fun _ z => nomatch z)
  refine q3 _ a0 a1 a2 a3 a4 a5 a6 a7 a8 a9 (some (.ref l)) (some (.ref tn)) a13 a14 a15 a17 H3 b d e ws (sums rows) (hb.exN e13) he3 ⟨_, hrep, rsm⟩ (by omega) fun H4 e4 => ?_
  have e14 := e13.trans (ExtN.of e4)
  refine q4 _ _ H4 b d ws rfl (hb.exN e14) hrep.1 (fun p hp => good_ok (hws p hp).1) (by omega) (fun p hp => (hws p hp).2.2) (t3'.ext e4) fun H5 sp wh e5 t5' hwh hsp => ?_
  have e15 := e14.trans e5
  have e05 : ExtN H1 H5 := ((e2.trans e3).trans (ExtN.of e4)).trans e5
  refine q5 _ a0 a1 a2 a3 a4 a5 a6 a7 a8 a9 (some (.ref l)) (some (.ref e)) (some sp) a15 (some (.ref b)) a17 H5 tn wh o us' us (e05 _ _ htn (fun _ z => nomatch z)) (PairsOf.exN hpu e05) hwh hul (fun p hp => (hus p hp).2) fun H6 wh' xs b7 b8 e6 hwh' hdp => ?_
  have hsp6 : (posW ws = false ∧ sp = .str "RowError") ∨ (posW ws = true ∧ ∃ l us2, sp = .ref l ∧ Dp K H6 sp (.tuple (spreadD us2)) ∧ us2.Perm ws ∧ Sorted us2) := by
    rcases hsp with h | ⟨h1, l2, us2, h2, h3, h4⟩
    · exact .inl h
    · exact .inr ⟨h1, l2, us2, h2, dp_ex e6 h3, h4⟩
  refine q6 _ a0 a1 a2 a3 a4 a5 a6 b7 b8 a9 (some (.ref l)) (some (.ref e)) (some (.ref tn)) a15 a17 H6 b d wh' sp ws us xs (hb.exN (e15.trans (ExtN.of e6))) (t5'.ext e6) hwh' hdp pm so (fun p hp => (hus p hp).1.2) hsp6 fun H7 e7 t7' => ?_
  exact fin H7 b7 b8 _ _ _ _ ((e15.trans (ExtN.of e6)).trans e7) t7'
end
end KM
set_option Elab.async false
set_option linter.all false
set_option maxRecDepth 100000
set_option maxHeartbeats 1000000
namespace KM
open PySem PySem.Spec PyProof.Rows L2 KB KC KD KS RZ LamX
theorem drawn_step {H : Hp} {d : Addr} {Q : VK} {E : XK} (i : IsDice H d) (fin : ∀ H' p ts rows, ExD d H H' → IsDice H' d → H' p = some (.lst (ts.map V.ref)) → PairsOf H' ts (iv rows) → Drawn rows → Q (.ref p) H') : spDrawn [.ref d] H Q E := by
  unfold spDrawn
  exact ⟨d, rfl, i, fin⟩
theorem tabs_exD {T : List (Addr × Str)} {H H' : Hp} {d : Addr} (i : IsDice H d) (e : ExD d H H') (t : Tabs T H) : Tabs T H' := fun p hp => by
  obtain ⟨ps, h1, h2, h3⟩ := t p hp
  obtain ⟨x, y, z, hd⟩ := i
  refine ⟨ps, e _ _ (fun c => by rw [c, hd] at h1; cases h1) h1, h2, fun pos cv hc => ?_⟩
  obtain ⟨c, e1, e2⟩ := h3 pos cv hc
  exact ⟨c, e1, e _ _ (fun c' => by rw [c', hd] at e2; cases e2) e2⟩
theorem dice_ne {H : Hp} {d p : Addr} {ts : List Addr} (i : IsDice H d) (h : H p = some (.lst (ts.map V.ref))) : p ≠ d := fun c => by
  obtain ⟨x, y, z, hd⟩ := i
  rw [c, hd] at h
  have h2 := Option.some.inj h
  have h3 : [V.int x, V.int y, V.int z] = ts.map V.ref := by injection h2
  cases ts with
  | nil => cases h3
  | cons a r =>
    rw [List.map_cons] at h3
    injection h3 with h4 _
    cases h4
theorem pairs_exD {H H' : Hp} {d : Addr} {ts : List Addr} {kvs : List (List Key × V)} (i : IsDice H d) (e : ExD d H H') (p : PairsOf H ts kvs) : PairsOf H' ts kvs := PairsOf.ex p fun b xs h => e b _ (fun c => by
  obtain ⟨x, y, z, hd⟩ := i
  rw [c, hd] at h; cases h) h
section
variable {P : Program} {w : World} {K : PySem.W.Frag} {mg : Str → Option Value} {base : Heap} {C CR Ps Pr Pl cL fTo fL : Addr} {fdTo : FuncData} {A : Around} {outer : List PySem.Env} {s : Shared} {H0 : Hp} {E0' : XK}
theorem law_0 (ve : LawE P w K mg base C CR Ps Pr Pl cL fTo fdTo) (hr : Room 11 (xLaw P w K mg base fL cL A outer s H0 E0').A) :
    ∃ t, PS (xLaw P w K mg base fL cL A outer s H0 E0') (law0.getD 0 (.Pass ⟨0,0,0,0⟩)) t ∧ ∀ (D : Ends) (a0 a2 a3 a4 a5 a6 a7 a8 a9 a10 a11 a12 a13 a14 a15 a16 a17 : Option V) (H : Hp) (d : Addr), IsDice H d → Tabs (TT Ps Pr Pl) H →
      (∀ (H' : Hp) (p1 p2 : Addr) (ts1 ts2 : List Addr) (r1 r2 : W) (n : Int), ExD d H H' → Tabs (TT Ps Pr Pl) H' → H' p1 = some (.lst (ts1.map V.ref)) → PairsOf H' ts1 (iv r1) → Drawn r1 → H' p2 = some (.lst (ts2.map V.ref)) → PairsOf H' ts2 (iv r2) → Drawn r2 → -2 ≤ n → n ≤ 2 →
        D.nx [a0, some (.ref d), some (.ref p1), some (.ref p2), some (.int n), a5, a6, a7, a8, a9, a10, a11, a12, a13, a14, a15, a16, a17] H') →
      t D [a0, some (.ref d), a2, a3, a4, a5, a6, a7, a8, a9, a10, a11, a12, a13, a14, a15, a16, a17] H := by
  obtain ⟨f1, fd1, G1, g1, k1, b1⟩ := ve.drawn
  obtain ⟨f2, fd2, G2, g2, k2, b2⟩ := ve.roll
  refine ⟨_, ps_asg (pe_tup (pa_cons (pe_call G1 (hr.mono (by decide)) (by rfl) g1 k1 b1 .nil pass0 (pa_cons (pv 1) pa_nil)) (pa_cons (pe_call G1 (hr.mono (by decide)) (by rfl) g1 k1 b1 .nil pass0 (pa_cons (pv 1) pa_nil)) (pa_cons (pe_op op_sub (pe_call G2 (hr.mono (by decide)) (by rfl) g2 k2 b2 .nil pass0 (pa_cons (pv 1) (pa_cons pe_int pa_nil))) pe_int) pa_nil))))
    (pg_tup rfl (pgs_cons (pg_name (i := 2) scLaw.nd rfl (Or.inl rfl)) (pgs_cons (pg_name (i := 3) scLaw.nd rfl (Or.inl rfl)) (pgs_cons (pg_name (i := 4) scLaw.nd rfl (Or.inr rfl)) pgs_nil)))), ?_⟩
  intro D a0 a2 a3 a4 a5 a6 a7 a8 a9 a10 a11 a12 a13 a14 a15 a16 a17 H d hd ht fin
  refine ⟨_, rfl, drawn_step hd fun H1 p1 ts1 r1 e1 i1 h1 ps1 dr1 => ⟨_, rfl, drawn_step i1 fun H2 p2 ts2 r2 e2 i2 h2 ps2 dr2 => ⟨_, rfl, roll_step i2 (by decide) (by decide) fun r H3 r0 r5 e3 i3 => ⟨_, 2, rfl, rfl, by show 3 ≤ sizeLine; decide, fun z hz => ?_⟩⟩⟩⟩
  refine ⟨z, _, rfl, SqT.of upd_same, rfl, _, _, rfl, _, _, rfl, _, _, rfl, rfl, ?_⟩
  have e23 := e2.trans e3
  have ez : KS.Ex H3 (upd H3 z (.tup [.ref p1, .ref p2, .int (r - 2)])) := Ex.upd hz
  refine fin _ p1 p2 ts1 ts2 r1 r2 (r - 2) (((e1.trans e2).trans e3).trans (ExD.of ez)) ((tabs_exD i2 e3 (tabs_exD i1 e2 (tabs_exD hd e1 ht))).ext ez) (ez _ _ (e23 _ _ (dice_ne i1 h1) h1)) (PairsOf.ex (pairs_exD i1 e23 ps1) fun b xs h => ez b _ h) dr1 (ez _ _ (e3 _ _ (dice_ne i2 h2) h2)) (PairsOf.ex (pairs_exD i2 e3 ps2) fun b xs h => ez b _ h) dr2 (by omega) (by omega)
end
end KM
set_option Elab.async false
set_option linter.all false
set_option maxRecDepth 100000
set_option maxHeartbeats 2000000
namespace KM
open PySem PySem.Spec PyProof.Rows L2 KB KC KD KS RZ LamX
theorem minus_step {C : Addr} {H : Hp} {a d a2 d2 : Addr} {ws ws2 : W} {Q : VK} {E : XK} (b : BagD C H a d ws) (b2 : BagD C H a2 d2 ws2) (hl : ws.length + ws2.length ≤ 1000)
    (q : ∀ H' x d, Ex H H' → H d = none → BagD C H' x d (mk (ws ++ mk (scale ws2 (-1)))) → Q (.ref x) H') : spMinus C [.ref a, .ref a2] H Q E := by
  unfold spMinus
  exact ⟨a, d, a2, d2, ws, ws2, rfl, b, b2, hl, q⟩
theorem init_stepR {C : Addr} {H1 : Hp} {r x dx : Addr} {ts : List Addr} {rows : W} {R : VK} {E : XK} (h : H1 r = some (.lst (ts.map V.ref))) (hp : PairsOf H1 ts (iv rows)) (hl : rows.length ≤ 1000) (hx : H1 x = none) (hdx : H1 dx = none) (n : dx ≠ x)
    (q : ∀ H' d, Ex H1 H' → H1 d = none → BagD C H' x d (mk rows) → R .non H') : spInit C [.ref x, .ref r] (upd (upd H1 dx (.own x)) x (.ins C dx [])) R E := by
  have := init_step (C := C) (Q := fun v H' => v = .ref x → R .non H') (E := E) h hp hl (fun H' x' d e nd b => fun z => by cases z; exact q H' d e nd b) x dx hx hdx n
  unfold spInit at this ⊢
  obtain ⟨p, dx', r', ts', rows', e1, h1, h2, h3, h4, h5⟩ := this
  exact ⟨p, dx', r', ts', rows', e1, h1, h2, h3, h4, fun d hd nd => (h5 d hd nd).2 rfl⟩
theorem filterMap_neg (ws : W) : ws.filterMap (fun p => some (p.1, -p.2)) = neg ws := by
  unfold neg
  rw [← List.filterMap_eq_map]
  rfl
theorem rep_plus {a b r1 r2 : W} (h1 : Rep a (tot r1)) (h2 : Rep b (tot r2)) : Rep (mk (a ++ b)) (tot (r1 ++ r2)) := rep_congr (rep_mk _) fun k => by rw [tot_append, tot_append, tot_rep h1, tot_rep h2]
theorem rep_times {a r : W} (n : Int) (h : Rep a (tot r)) : Rep (mk (scale a n)) (tot (scale r n)) := rep_congr (rep_mk _) fun k => by rw [tot_scale, tot_scale, tot_rep h]
theorem rep_minus {a b r1 r2 : W} (h1 : Rep a (tot r1)) (h2 : Rep b (tot r2)) : Rep (mk (a ++ mk (scale b (-1)))) (tot (r1 ++ neg r2)) := rep_congr (rep_mk _) fun k => by
  rw [tot_append, tot_append, tot_neg, tot_rep h1, tot_rep (rep_mk (scale b (-1))), tot_scale, tot_rep h2]
  omega
theorem rep_back {a b r1 r2 : W} (h1 : Rep a (tot r1)) (h2 : Rep b (tot r2)) : Rep (mk (mk (a ++ b) ++ mk (scale b (-1)))) (tot r1) := rep_congr (rep_mk _) fun k => by
  rw [tot_append, tot_rep (rep_plus h1 h2), tot_append, tot_rep (rep_mk (scale b (-1))), tot_scale, tot_rep h2]
  omega
theorem small_of {r : W} (h : Drawn r) : Small r := ⟨Nat.le_trans h.1 (by decide), fun p hp => ⟨(h.2 p hp).1, by have := (h.2 p hp).2; omega, by have := (h.2 p hp).2; omega⟩⟩
theorem small_plus {a b : W} (h1 : Drawn a) (h2 : Drawn b) : Small (a ++ b) := ⟨by rw [List.length_append]; have := h1.1; have := h2.1; omega, fun p hp => (List.mem_append.mp hp).elim (fun h => (small_of h1).2 p h) fun h => (small_of h2).2 p h⟩
theorem small_neg {a b : W} (h1 : Drawn a) (h2 : Drawn b) : Small (a ++ neg b) := ⟨by unfold neg; rw [List.length_append, List.length_map]; have := h1.1; have := h2.1; omega, fun p hp => (List.mem_append.mp hp).elim (fun h => (small_of h1).2 p h) fun h => by
  obtain ⟨q, hq, rfl⟩ := List.mem_map.mp h
  have := h2.2 q hq
  exact ⟨this.1, by show -10 ≤ -q.2; omega, by show -q.2 ≤ 10; omega⟩⟩
theorem small_scale {a : W} {n : Int} (h1 : Drawn a) (n1 : -2 ≤ n) (n2 : n ≤ 2) : Small (scale a n) := ⟨by unfold scale; rw [List.length_map]; have := h1.1; omega, fun p hp => by
  obtain ⟨q, hq, rfl⟩ := List.mem_map.mp hp
  obtain ⟨g, l, u⟩ := h1.2 q hq
  refine ⟨g, ?_, ?_⟩
  · show -10 ≤ q.2 * n
    rcases (show n = -2 ∨ n = -1 ∨ n = 0 ∨ n = 1 ∨ n = 2 by omega) with rfl | rfl | rfl | rfl | rfl <;> omega
  · show q.2 * n ≤ 10
    rcases (show n = -2 ∨ n = -1 ∨ n = 0 ∨ n = 1 ∨ n = 2 by omega) with rfl | rfl | rfl | rfl | rfl <;> omega⟩
section
variable {P : Program} {w : World} {K : PySem.W.Frag} {mg : Str → Option Value} {base : Heap} {C CR Ps Pr Pl cL fTo fL fI fA : Addr} {fdTo fdI fdA : FuncData} {r0 : Addr} {A : Around} {outer : List PySem.Env} {s : Shared} {H0 : Hp} {E0' : XK}
theorem law_1 (ve : LawE P w K mg base C CR Ps Pr Pl cL fTo fdTo) (M : TxtM K mg C fI fdI r0 fA fdA) (hr : Room 11 (xLaw P w K mg base fL cL A outer s H0 E0').A) :
    ∃ t, PS (xLaw P w K mg base fL cL A outer s H0 E0') (law0.getD 1 (.Pass ⟨0,0,0,0⟩)) t ∧ ∀ (D : Ends) (a0 a1 a4 a5 a6 a7 a8 a9 a10 a11 a12 a13 a14 a15 a16 a17 : Option V) (H : Hp) (p1 p2 : Addr) (ts1 ts2 : List Addr) (r1 r2 : W),
      H p1 = some (.lst (ts1.map V.ref)) → PairsOf H ts1 (iv r1) → Drawn r1 → H p2 = some (.lst (ts2.map V.ref)) → PairsOf H ts2 (iv r2) → Drawn r2 →
      (∀ (H' : Hp) (o1 d1 o2 d2 : Addr), KS.Ex H H' → BagD C H' o1 d1 (mk r1) → BagD C H' o2 d2 (mk r2) →
        D.nx [a0, a1, some (.ref p1), some (.ref p2), a4, some (.ref o1), some (.ref o2), a7, a8, a9, a10, a11, a12, a13, a14, a15, a16, a17] H') →
      t D [a0, a1, some (.ref p1), some (.ref p2), a4, a5, a6, a7, a8, a9, a10, a11, a12, a13, a14, a15, a16, a17] H := by
  have GI : FnOk P w K mg base CX0 2 fI fdI ["self", "rows"] (spInit C) := ok_init M.I M.B M.A M.mA
  refine ⟨_, ps_par (i := 5) (j := 6) rfl scLaw.nd rfl rfl (by decide) rfl rfl (pa_cons (pe_make M.mkI GI (hr.mono (by decide)) (by rfl) M.B.gC (bindsI M.I) .nil pass0 (pa_cons (pv 2) pa_nil)) (pa_cons (pe_make M.mkI GI (hr.mono (by decide)) (by rfl) M.B.gC (bindsI M.I) .nil pass0 (pa_cons (pv 3) pa_nil)) pa_nil)) (by rfl), ?_⟩
  intro D a0 a1 a4 a5 a6 a7 a8 a9 a10 a11 a12 a13 a14 a15 a16 a17 H p1 p2 ts1 ts2 r1 r2 h1 ps1 dr1 h2 ps2 dr2 fin
  refine ⟨_, rfl, fun o1 dx1 hx1 hdx1 nx1 => init_stepR h1 ps1 (Nat.le_trans dr1.1 (by decide)) hx1 hdx1 nx1 fun H1 d1 e1 _ b1 => ⟨rfl, _, rfl, fun o2 dx2 hx2 hdx2 nx2 => init_stepR (e1 _ _ h2) (PairsOf.ex ps2 fun b xs h => e1 b _ h) (Nat.le_trans dr2.1 (by decide)) hx2 hdx2 nx2 fun H2 d2 e2 _ b2 => ⟨rfl, _, _, rfl, ?_⟩⟩⟩
  exact fin H2 o1 d1 o2 d2 (e1.trans e2) (b1.ex e2) b2
theorem law_2 (ve : LawE P w K mg base C CR Ps Pr Pl cL fTo fdTo) (hr : Room 11 (xLaw P w K mg base fL cL A outer s H0 E0').A) :
    ∃ t, PS (xLaw P w K mg base fL cL A outer s H0 E0') (law0.getD 2 (.Pass ⟨0,0,0,0⟩)) t ∧ ∀ (D : Ends) (a0 a1 a7 a8 a9 a10 a11 a12 a13 a14 a15 a16 a17 : Option V) (H : Hp) (p1 p2 o1 d1 o2 d2 : Addr) (ts1 ts2 : List Addr) (r1 r2 : W) (n : Int),
      H p1 = some (.lst (ts1.map V.ref)) → PairsOf H ts1 (iv r1) → Drawn r1 → H p2 = some (.lst (ts2.map V.ref)) → PairsOf H ts2 (iv r2) → Drawn r2 → BagD C H o1 d1 (mk r1) → BagD C H o2 d2 (mk r2) → -2 ≤ n → n ≤ 2 →
      (∀ (H' : Hp) (du : Addr) (es : List (Addr × Addr × Addr × W)), KS.Ex H H' → H' du = some (.lst (es.map fun q => V.ref q.1)) → (∀ q ∈ es, H' q.1 = some (.tup [.ref q.2.1, .ref q.2.2.1]) ∧ Due C H' q.2.1 q.2.2.1 q.2.2.2) →
        D.nx [a0, a1, some (.ref p1), some (.ref p2), some (.int n), some (.ref o1), some (.ref o2), a7, a8, some (.ref du), a10, a11, a12, a13, a14, a15, a16, a17] H') →
      t D [a0, a1, some (.ref p1), some (.ref p2), some (.int n), some (.ref o1), some (.ref o2), a7, a8, a9, a10, a11, a12, a13, a14, a15, a16, a17] H := by
  obtain ⟨fP, fdP, GP, mP, bP⟩ := ve.plus
  obtain ⟨fM, fdM, GM, mM, bM⟩ := ve.minus
  obtain ⟨fT, fdT, GT, mT, bT⟩ := ve.times
  have B := ve.B
  refine ⟨_, ps_set (i := 9) scLaw.nd rfl (Or.inl rfl) (pe_lst (pa_cons (pe_tup (pa_cons (pv 5) (pa_cons (pv 2) pa_nil)))
    (pa_cons (pe_tup (pa_cons (pe_meth (pv 5) B.cl mP GP (hr.mono (by decide)) bP .nil pass0 (pa_cons (pv 6) pa_nil)) (pa_cons (pe_op op_cat (pv 2) (pv 3)) pa_nil)))
    (pa_cons (pe_tup (pa_cons (pe_meth (pv 5) B.cl mM GM (hr.mono (by decide)) bM .nil pass0 (pa_cons (pv 6) pa_nil)) (pa_cons (pe_op op_cat (pv 2) (pe_lc (own := [("row", 7), ("weight", 8)]) (g := gTup K 2 (gCons (gName 7) (gCons (gName 8) gNil))) (tt := tYes) rfl scLaw.nd (pi_list (pv 3)) (blkOk_by (N := nLaw) (sc := defScope sLaw) (by decide +kernel))
        (fun _ _ _ _ _ => pg_tup rfl (pgs_cons (pg_name (i := 7) scLaw.nd rfl (Or.inl rfl)) (pgs_cons (pg_name (i := 8) scLaw.nd rfl (Or.inl rfl)) pgs_nil))) (fun _ _ _ _ _ => pts_nil)
        (fun _ _ _ _ _ => pe_tup (pa_cons (pv 7) (pa_cons (pe_un un_neg (pv 8)) pa_nil))))) pa_nil)))
    (pa_cons (pe_tup (pa_cons (pe_meth (pv 5) B.cl mT GT (hr.mono (by decide)) bT .nil pass0 (pa_cons (pv 4) pa_nil)) (pa_cons (pe_lc (own := [("row", 7), ("weight", 8)]) (g := gTup K 2 (gCons (gName 7) (gCons (gName 8) gNil))) (tt := tYes) rfl scLaw.nd (pi_list (pv 2)) (blkOk_by (N := nLaw) (sc := defScope sLaw) (by decide +kernel))
        (fun _ _ _ _ _ => pg_tup rfl (pgs_cons (pg_name (i := 7) scLaw.nd rfl (Or.inl rfl)) (pgs_cons (pg_name (i := 8) scLaw.nd rfl (Or.inl rfl)) pgs_nil))) (fun _ _ _ _ _ => pts_nil)
        (fun _ _ _ _ _ => pe_tup (pa_cons (pv 7) (pa_cons (pe_op op_mul (pv 8) (pv 4)) pa_nil)))) pa_nil)))
    (pa_cons (pe_tup (pa_cons (pe_meth (pe_meth (pv 5) B.cl mP GP (hr.mono (by decide)) bP .nil pass0 (pa_cons (pv 6) pa_nil)) B.cl mM GM (hr.mono (by decide)) bM .nil pass0 (pa_cons (pv 6) pa_nil)) (pa_cons (pv 2) pa_nil)))
    pa_nil)))))), ?_⟩
  intro D a0 a1 a7 a8 a9 a10 a11 a12 a13 a14 a15 a16 a17 H p1 p2 o1 d1 o2 d2 ts1 ts2 r1 r2 n h1 ps1 dr1 h2 ps2 dr2 b1 b2 n1 n2 fin
  have two : 2 ≤ sizeLine := by decide
  have hz : sizeLine = 16777216 := rfl
  have rp1 := rep_mk r1
  have rp2 := rep_mk r2
  have ml1 : (mk r1).length ≤ 8 := Nat.le_trans (mk_len r1) dr1.1
  have ml2 : (mk r2).length ≤ 8 := Nat.le_trans (mk_len r2) dr2.1
  have pl1 := pairs_len ps1
  have pl2 := pairs_len ps2
  have l1 := dr1.1
  have l2 := dr2.1
  refine ⟨_, rfl, _, rfl, two, fun t0 ht0 => ?_⟩
  have e1 : KS.Ex H (upd H t0 (.tup [.ref o1, .ref p1])) := Ex.upd ht0
  have f0 := upd_same (H := H) (a := t0) (o := .tup [.ref o1, .ref p1])
  generalize upd H t0 (.tup [.ref o1, .ref p1]) = H1 at e1 f0
  obtain ⟨dx1, ha1, hd1⟩ := id (b1.ex e1)
  refine ⟨_, rfl, o1, dx1, _, rfl, ha1, bF_m (by decide +kernel), _, rfl, plus_step (b1.ex e1) (b2.ex e1) (by omega) fun H2 x1 y1 e2 _ bx1 => ?_⟩
  have e12 := e1.trans e2
  refine ⟨_, rfl, _, rfl, p1, p2, _, _, rfl, rfl, e12 _ _ h1, e12 _ _ h2, by rw [List.length_map, List.length_map]; omega, fun q1 hq1 => ⟨two, fun t1 ht1 => ?_⟩⟩
  have e3 : KS.Ex H2 (upd (upd H2 q1 (.lst (ts1.map V.ref ++ ts2.map V.ref))) t1 (.tup [.ref x1, .ref q1])) := (Ex.upd hq1).trans (Ex.upd ht1)
  have fq1 : (upd (upd H2 q1 (.lst (ts1.map V.ref ++ ts2.map V.ref))) t1 (.tup [.ref x1, .ref q1])) q1 = some (.lst ((ts1 ++ ts2).map V.ref)) := by
    rw [List.map_append]; exact Ex.upd ht1 _ _ upd_same
  have f1 : (upd (upd H2 q1 (.lst (ts1.map V.ref ++ ts2.map V.ref))) t1 (.tup [.ref x1, .ref q1])) t1 = some (.tup [.ref x1, .ref q1]) := upd_same
  generalize upd (upd H2 q1 (.lst (ts1.map V.ref ++ ts2.map V.ref))) t1 (.tup [.ref x1, .ref q1]) = H3 at e3 fq1 f1
  have e13 := e12.trans e3
  obtain ⟨dx3, ha3, hd3⟩ := id (b1.ex e13)
  refine ⟨_, rfl, o1, dx3, _, rfl, ha3, bF_m (by decide +kernel), _, rfl, minus_step (b1.ex e13) (b2.ex e13) (by omega) fun H4 x2 y2 e4 _ bx2 => ?_⟩
  have e14 := e13.trans e4
  refine ⟨_, rfl, _, rfl, p2, rfl, ⟨_, SqL.of (e14 _ _ h2)⟩, fun D1 hD1 => lcP (K := K) (fun p => some (p.1, -p.2)) (e14 _ _ h2) (PairsOf.ex ps2 fun b xs h => e14 b _ h) (by omega) hD1 ?_ ?_⟩
  · intro p t q H2' R R' _ _ hT hK _ yes
    refine ⟨t, _, rfl, SqT.of hT, rfl, _, _, rfl, _, _, rfl, rfl, rfl, ?_⟩
    refine ⟨_, rfl, _, rfl, _, rfl, two, fun y hy => ?_⟩
    exact yes (p.1, -p.2) y q _ rfl (Ex.upd hy) upd_same (Ex.upd hy _ _ hK)
  intro H5 us5 e5 hu5 hps5
  rw [filterMap_neg] at hps5
  have e15 := e14.trans e5
  have pl5 := pairs_len hps5
  have ln5 : (neg r2).length = r2.length := List.length_map ..
  refine ⟨p1, D1, _, _, rfl, rfl, e15 _ _ h1, hu5, by rw [List.length_map, List.length_map]; omega, fun q2 hq2 => ⟨two, fun t2 ht2 => ?_⟩⟩
  have e6 : KS.Ex H5 (upd (upd H5 q2 (.lst (ts1.map V.ref ++ us5.map V.ref))) t2 (.tup [.ref x2, .ref q2])) := (Ex.upd hq2).trans (Ex.upd ht2)
  have fq2 : (upd (upd H5 q2 (.lst (ts1.map V.ref ++ us5.map V.ref))) t2 (.tup [.ref x2, .ref q2])) q2 = some (.lst ((ts1 ++ us5).map V.ref)) := by
    rw [List.map_append]; exact Ex.upd ht2 _ _ upd_same
  have f2 : (upd (upd H5 q2 (.lst (ts1.map V.ref ++ us5.map V.ref))) t2 (.tup [.ref x2, .ref q2])) t2 = some (.tup [.ref x2, .ref q2]) := upd_same
  generalize upd (upd H5 q2 (.lst (ts1.map V.ref ++ us5.map V.ref))) t2 (.tup [.ref x2, .ref q2]) = H6 at e6 fq2 f2
  have e16 := e15.trans e6
  obtain ⟨dx6, ha6, hd6⟩ := id (b1.ex e16)
  refine ⟨_, rfl, o1, dx6, _, rfl, ha6, bF_m (by decide +kernel), _, rfl, times_step (b1.ex e16) (by omega) (by omega) (by omega) fun H7 x3 y3 e7 _ bx3 => ?_⟩
  have e17 := e16.trans e7
  refine ⟨_, rfl, p1, rfl, ⟨_, SqL.of (e17 _ _ h1)⟩, fun D2 hD2 => lcP (K := K) (fun p => some (p.1, p.2 * n)) (e17 _ _ h1) (PairsOf.ex ps1 fun b xs h => e17 b _ h) (by omega) hD2 ?_ ?_⟩
  · intro p t q H2' R R' _ _ hT hK _ yes
    refine ⟨t, _, rfl, SqT.of hT, rfl, _, _, rfl, _, _, rfl, rfl, rfl, ?_⟩
    refine ⟨_, rfl, _, rfl, _, rfl, _, _, rfl, rfl, .inr ⟨by omega, by omega⟩, two, fun y hy => ?_⟩
    exact yes (p.1, p.2 * n) y q _ rfl (Ex.upd hy) upd_same (Ex.upd hy _ _ hK)
  intro H8 us8 e8 hu8 hps8
  rw [filterMap_scale] at hps8
  have e18 := e17.trans e8
  refine ⟨two, fun t3 ht3 => ?_⟩
  have e9 : KS.Ex H8 (upd H8 t3 (.tup [.ref x3, .ref D2])) := Ex.upd ht3
  have f3 : (upd H8 t3 (.tup [.ref x3, .ref D2])) t3 = some (.tup [.ref x3, .ref D2]) := upd_same
  generalize upd H8 t3 (.tup [.ref x3, .ref D2]) = H9 at e9 f3
  have e19 := e18.trans e9
  obtain ⟨dx9, ha9, hd9⟩ := id (b1.ex e19)
  refine ⟨_, rfl, o1, dx9, _, rfl, ha9, bF_m (by decide +kernel), _, rfl, plus_step (b1.ex e19) (b2.ex e19) (by omega) fun H10 x4 y4 e10 _ bx4 => ?_⟩
  have e110 := e19.trans e10
  obtain ⟨dx10, ha10, hd10⟩ := id bx4
  have ml3 : (mk (mk r1 ++ mk r2)).length ≤ 16 := Nat.le_trans (mk_len _) (by rw [List.length_append]; omega)
  refine ⟨x4, dx10, _, rfl, ha10, bF_m (by decide +kernel), _, rfl, minus_step bx4 (b2.ex e110) (by omega) fun H11 x5 y5 e11 _ bx5 => ⟨_, rfl, two, fun t4 ht4 => ?_⟩⟩
  have e12' : KS.Ex H11 (upd H11 t4 (.tup [.ref x5, .ref p1])) := Ex.upd ht4
  have f4 : (upd H11 t4 (.tup [.ref x5, .ref p1])) t4 = some (.tup [.ref x5, .ref p1]) := upd_same
  generalize upd H11 t4 (.tup [.ref x5, .ref p1]) = H12 at e12' f4
  refine ⟨by show 5 ≤ sizeLine; decide, fun du hdu => ?_⟩
  have e13' : KS.Ex H12 (upd H12 du (.lst [.ref t0, .ref t1, .ref t2, .ref t3, .ref t4])) := Ex.upd hdu
  have fdu : (upd H12 du (.lst [.ref t0, .ref t1, .ref t2, .ref t3, .ref t4])) du = some (.lst [.ref t0, .ref t1, .ref t2, .ref t3, .ref t4]) := upd_same
  generalize upd H12 du (.lst [.ref t0, .ref t1, .ref t2, .ref t3, .ref t4]) = H13 at e13' fdu
  have g11 : KS.Ex H11 H13 := e12'.trans e13'
  have g10 : KS.Ex H10 H13 := e11.trans g11
  have g9 : KS.Ex H9 H13 := e10.trans g10
  have g8 : KS.Ex H8 H13 := e9.trans g9
  have g7 : KS.Ex H7 H13 := e8.trans g8
  have g6 : KS.Ex H6 H13 := e7.trans g7
  have g5 : KS.Ex H5 H13 := e6.trans g6
  have g4 : KS.Ex H4 H13 := e5.trans g5
  have g3 : KS.Ex H3 H13 := e4.trans g4
  have g2 : KS.Ex H2 H13 := e3.trans g3
  have g1 : KS.Ex H1 H13 := e2.trans g2
  have g0 : KS.Ex H H13 := e1.trans g1
  have hp1 : PairsOf H13 ts1 (iv r1) := PairsOf.ex ps1 fun b xs h => g0 b _ h
  have hp2 : PairsOf H13 ts2 (iv r2) := PairsOf.ex ps2 fun b xs h => g0 b _ h
  refine fin H13 du [(t0, o1, p1, r1), (t1, x1, q1, r1 ++ r2), (t2, x2, q2, r1 ++ neg r2), (t3, x3, D2, scale r1 n), (t4, x5, p1, r1)] g0 fdu fun q hq => ?_
  rcases List.mem_cons.mp hq with rfl | hq
  · exact ⟨g1 _ _ f0, d1, ts1, _, b1.ex g0, g0 _ _ h1, hp1, rp1, small_of dr1⟩
  rcases List.mem_cons.mp hq with rfl | hq
  · exact ⟨g3 _ _ f1, y1, ts1 ++ ts2, _, bx1.ex g2, g3 _ _ fq1, by rw [iv_append]; exact paired_append hp1 hp2, rep_plus rp1 rp2, small_plus dr1 dr2⟩
  rcases List.mem_cons.mp hq with rfl | hq
  · exact ⟨g6 _ _ f2, y2, ts1 ++ us5, _, bx2.ex g4, g6 _ _ fq2, by rw [iv_append]; exact paired_append hp1 (PairsOf.ex hps5 fun b xs h => g5 b _ h), rep_minus rp1 rp2, small_neg dr1 dr2⟩
  rcases List.mem_cons.mp hq with rfl | hq
  · exact ⟨g9 _ _ f3, y3, us8, _, bx3.ex g7, g8 _ _ hu8, PairsOf.ex hps8 fun b xs h => g8 b _ h, rep_times n rp1, small_scale dr1 n1 n2⟩
  rcases List.mem_cons.mp hq with rfl | hq
  · exact ⟨e13' _ _ f4, y5, ts1, _, bx5.ex g11, g0 _ _ h1, hp1, rep_back rp1 rp2, small_of dr1⟩
  cases hq
end
end KM
set_option Elab.async false
set_option linter.all false
set_option maxRecDepth 100000
set_option maxHeartbeats 2000000
namespace KM
open PySem PySem.Spec PyProof.Rows L2 KB KC KD KS RZ LamX
theorem same_step {C : Addr} {H : Hp} {a d a2 d2 : Addr} {ws ws2 : W} {Q : VK} {E : XK} (b : BagD C H a d ws) (b2 : BagD C H a2 d2 ws2) (q : Q (.bl (KB.eqT (iv ws) (iv ws2))) H) : spSame C [.ref a, .ref a2] H Q E := by
  unfold spSame
  exact ⟨a, d, a2, d2, ws, ws2, rfl, b, b2, q⟩
theorem add_step {C : Addr} {H : Hp} {a d q : Addr} {ws : W} {k : Row} {n : Int} {Q : VK} {E : XK} (b : BagD C H a d ws) (hq : H q = some (.tup (k.map kV))) (hl : ws.length ≤ 1000) (fin : Q .non (upd H d (.dT (iv (addW ws k n))))) : spAdd C [.ref a, .ref q, .int n] H Q E :=
  let ⟨_, h1, h2⟩ := b
  add_raw h1 h2 hq hl fin
theorem init0_stepR {K : PySem.W.Frag} {C : Addr} {H1 : Hp} {r x dx : Addr} {R : VK} {E : XK} (h : SqT K H1 r []) (hx : H1 x = none) (hdx : H1 dx = none) (n : dx ≠ x)
    (q : ∀ H' d, Ex H1 H' → H1 d = none → BagD C H' x d [] → R .non H') : spInit0 K C [.ref x, .ref r] (upd (upd H1 dx (.own x)) x (.ins C dx [])) R E := by
  have := init0_step (K := K) (C := C) (Q := fun v H' => v = .ref x → R .non H') (E := E) h (fun H' x' d e nd b => fun z => by cases z; exact q H' d e nd b) x dx hx hdx n
  unfold spInit0 at this ⊢
  obtain ⟨p, dx', r', e1, h1, h2, h5⟩ := this
  exact ⟨p, dx', r', e1, h1, h2, fun d hd nd => (h5 d hd nd).2 rfl⟩
theorem eqT_same {a b a' b' : W} {f g : Row → Int} (ra : Rep a f) (rb : Rep b g) (ra' : Rep a' f) (rb' : Rep b' g) : KB.eqT (iv a) (iv b) = KB.eqT (iv a') (iv b') := by
  rw [Bool.eq_iff_iff, eqT_rep ra rb, eqT_rep ra' rb']
section
variable {P : Program} {w : World} {K : PySem.W.Frag} {mg : Str → Option Value} {base : Heap} {C CR Ps Pr Pl cL fTo fL fI fA : Addr} {fdTo fdI fdA : FuncData} {r0 : Addr} {A : Around} {outer : List PySem.Env} {s : Shared} {H0 : Hp} {E0' : XK}
theorem law_4 (ve : LawE P w K mg base C CR Ps Pr Pl cL fTo fdTo) (hr : Room 11 (xLaw P w K mg base fL cL A outer s H0 E0').A) :
    ∃ t, PS (xLaw P w K mg base fL cL A outer s H0 E0') (law0.getD 4 (.Pass ⟨0,0,0,0⟩)) t ∧ ∀ (D : Ends) (a0 a1 a4 a7 a8 a9 a10 a11 a12 a13 a14 a15 a16 a17 : Option V) (H : Hp) (p1 p2 o1 d1 o2 d2 : Addr) (ts1 ts2 : List Addr) (r1 r2 : W),
      H p1 = some (.lst (ts1.map V.ref)) → PairsOf H ts1 (iv r1) → Drawn r1 → H p2 = some (.lst (ts2.map V.ref)) → PairsOf H ts2 (iv r2) → Drawn r2 → BagD C H o1 d1 (mk r1) → BagD C H o2 d2 (mk r2) →
      (∀ (H' : Hp), KS.Ex H H' → D.nx [a0, a1, some (.ref p1), some (.ref p2), a4, some (.ref o1), some (.ref o2), a7, a8, a9, a10, a11, a12, a13, a14, a15, a16, a17] H') →
      t D [a0, a1, some (.ref p1), some (.ref p2), a4, some (.ref o1), some (.ref o2), a7, a8, a9, a10, a11, a12, a13, a14, a15, a16, a17] H := by
  obtain ⟨f1, fd1, G1, g1, k1, b1⟩ := ve.same
  obtain ⟨f2, fd2, G2, g2, k2, b2⟩ := ve.sums
  obtain ⟨fP, fdP, GP, mP, bP⟩ := ve.plus
  have B := ve.B
  have hu := hr.units
  have hu1 := Nat.lt_trans (Nat.add_lt_add_left (by decide : 1 < 64) _) hu
  refine ⟨_, ps_if (PW.pt (pw_or (pt_cmpR op_ne (pe_call G1 (hr.mono (by decide)) (by rfl) g1 k1 b1 .nil pass0 (pa_cons (pv 5) (pa_cons (pv 6) pa_nil)))
        (pe_cmpR (op_eqDT hu1) (pe_call G2 (hr.mono (by decide)) (by rfl) g2 k2 b2 .nil pass0 (pa_cons (pv 2) pa_nil)) (pe_call G2 (hr.mono (by decide)) (by rfl) g2 k2 b2 .nil pass0 (pa_cons (pv 3) pa_nil)) (nomark _)) (nomark _))
      (pw_or1 (pt_not (pt_val (pe_call G1 (hr.mono (by decide)) (by rfl) g1 k1 b1 .nil pass0 (pa_cons (pe_meth (pv 5) B.cl mP GP (hr.mono (by decide)) bP .nil pass0 (pa_cons (pv 6) pa_nil)) (pa_cons (pe_meth (pv 6) B.cl mP GP (hr.mono (by decide)) bP .nil pass0 (pa_cons (pv 5) pa_nil)) pa_nil)))))))) (pss_one (ps_ret pe_bl)) pss_nil, ?_⟩
  intro D a0 a1 a4 a7 a8 a9 a10 a11 a12 a13 a14 a15 a16 a17 H p1 p2 o1 d1 o2 d2 ts1 ts2 r1 r2 h1 ps1 dr1 h2 ps2 dr2 bb1 bb2 fin
  have ml1 : (mk r1).length ≤ 8 := Nat.le_trans (mk_len r1) dr1.1
  have ml2 : (mk r2).length ≤ 8 := Nat.le_trans (mk_len r2) dr2.1
  refine ⟨_, rfl, _, rfl, same_step bb1 bb2 ⟨_, rfl, sums_step h1 ps1 (Nat.le_trans dr1.1 (by decide)) fun H1 e1 x1 n1 he1 => ⟨_, rfl, sums_step (x1 _ _ h2) (PairsOf.ex ps2 fun b xs h => x1 b _ h) (Nat.le_trans dr2.1 (by decide)) fun H2 e2 x2 n2 he2 => ⟨e1, e2, _, _, rfl, rfl, x2 _ _ he1, he2, intVals_iv _, intVals_iv _, rfl, _, rfl, ?_⟩⟩⟩⟩
  have x12 := x1.trans x2
  rw [eqT_same (rep_mk r1) (rep_mk r2) (rep_sums r1) (rep_sums r2), decide_eq_true rfl]
  refine ifF (by decide) ?_
  obtain ⟨dx1, ha1, _⟩ := id (bb1.ex x12)
  refine ⟨_, rfl, o1, dx1, _, rfl, ha1, bF_m (by decide +kernel), _, rfl, plus_step (bb1.ex x12) (bb2.ex x12) (by omega) fun H3 y1 z1 x3 _ by1 => ?_⟩
  have x13 := x12.trans x3
  obtain ⟨dx2, ha2, _⟩ := id (bb2.ex x13)
  refine ⟨_, rfl, o2, dx2, _, rfl, ha2, bF_m (by decide +kernel), _, rfl, plus_step (bb2.ex x13) (bb1.ex x13) (by omega) fun H4 y2 z2 x4 _ by2 => ?_⟩
  refine same_step (by1.ex x4) by2 ⟨_, rfl, ?_⟩
  have eq1 : KB.eqT (iv (mk (mk r1 ++ mk r2))) (iv (mk (mk r2 ++ mk r1))) = true := (eqT_rep (rep_plus (rep_mk r1) (rep_mk r2)) (rep_plus (rep_mk r2) (rep_mk r1))).mpr fun k => by rw [tot_append, tot_append]; omega
  rw [eq1]
  exact ifF (by decide) (fin H4 (x13.trans x4))
theorem law_567 (ve : LawE P w K mg base C CR Ps Pr Pl cL fTo fdTo) (M : TxtM K mg C fI fdI r0 fA fdA) (r0T : ∀ H, SqT K H r0 []) (hr : Room 11 (xLaw P w K mg base fL cL A outer s H0 E0').A) :
    ∃ t, PSs (xLaw P w K mg base fL cL A outer s H0 E0') [law0.getD 5 (.Pass ⟨0,0,0,0⟩), law0.getD 6 (.Pass ⟨0,0,0,0⟩), law0.getD 7 (.Pass ⟨0,0,0,0⟩)] t ∧ ∀ (D : Ends) (a0 a1 a3 a4 a6 a7 a8 a9 a10 a11 a12 a13 a14 a15 a16 a17 : Option V) (H : Hp) (p1 o1 d1 : Addr) (ts1 : List Addr) (r1 : W),
      H p1 = some (.lst (ts1.map V.ref)) → PairsOf H ts1 (iv r1) → Drawn r1 → BagD C H o1 d1 (mk r1) →
      (∀ (H' : Hp) (b7 b8 b15 : Option V), KS.Ex H H' → D.nx [a0, a1, some (.ref p1), a3, a4, some (.ref o1), a6, b7, b8, a9, a10, a11, a12, a13, a14, b15, a16, a17] H') →
      t D [a0, a1, some (.ref p1), a3, a4, some (.ref o1), a6, a7, a8, a9, a10, a11, a12, a13, a14, a15, a16, a17] H := by
  obtain ⟨f1, fd1, G1, g1, k1, b1⟩ := ve.same
  obtain ⟨f2, fd2, G2, m2, b2⟩ := ve.add
  obtain ⟨ds0, v0, b0⟩ := bindsI0 M.I
  have GI0 : FnOk P w K mg base CX0 2 fI fdI ["self", "rows"] (spInit0 K C) := ok_init0 M.I M.B M.A M.mA
  have B := ve.B
  refine ⟨_, pss_cons (ps_set (i := 15) scLaw.nd rfl (Or.inl rfl) (pe_make0 M.mkI GI0 (hr.mono (by decide)) (by rfl) M.B.gC b0 v0 pass0))
    (pss_cons (ps_for PassesOwn.never rfl (pi_list (pv 2)) (pg_tup rfl (pgs_cons (pg_name (i := 7) scLaw.nd rfl (Or.inl rfl)) (pgs_cons (pg_name (i := 8) scLaw.nd rfl (Or.inl rfl)) pgs_nil)))
      (pss_one (ps_expr (pe_meth (pv 15) B.cl m2 G2 (hr.mono (by decide)) b2 .nil pass0 (pa_cons (pv 7) (pa_cons (pv 8) pa_nil))))))
    (pss_one (ps_if (pt_not (pt_val (pe_call G1 (hr.mono (by decide)) (by rfl) g1 k1 b1 .nil pass0 (pa_cons (pv 15) (pa_cons (pv 5) pa_nil))))) (pss_one (ps_ret pe_bl)) pss_nil))), ?_⟩
  intro D a0 a1 a3 a4 a6 a7 a8 a9 a10 a11 a12 a13 a14 a15 a16 a17 H p1 o1 d1 ts1 r1 h1 ps1 dr1 bb1 fin
  refine fun fr dx hx hdx nx => init0_stepR (r0T H) hx hdx nx fun H1 dF e1 nd bF1 => ⟨rfl, ?_⟩
  have pl1 := pairs_len ps1
  refine ⟨_, rfl, p1, rfl, ⟨_, SqL.of (e1 _ _ h1)⟩, for_list (xs := ts1.map V.ref) (fun i σ H2 => (∃ u v, σ = [a0, a1, some (.ref p1), a3, a4, some (.ref o1), a6, u, v, a9, a10, a11, a12, a13, a14, some (.ref fr), a16, a17]) ∧ KS.Ex H H2 ∧ BagD C H2 fr dF (mkTo r1 i))
    ⟨⟨_, _, rfl⟩, e1, bF1⟩ (fun i σ H2 _ ⟨_, e, _⟩ => SqL.of (e _ _ h1)) ?_ ?_⟩
  · rintro i x σ H2 hx' ⟨⟨u, v, rfl⟩, e2, bF2⟩
    obtain ⟨t, ht, rfl⟩ := map_ref_at hx'
    obtain ⟨p, q, hi, hT, hK⟩ := pairs_at ps1 ht
    obtain ⟨dx2, ha2, hd2⟩ := id bF2
    refine ⟨t, _, rfl, SqT.of (e2 _ _ hT), rfl, _, _, rfl, _, _, rfl, rfl, ?_⟩
    refine ⟨_, rfl, fr, dx2, _, rfl, ha2, bF_m (by decide +kernel), _, rfl, _, rfl, add_step bF2 (e2 _ _ hK) ?_ ⟨⟨_, _, rfl⟩, Ex.on e2 nd, dx2, ?_, ?_⟩⟩
    · have h1 := mk_len (r1.take i)
      have h2 : (r1.take i).length ≤ r1.length := by rw [List.length_take]; omega
      have h3 := dr1.1
      show (mk (r1.take i)).length ≤ 1000
      omega
    · rw [L2.upd_ne (ne_of ha2 hd2 (fun z => nomatch z))]; exact ha2
    · rw [upd_same, mkTo_succ hi]
  · rintro σ H2 ⟨⟨u, v, rfl⟩, e2, bF2⟩
    have em : mkTo r1 (ts1.map V.ref).length = mk r1 := by
      unfold mkTo
      rw [List.length_map, pl1, List.take_length]
    rw [em] at bF2
    refine ⟨_, rfl, _, rfl, same_step bF2 (bb1.ex e2) ⟨_, rfl, ?_⟩⟩
    have eq1 : KB.eqT (iv (mk r1)) (iv (mk r1)) = true := (eqT_rep (rep_mk r1) (rep_mk r1)).mpr fun _ => rfl
    rw [eq1]
    exact ifF (by decide) (fin H2 _ _ _ e2)
end
end KM
set_option Elab.async false
set_option linter.all false
set_option maxRecDepth 100000
set_option maxHeartbeats 2000000
namespace KM
open PySem PySem.Spec PyProof.Rows L2 KB KC KD KS RZ LamX
section
variable {P : Program} {w : World} {K : PySem.W.Frag} {mg : Str → Option Value} {base : Heap} {C CR Ps Pr Pl cL fTo fL fI fA : Addr} {fdTo fdI fdA : FuncData} {r0 : Addr} {A : Around} {outer : List PySem.Env} {s : Shared} {H0 : Hp} {E0' : XK}
theorem law_ret (ve : LawE P w K mg base C CR Ps Pr Pl cL fTo fdTo) (M : TxtM K mg C fI fdI r0 fA fdA) (r0T : ∀ H, SqT K H r0 []) (hr : Room 11 (xLaw P w K mg base fL cL A outer s H0 E0').A) :
    ∃ t, PS (xLaw P w K mg base fL cL A outer s H0 E0') ((defBody sLaw).getD 1 (.Pass ⟨0,0,0,0⟩)) t ∧ ∀ (D : Ends) (σ : L2.St) (H : Hp), Tabs (TT Ps Pr Pl) H → (∀ H', D.rt (.bl true) H') → t D σ H := by
  obtain ⟨f1, fd1, G1, g1, k1, b1⟩ := ve.vrank
  obtain ⟨f2, fd2, G2, g2, k2, b2⟩ := ve.rrank
  obtain ⟨f3, fd3, G3, m3, b3⟩ := ve.spread
  obtain ⟨ds0, v0, b0⟩ := bindsI0 M.I
  have GI0 : FnOk P w K mg base CX0 2 fI fdI ["self", "rows"] (spInit0 K C) := ok_init0 M.I M.B M.A M.mA
  have GI : FnOk P w K mg base CX0 2 fI fdI ["self", "rows"] (spInit C) := ok_init M.I M.B M.A M.mA
  have B := ve.B
  have hu := hr.units
  refine ⟨_, ps_ret (pe_and (pe_cmpR (op_ltD hu) (pe_call G1 (hr.mono (by decide)) (by rfl) g1 k1 b1 .nil pass0 (pa_cons pe_int pa_nil)) (pe_call G1 (hr.mono (by decide)) (by rfl) g1 k1 b1 .nil pass0 (pa_cons pe_str pa_nil)) (nomark _))
    (pe_and (pe_cmpR (op_ltD hu) (pe_call G2 (hr.mono (by decide)) (by rfl) g2 k2 b2 .nil pass0 (pa_cons (pe_tup (pa_cons pe_int (pa_cons pe_str pa_nil))) pa_nil)) (pe_call G2 (hr.mono (by decide)) (by rfl) g2 k2 b2 .nil pass0 (pa_cons (pe_tup (pa_cons pe_int (pa_cons pe_str pa_nil))) pa_nil)) (nomark _))
    (pe_and (pe_cmpR (op_eqD hu) (pe_meth0 (CX := L2.CX P w) (pe_make0 M.mkI GI0 (hr.mono (by decide)) (by rfl) M.B.gC b0 v0 pass0) B.cl m3 G3 (hr.mono (by decide)) b3 .nil passL) (pe_tup pa_nil) (nomark _))
    (pe_one (pe_cmpR (op_eqD hu) (pe_meth0 (CX := L2.CX P w) (pe_make M.mkI GI (hr.mono (by decide)) (by rfl) M.B.gC (bindsI M.I) .nil pass0 (pa_cons (pe_lst (pa_cons (pe_tup (pa_cons (pe_tup (pa_cons pe_int pa_nil)) (pa_cons pe_int pa_nil))) pa_nil)) pa_nil)) B.cl m3 G3 (hr.mono (by decide)) b3 .nil passL)
      (pe_tup (pa_cons (pe_tup (pa_cons pe_int pa_nil)) (pa_cons (pe_tup (pa_cons pe_int pa_nil)) pa_nil))) (nomark _)))))), ?_⟩
  intro D σ H ht fin
  have two : 2 ≤ sizeLine := by decide
  have one : 1 ≤ sizeLine := by decide
  refine vrank_step (x := .inl 7) fun v1 hv1 => vrank_step (x := .inr "") fun v2 hv2 => ?_
  have e2 : KS.Ex H (upd (upd H v1 (.tup [.int (if isT (.inl 7) = true then 1 else 0), kV (.inl 7)])) v2 (.tup [.int (if isT (.inr "") = true then 1 else 0), kV (.inr "")])) := (Ex.upd hv1).trans (Ex.upd hv2)
  refine ⟨rkK (.inl 7), rkK (.inr ""), dp_ex (Ex.upd hv2) (dp_rkK _ upd_same), dp_rkK _ upd_same, by decide +kernel, by decide +kernel, okD_rkK _ _, ?_⟩
  rw [ltD_rkK (by intro z; cases z)]
  refine ⟨true, rfl, iteT ?_⟩
  generalize upd (upd H v1 (.tup [.int (if isT (.inl 7) = true then 1 else 0), kV (.inl 7)])) v2 (.tup [.int (if isT (.inr "") = true then 1 else 0), kV (.inr "")]) = H2 at e2
  refine ⟨two, fun q1 hq1 => rrank_step (k := [.inl 1, .inr "a"]) upd_same (by decide) fun H3 r1 e3 dp1 => ⟨two, fun q2 hq2 => rrank_step (k := [.inl 1, .inr "b"]) upd_same (by decide) fun H4 r2 e4 dp2 => ?_⟩⟩
  have e23 : KS.Ex H2 H3 := (Ex.upd hq1).trans e3
  have e34 : KS.Ex H3 H4 := (Ex.upd hq2).trans e4
  refine ⟨_, _, dp_ex e34 dp1, dp2, shaped_rk (by decide +kernel), shaped_rk (by decide +kernel), okL_rk _ _, ?_⟩
  have eb : ltD (.tuple (rk [.inl 1, .inr "a"])) (.tuple (rk [.inl 1, .inr "b"])) = true := (ltL_rk _ _).trans (by decide +kernel)
  rw [eb]
  refine ⟨true, rfl, iteT ?_⟩
  have t4 := ht.ext ((e2.trans e23).trans e34)
  have v0' : ds0.length = ds0.length := rfl
  refine fun x1 dx1 hx1 hdx1 nx1 => init0_stepR (r0T H4) hx1 hdx1 nx1 fun H5 d5 e5 _ b5 => ⟨rfl, ?_⟩
  obtain ⟨dxx, ha5, hd5⟩ := id b5
  refine ⟨x1, dxx, _, rfl, ha5, bF_m (by decide +kernel), spread_step b5 List.nodup_nil (fun p hp => nomatch hp) (by decide) (fun p hp => nomatch hp) (t4.ext e5) (fun z => nomatch z) fun _ H6 l6 us6 e6 t6 dp6 pm6 _ => ⟨by show 0 ≤ sizeLine; decide, fun q6 hq6 => ?_⟩⟩
  have eu6 : us6 = [] := List.Perm.eq_nil pm6
  subst eu6
  refine ⟨_, _, dp_ex (Ex.upd hq6) dp6, .tup (SqT.of upd_same) .nil, by decide +kernel, by decide +kernel, true, rfl, iteT ?_⟩
  have t7 := t6.ext (Ex.upd (o := .tup []) hq6)
  generalize upd H6 q6 (.tup []) = H7 at t7
  refine ⟨one, fun u1 hu1 => ⟨two, fun u2 hu2 => ⟨one, fun u3 hu3 => ?_⟩⟩⟩
  have c1 : (upd H7 u1 (.tup [.int 1])) u1 = some (.tup [.int 1]) := upd_same
  have c2 := Ex.upd (o := .tup [.ref u1, .int 2]) hu2 _ _ c1
  have e77 : KS.Ex H7 (upd (upd (upd H7 u1 (.tup [.int 1])) u2 (.tup [.ref u1, .int 2])) u3 (.lst [.ref u2])) := ((Ex.upd hu1).trans (Ex.upd hu2)).trans (Ex.upd hu3)
  refine fun x2 dx2 hx2 hdx2 nx2 => init_stepR (ts := [u2]) (rows := [([.inl 1], 2)]) upd_same (Paired.cons ⟨u1, Ex.upd hu3 _ _ upd_same, Ex.upd hu3 _ _ c2⟩ Paired.nil) (by decide) hx2 hdx2 nx2 fun H8 d8 e8 _ b8 => ⟨rfl, ?_⟩
  obtain ⟨dx8, ha8, hd8⟩ := id b8
  have em : mk [([.inl 1], (2 : Int))] = [([.inl 1], 2)] := by decide +kernel
  rw [em] at b8
  refine ⟨x2, dx8, _, rfl, ha8, bF_m (by decide +kernel), spread_step b8 (by unfold Nd; decide +kernel) (fun p hp => ?_) (by decide) (fun p hp => ?_) (t7.ext (e77.trans e8)) (fun z => nomatch z) fun _ H9 l9 us9 e9 t9 dp9 pm9 _ => ⟨one, fun w1 hw1 => ⟨one, fun w2 hw2 => ⟨two, fun w3 hw3 => ?_⟩⟩⟩⟩
  · rw [List.mem_singleton] at hp
    subst hp
    exact ⟨by simp, by decide +kernel, by decide⟩
  · rw [List.mem_singleton] at hp
    subst hp
    exact (by decide : (2 : Int) ≤ 1000)
  have eu9 : us9 = [([.inl 1], 2)] := List.Perm.eq_singleton pm9
  subst eu9
  have d1 : (upd H9 w1 (.tup [.int 1])) w1 = some (.tup [.int 1]) := upd_same
  have d2 := Ex.upd (o := .tup [.int 1]) hw2 _ _ d1
  have d3 := Ex.upd (o := .tup [.ref w1, .ref w2]) hw3 _ _ d2
  have d4 := Ex.upd (o := .tup [.ref w1, .ref w2]) hw3 _ _ (upd_same (H := upd H9 w1 (.tup [.int 1])) (a := w2) (o := .tup [.int 1]))
  refine ⟨_, .tuple [.tuple [.int 1], .tuple [.int 1]], dp_ex (((Ex.upd hw1).trans (Ex.upd hw2)).trans (Ex.upd hw3)) dp9, .tup (SqT.of upd_same) (.cons (.tup (SqT.of d3) (.cons (.int _) .nil)) (.cons (.tup (SqT.of d4) (.cons (.int _) .nil)) .nil)), by decide +kernel, by decide +kernel, ?_⟩
  have ev : PyData.eqv (.tuple (spreadD [([.inl 1], 2)])) (.tuple [.tuple [.int 1], .tuple [.int 1]]) = true := by decide +kernel
  rw [ev]
  exact fin _
end
end KM
set_option Elab.async false
set_option linter.all false
set_option maxRecDepth 100000
set_option maxHeartbeats 2000000
namespace KM
open PySem PySem.Spec PyProof.Rows L2 KB KC KD KS RZ LamX
theorem rounds_step {K : PySem.W.Frag} {H : Hp} {s : Addr} {ns : List Int} {Q : VK} {E : XK} (h : SqL K H s (ns.map V.int)) (fin : ∀ H' p d, Ex H H' → H' p = some (.lst [.ref d]) → IsDice H' d → Q (.ref p) H') : spRounds K [.ref s, .int 1] H Q E := by
  unfold spRounds
  exact ⟨s, ns, rfl, h, fin⟩
def spLaw (K : PySem.W.Frag) (Ps Pr Pl : Addr) : Sp := fun vs H Q _ => ∃ (a : Addr) (ns : List Int), vs = [.ref a] ∧ SqL K H a (ns.map V.int) ∧ Tabs (TT Ps Pr Pl) H ∧ ∀ H', Q (.bl true) H'
section
variable {P : Program} {w : World} {K : PySem.W.Frag} {mg : Str → Option Value} {base : Heap} {C CR Ps Pr Pl cL fTo fL fI fA : Addr} {fdTo fdI fdA fdL : FuncData} {r0 : Addr}
theorem ok_law (F : FnP K "law" "law" sLaw [] fL fdL) (hc : fdL.code = .ref cL) (ve : LawE P w K mg base C CR Ps Pr Pl cL fTo fdTo) (M : TxtM K mg C fI fdI r0 fA fdA) (r0T : ∀ H, SqT K H r0 []) :
    FnOk P w K mg base CX0 12 fL fdL ["script"] (spLaw K Ps Pr Pl) := by
  refine okC F hc scLaw (fun vs H Q E h => ?_) (fun A outer s H vs Q E hr h => ?_)
  · obtain ⟨_, _, rfl, _⟩ := h; rfl
  · obtain ⟨a, ns, rfl, hS, ht, fin⟩ := h
    obtain ⟨fR, fdR, GR, gR, kR, bR⟩ := ve.rounds
    obtain ⟨t0, d0, q0⟩ := law_0 (fL := fL) (A := A) (outer := outer) (s := s) (H0 := H) (E0' := E) ve hr
    obtain ⟨t1, d1, q1⟩ := law_1 (fL := fL) (A := A) (outer := outer) (s := s) (H0 := H) (E0' := E) ve M hr
    obtain ⟨t2, d2, q2⟩ := law_2 (fL := fL) (A := A) (outer := outer) (s := s) (H0 := H) (E0' := E) ve hr
    obtain ⟨tb, db, qb⟩ := bag_body (fL := fL) (A := A) (outer := outer) (s := s) (H0 := H) (E0' := E) ve hr
    obtain ⟨t4, d4, q4⟩ := law_4 (fL := fL) (A := A) (outer := outer) (s := s) (H0 := H) (E0' := E) ve hr
    obtain ⟨t5, d5, q5⟩ := law_567 (fL := fL) (A := A) (outer := outer) (s := s) (H0 := H) (E0' := E) ve M r0T hr
    obtain ⟨tr, dr, qr⟩ := law_ret (fL := fL) (A := A) (outer := outer) (s := s) (H0 := H) (E0' := E) ve M r0T hr
    have dFor : PS (xLaw P w K mg base fL cL A outer s H E) (law0.getD 3 (.Pass ⟨0,0,0,0⟩)) (tFor (iList K (tVar 9)) (gTup K 2 (gCons (gName 16) (gCons (gName 10) gNil))) tb) :=
      ps_for PassesOwn.never rfl (pi_list (pv 9)) (pg_tup rfl (pgs_cons (pg_name (i := 16) scLaw.nd rfl (Or.inr rfl)) (pgs_cons (pg_name (i := 10) scLaw.nd rfl (Or.inl rfl)) pgs_nil))) db
    have dBody : PSs (xLaw P w K mg base fL cL A outer s H E) law0 _ := pss_cons d0 (pss_cons d1 (pss_cons d2 (pss_cons dFor (pss_cons d4 d5))))
    refine ⟨_, PSs.nox <| (pss_cons (ps_for PassesOwn.never rfl (pi_list (pe_call GR (hr.mono (by decide)) (by rfl) gR kR bR .nil pass0 (pa_cons (pv 0) (pa_cons pe_int pa_nil)))) (pg_name (i := 1) scLaw.nd rfl (Or.inl rfl)) dBody) (pss_one dr) : PSs (xLaw P w K mg base fL cL A outer s H E) (defBody sLaw) _), ?_⟩
    refine ⟨_, rfl, rounds_step hS fun H1 p d e1 hp hd => ⟨p, rfl, ⟨_, SqL.of hp⟩, for_list (xs := [V.ref d]) (fun i σ H2 => Tabs (TT Ps Pr Pl) H2 ∧ H2 p = some (.lst [.ref d]) ∧ (i = 0 → σ = L2.start nLaw [.ref a] ∧ H2 = H1)) ⟨ht.ext e1, hp, fun _ => ⟨rfl, rfl⟩⟩ (fun i σ H2 _ h => SqL.of h.2.1) ?_ ?_⟩⟩
    · rintro i x σ H2 hx ⟨tt, hp2, hi⟩
      cases i with
      | succ i => cases hx
      | zero =>
        obtain ⟨rfl, rfl⟩ := hi rfl
        cases hx
        have npd : p ≠ d := dice_ne (ts := [d]) hd hp
        refine q0 _ (some (.ref a)) none none none none none none none none none none none none none none none none H2 d hd tt fun H3 p1 p2 ts1 ts2 r1 r2 n e3 t3 h1 ps1 dr1 h2 ps2 dr2 n1 n2 => ?_
        have hp3 := e3 _ _ npd hp
        refine q1 _ _ _ _ _ _ _ _ _ _ _ _ _ _ _ _ _ H3 p1 p2 ts1 ts2 r1 r2 h1 ps1 dr1 h2 ps2 dr2 fun H4 o1 d1' o2 d2' e4 b1 b2 => ?_
        have ps1' := PairsOf.ex ps1 fun b xs h => e4 b _ h
        have ps2' := PairsOf.ex ps2 fun b xs h => e4 b _ h
        refine q2 _ _ _ _ _ _ _ _ _ _ _ _ _ _ H4 p1 p2 o1 d1' o2 d2' ts1 ts2 r1 r2 n (e4 _ _ h1) ps1' dr1 (e4 _ _ h2) ps2' dr2 b1 b2 n1 n2 fun H5 du es e5 hdu hes => ?_
        have e35 := e4.trans e5
        refine ⟨_, rfl, du, rfl, ⟨_, SqL.of hdu⟩, for_list (xs := es.map fun q => V.ref q.1) (fun i σ H6 => (∃ b7 b8 b10 b11 b12 b13 b14 b16, σ = [some (.ref a), some (.ref d), some (.ref p1), some (.ref p2), some (.int n), some (.ref o1), some (.ref o2), b7, b8, some (.ref du), b10, b11, b12, b13, b14, none, b16, none]) ∧ ExtN H5 H6 ∧ Tabs (TT Ps Pr Pl) H6)
          ⟨⟨_, _, _, _, _, _, _, _, rfl⟩, ExtN.refl _, t3.ext e35⟩ (fun i σ H6 _ h => SqL.of (h.2.1 _ _ hdu (fun _ z => nomatch z))) ?_ ?_⟩
        · rintro i x σ H6 hx ⟨⟨b7, b8, b10, b11, b12, b13, b14, b16, rfl⟩, e6, t6⟩
          rw [List.getElem?_map] at hx
          obtain ⟨q, hq, rfl⟩ := Option.map_eq_some_iff.mp hx
          obtain ⟨hqt, hqd⟩ := hes q (List.mem_of_getElem? hq)
          refine ⟨q.1, _, rfl, SqT.of (e6 _ _ hqt (fun _ z => nomatch z)), rfl, _, _, rfl, _, _, rfl, rfl, ?_⟩
          exact qb _ _ _ _ _ _ _ _ _ _ _ _ _ _ _ _ _ H6 q.2.1 q.2.2.1 q.2.2.2 (hqd.exN e6) t6 fun H7 c7 c8 c11 c12 c13 c14 e7 t7 => ⟨⟨_, _, _, _, _, _, _, _, rfl⟩, e6.trans e7, t7⟩
        · rintro σ H6 ⟨⟨b7, b8, b10, b11, b12, b13, b14, b16, rfl⟩, e6, t6⟩
          have e46 : ExtN H4 H6 := (ExtN.of e5).trans e6
          have e36 : ExtN H3 H6 := (ExtN.of e4).trans e46
          have hl1 := e36 _ _ h1 (fun _ z => nomatch z)
          have hl2 := e36 _ _ h2 (fun _ z => nomatch z)
          have hps1 := PairsOf.exN ps1 e36
          have hps2 := PairsOf.exN ps2 e36
          refine q4 _ _ _ _ _ _ _ _ _ _ _ _ _ _ _ H6 p1 p2 o1 d1' o2 d2' ts1 ts2 r1 r2 hl1 hps1 dr1 hl2 hps2 dr2 (b1.exN e46) (b2.exN e46) fun H7 e7 => ?_
          refine q5 _ _ _ _ _ _ _ _ _ _ _ _ _ _ _ _ _ H7 p1 o1 d1' ts1 r1 (e7 _ _ hl1) (PairsOf.ex hps1 fun b xs h => e7 b _ h) dr1 ((b1.exN e46).ex e7) fun H8 c7 c8 c15 e8 => ?_
          exact ⟨t6.ext (e7.trans e8), (e7.trans e8) _ _ (e36 _ _ hp3 (fun _ z => nomatch z)), fun z => nomatch z⟩
    · rintro σ H2 ⟨t2', _, _⟩
      exact qr _ σ H2 t2' fun H' => fin H'
end
end KM
set_option Elab.async false
set_option linter.all false
set_option maxRecDepth 100000
set_option maxHeartbeats 0
namespace KM
open PySem PySem.Spec PyProof.Rows L2
def dD (x : Str) (st : Stmt) : He.DefD := ⟨(x, none), x, x, defArgs st, defBody st, defScope st, [], []⟩
def dM (m q : Str) (j : Nat) (dfl : List He.Dv) : He.DefD := ⟨("Bag", some m), m, q, defArgs (sM j), defBody (sM j), defScope (sM j), dfl, []⟩
def fnL : List He.DefD := [dD "value_rank" sVRank, dD "row_rank" sRRank, dD "same_bags" sSame, dD "_law_dice" sDice, dD "_law_roll" sRoll, dD "_law_rounds" sRounds, dD "_law_told" sTold, dD "_law_drawn" sDrawn, dD "_law_sums" sSums, dD "_law_before" sBefore, dD "law" sLaw,
  dM "__init__" "Bag.__init__" 0 [.adr (He.dflAt ("Bag", some "__init__") 0)], dM "add" "Bag.add" 1 [.int 1], dM "weight" "Bag.weight" 2 [], dM "rows" "Bag.rows" 3 [], dM "weighted" "Bag.weighted" 4 [], dM "plus" "Bag.plus" 5 [], dM "times" "Bag.times" 6 [], dM "minus" "Bag.minus" 7 [], dM "once" "Bag.once" 8 [], dM "is_set" "Bag.is_set" 9 [], dM "spread" "Bag.spread" 10 []]
def faL : List He.Fa := [.glo "value_rank", .glo "row_rank", .glo "same_bags", .glo "_law_dice", .glo "_law_roll", .glo "_law_rounds", .glo "_law_told", .glo "_law_drawn", .glo "_law_sums", .glo "_law_before", .glo "law", .glo "Bag", .glo "RowError",
  .free "abs", .free "int", .free "range", .free "dict", .free "list", .free "tuple", .free "len", .free "zip", .free "isinstance", .free "str", .free "sorted", .free "all",
  .cls "Bag", .noat "Bag" "weights", .mkr "Bag", .meth "Bag" "add", .meth "Bag" "weight", .meth "Bag" "rows", .meth "Bag" "weighted", .meth "Bag" "plus", .meth "Bag" "times", .meth "Bag" "minus", .meth "Bag" "once", .meth "Bag" "is_set", .meth "Bag" "spread",
  .exc "RowError", .exm "RowError" "RowError" true]
def tS : He.Defn := ("Bag", some "is_set")
def tR : He.Defn := ("Bag", some "rows")
def tL : He.Defn := ("law", none)
def tfL : List He.Defn := [tS, tR, tL]
def exL (K : PySem.W.Frag) : Bool := (((He.cT K tS).2 != (He.cT K tR).2) && ((He.cT K tS).2 != (He.cT K tL).2) && ((He.cT K tR).2 != (He.cT K tL).2)) && (match K.lookup (He.dflAt ("Bag", some "__init__") 0 K) with
  | some ⟨.type "tuple", _, .seq its _, _⟩ => its.isEmpty
  | _ => false)
abbrev RL : PySem.W.OpenRow := PySem.W.OpenLaw.row PySem.Challenge.rw_streamstack_k02_rows_with_weights
abbrev hkL : PySem.W.Hook := He.hookX 6 faL fnL [] tfL exL
def obL (s : PySem.W.SharedT) : He.AlX := He.obsX 6 faL fnL [] tfL exL (HandSHeadRun.getT s)
theorem obL_eq (s : PySem.W.SharedT) : obL s = hkL.obs s.abs := He.obsX_eq (HandSHeadRun.getT_eq s)
def looseL : List Str := ["StreamError", "RowError", "Bag", "value_rank", "row_rank", "same_bags", "_law_dice", "_law_roll", "_law_rounds", "_law_told", "_law_drawn", "_law_sums", "_law_before"]
theorem runL (w : World) : HandSHeadRun.RunEq RL (PySem.W.view RL.prog [16]) hkL obL 3000 looseL w := by
  intro os
  kernel_rfl
end KM
set_option Elab.async false
set_option linter.all false
set_option maxRecDepth 100000
set_option maxHeartbeats 4000000
namespace KM
open PySem PySem.Spec PyProof.Rows L2 KB KC KD KS RZ LamX
theorem code_at {K : PySem.W.Frag} {x q : Str} {st : Stmt} {dvs : List V} {p : He.Defn} {fd : FuncData} (F : FnP K x q st dvs (He.fAd K p) fd) : fd.code = .ref (He.cT K p).1 := by
  obtain ⟨oc, od, dV, kV, doc, pm, an, cdv, ct, osl, rfl, lk, hcd, _, _⟩ := F.ex
  obtain ⟨c, e⟩ := He.codeIn_ref hcd
  subst e
  have z : He.codeOf K p = c := He.codeOf_eq lk rfl
  show Value.ref c = Value.ref (He.codeOf K p)
  rw [z]
theorem sqT_empty {K : PySem.W.Frag} {a : Addr} (h : (match K.lookup a with
  | some ⟨.type "tuple", _, .seq its _, _⟩ => its.isEmpty
  | _ => false) = true) (H : Hp) : SqT K H a [] := by
  split at h
  · rename_i dd its n sl e
    have hi : its = #[] := Array.isEmpty_iff.mp h
    subst hi
    exact .inr ⟨_, #[], n, e, rfl, rfl, by show 0 ≤ sizeLine; decide, .nil⟩
  · cases h
def pickL (K : PySem.W.Frag) : List (Addr × Addr) := [He.cT K tS, He.cT K tR, He.cT K tL]
theorem lawAt {w : World} {mg : Str → Option Value} {fa : Addr} {h : Heap} {K : PySem.W.Frag} (X : K.In h) (G : h.Ns mainGlobals mg) (hmg : mg ("law" : Str) = some (.ref fa)) (c : He.SaysX faL fnL [] tfL exL w h K) :
    LawAtS PySem.Challenge.rw_streamstack_k02_rows_with_weights w K CX0 12 63 "script" mg fa h := by
  have D := c.t.d
  obtain ⟨fdVR, FVR⟩ := D.def_ 0 (d := dD "value_rank" sVRank) rfl
  obtain ⟨fdRR, FRR⟩ := D.def_ 1 (d := dD "row_rank" sRRank) rfl
  obtain ⟨fdSm, FSm⟩ := D.def_ 2 (d := dD "same_bags" sSame) rfl
  obtain ⟨fdDi, FDi⟩ := D.def_ 3 (d := dD "_law_dice" sDice) rfl
  obtain ⟨fdRo, FRo⟩ := D.def_ 4 (d := dD "_law_roll" sRoll) rfl
  obtain ⟨fdRn, FRn⟩ := D.def_ 5 (d := dD "_law_rounds" sRounds) rfl
  obtain ⟨fdTo, FTo⟩ := D.def_ 6 (d := dD "_law_told" sTold) rfl
  obtain ⟨fdDr, FDr⟩ := D.def_ 7 (d := dD "_law_drawn" sDrawn) rfl
  obtain ⟨fdSu, FSu⟩ := D.def_ 8 (d := dD "_law_sums" sSums) rfl
  obtain ⟨fdBe, FBe⟩ := D.def_ 9 (d := dD "_law_before" sBefore) rfl
  obtain ⟨fdLa, FLa⟩ := D.def_ 10 (d := dD "law" sLaw) rfl
  obtain ⟨fdIn, FIn⟩ := D.def_ 11 (d := dM "__init__" "Bag.__init__" 0 [.adr (He.dflAt ("Bag", some "__init__") 0)]) rfl
  obtain ⟨fdAd, FAd⟩ := D.def_ 12 (d := dM "add" "Bag.add" 1 [.int 1]) rfl
  obtain ⟨fdWe, FWe⟩ := D.def_ 13 (d := dM "weight" "Bag.weight" 2 []) rfl
  obtain ⟨fdRw, FRw⟩ := D.def_ 14 (d := dM "rows" "Bag.rows" 3 []) rfl
  obtain ⟨fdWd, FWd⟩ := D.def_ 15 (d := dM "weighted" "Bag.weighted" 4 []) rfl
  obtain ⟨fdPl, FPl⟩ := D.def_ 16 (d := dM "plus" "Bag.plus" 5 []) rfl
  obtain ⟨fdTi, FTi⟩ := D.def_ 17 (d := dM "times" "Bag.times" 6 []) rfl
  obtain ⟨fdMi, FMi⟩ := D.def_ 18 (d := dM "minus" "Bag.minus" 7 []) rfl
  obtain ⟨fdOn, FOn⟩ := D.def_ 19 (d := dM "once" "Bag.once" 8 []) rfl
  obtain ⟨fdIs, FIs⟩ := D.def_ 20 (d := dM "is_set" "Bag.is_set" 9 []) rfl
  obtain ⟨fdSp, FSp⟩ := D.def_ 21 (d := dM "spread" "Bag.spread" 10 []) rfl
  have gl : ∀ (i : Nat) (x : Str), faL[i]? = some (.glo x) → mg x = some (.ref (He.ga K x)) := fun i x h => He.glo_ok X G (D.fact i h)
  have fr : ∀ (i : Nat) (x : Str), faL[i]? = some (.free x) → mg x = none := fun i x h => He.free_ok X G (D.fact i h)
  have me : ∀ (i : Nat) (m : Str), faL[i]? = some (.meth "Bag" m) → Meth K (He.ga K "Bag") m (He.ma K (He.ga K "Bag") m) := fun i m h => He.meth_ok (D.fact i h)
  have T : TxtL mg := ⟨fr 13 _ rfl, fr 14 _ rfl, fr 15 _ rfl, fr 16 _ rfl, fr 17 _ rfl, fr 18 _ rfl, fr 19 _ rfl, fr 20 _ rfl, fr 21 _ rfl, fr 22 _ rfl, fr 23 _ rfl, fr 24 _ rfl⟩
  have B : TxtB K mg (He.ga K "Bag") := ⟨He.cls_ok (D.fact 25 (f := .cls "Bag") rfl), He.noat_ok (D.fact 26 (f := .noat "Bag" "weights") rfl), gl 11 _ rfl⟩
  obtain ⟨x1, x2, x3, x4⟩ := He.exc_ok (D.fact 38 (f := .exc "RowError") rfl)
  have TX : TxtX K mg (He.ga K "RowError") := ⟨gl 12 _ rfl, x1, x2, x3, x4, He.exm_ok (D.fact 39 (f := .exm "RowError" "RowError" true) rfl)⟩
  have hex := c.more
  unfold exL at hex
  rw [Bool.and_eq_true, Bool.and_eq_true, Bool.and_eq_true, bne_iff_ne, bne_iff_ne, bne_iff_ne] at hex
  have ap : Apart (He.cT K tS).2 (He.cT K tR).2 (He.cT K tL).2 := ⟨hex.1.1.1, hex.1.1.2, hex.1.2⟩
  have r0T : ∀ H, SqT K H (He.dflAt ("Bag", some "__init__") 0 K) [] := fun H => sqT_empty hex.2 H
  have e := hmg.symm.trans (gl 10 _ rfl)
  cases e
  have M : TxtM K mg (He.ga K "Bag") (He.ma K (He.ga K "Bag") "__init__") fdIn (He.dflAt ("Bag", some "__init__") 0 K) (He.ma K (He.ga K "Bag") "add") fdAd := ⟨B, FIn, He.mkr_ok (D.fact 27 (f := .mkr "Bag") rfl), FAd, me 28 _ rfl⟩
  have memL : ∀ p ∈ pickL K, ∃ q ∈ tfL, p = He.cT K q := fun p hp => by
    rcases List.mem_cons.mp hp with rfl | hp
    · exact ⟨tS, List.mem_cons_self .., rfl⟩
    rcases List.mem_cons.mp hp with rfl | hp
    · exact ⟨tR, List.mem_cons_of_mem _ (List.mem_cons_self ..), rfl⟩
    rcases List.mem_cons.mp hp with rfl | hp
    · exact ⟨tL, List.mem_cons_of_mem _ (List.mem_cons_of_mem _ (List.mem_cons_self ..)), rfl⟩
    cases hp
  refine ⟨fdLa, pickL K, spLaw K (He.cT K tS).2 (He.cT K tR).2 (He.cT K tL).2, fun p hp => ?_, fun p hp => ?_, fun p hp => ?_, fun s u => ?_, fun H a ns hl hb hT hS => ?_, fun base KB GB TB => ?_⟩
  · obtain ⟨q, hq, rfl⟩ := memL p hp
    exact c.empty q hq
  · obtain ⟨q, hq, rfl⟩ := memL p hp
    exact c.out q hq
  · obtain ⟨q, hq, rfl⟩ := memL p hp
    exact PySem.W.codeHd_of_K X (c.hd q hq)
  · exact FLa.bindsA (ps := ["script"]) (fun _ _ _ _ _ _ us hl => match us, hl with | [_], _ => rfl) s [u] rfl
  · refine ⟨a, ns, rfl, hS, fun p hp => ?_, fun _ => rfl⟩
    rcases List.mem_cons.mp hp with rfl | hp
    · exact TabS.nil (hT _ (List.mem_cons_self ..))
    rcases List.mem_cons.mp hp with rfl | hp
    · exact TabS.nil (hT (He.cT K tR) (List.mem_cons_of_mem _ (List.mem_cons_self ..)))
    rcases List.mem_cons.mp hp with rfl | hp
    · exact TabS.nil (hT (He.cT K tL) (List.mem_cons_of_mem _ (List.mem_cons_of_mem _ (List.mem_cons_self ..))))
    cases hp
  · have tbS := TB _ (List.mem_cons_self ..)
    have tbR := TB (He.cT K tR) (List.mem_cons_of_mem _ (List.mem_cons_self ..))
    have tbL := TB (He.cT K tL) (List.mem_cons_of_mem _ (List.mem_cons_of_mem _ (List.mem_cons_self ..)))
    have PP : TxtP K mg base (He.ga K "Bag") (He.cT K tS).1 (He.cT K tS).2 (He.cT K tR).1 (He.cT K tR).2 (He.cT K tL).2 (He.ga K "row_rank") (He.ga K "value_rank") (He.ma K (He.ga K "Bag") "is_set") (He.ma K (He.ga K "Bag") "rows") fdRR fdVR fdIs fdRw :=
      ⟨B, T, ap, ⟨tbS.code, tbS.bm, tbS.gP⟩, tbR, FRR, gl 1 _ rfl, FVR, gl 0 _ rfl, FIs, code_at (p := tS) (st := sM 9) (dvs := []) FIs, me 36 _ rfl, FRw, code_at (p := tR) (st := sM 3) (dvs := []) FRw, me 30 _ rfl⟩
    have b1 : ∀ {x q : Str} {st : Stmt} {f : Addr} {fd : FuncData} {p1 : Str} (F : FnP K x q st [] f fd) (h : ∀ (kV doc pm : Value) (an : Option Addr) (cdv ct : Value) (us : List Value), us.length = [p1].length → bindArgs (PySem.W.fnOf x q (defArgs st) (defBody st) (defScope st) .none kV doc pm an cdv ct) ⟨us, []⟩ = pure ([p1].zip us)), Binds K fd [p1] [] := fun F h => F.bindsN h
    have ve : LawE PySem.Challenge.rw_streamstack_k02_rows_with_weights.prog w K mg base (He.ga K "Bag") (He.ga K "RowError") (He.cT K tS).2 (He.cT K tR).2 (He.cT K tL).2 (He.cT K tL).1 (He.ga K "_law_told") fdTo :=
      { T := T, B := B, X := TX, ap := ap, TBl := tbL
        rounds := ⟨_, _, ok_rounds FRn T FDi (gl 3 _ rfl), gl 5 _ rfl, FRn.kp, FRn.bindsN fun _ _ _ _ _ _ us hl => match us, hl with | [_, _], _ => rfl⟩
        drawn := ⟨_, _, ok_drawn FDr T FRo (gl 4 _ rfl), gl 7 _ rfl, FDr.kp, FDr.bindsN fun _ _ _ _ _ _ us hl => match us, hl with | [_], _ => rfl⟩
        roll := ⟨_, _, ok_roll FRo T, gl 4 _ rfl, FRo.kp, FRo.bindsN fun _ _ _ _ _ _ us hl => match us, hl with | [_, _], _ => rfl⟩
        sums := ⟨_, _, ok_sums FSu T, gl 8 _ rfl, FSu.kp, FSu.bindsN fun _ _ _ _ _ _ us hl => match us, hl with | [_], _ => rfl⟩
        before := ⟨_, _, ok_before FBe T, gl 9 _ rfl, FBe.kp, FBe.bindsN fun _ _ _ _ _ _ us hl => match us, hl with | [_, _], _ => rfl⟩
        same := ⟨_, _, ok_same FSm B, gl 2 _ rfl, FSm.kp, FSm.bindsN fun _ _ _ _ _ _ us hl => match us, hl with | [_, _], _ => rfl⟩
        vrank := ⟨_, _, ok_vrank FVR T, gl 0 _ rfl, FVR.kp, FVR.bindsN fun _ _ _ _ _ _ us hl => match us, hl with | [_], _ => rfl⟩
        rrank := ⟨_, _, ok_rrank FRR T FVR (gl 0 _ rfl), gl 1 _ rfl, FRR.kp, FRR.bindsN fun _ _ _ _ _ _ us hl => match us, hl with | [_], _ => rfl⟩
        add := ⟨_, _, ok_add FAd B, me 28 _ rfl, bindsAdd FAd⟩
        weight := ⟨_, _, ok_weight FWe B, me 29 _ rfl, FWe.bindsN fun _ _ _ _ _ _ us hl => match us, hl with | [_, _], _ => rfl⟩
        rows := ⟨_, _, ok_rows FRw PP.cR tbR ap B T FRR (gl 1 _ rfl) FVR (gl 0 _ rfl), me 30 _ rfl, FRw.bindsN fun _ _ _ _ _ _ us hl => match us, hl with | [_], _ => rfl⟩
        plus := ⟨_, _, ok_plus FPl M T FWd (me 31 _ rfl), me 32 _ rfl, FPl.bindsN fun _ _ _ _ _ _ us hl => match us, hl with | [_, _], _ => rfl⟩
        times := ⟨_, _, ok_times FTi M T FWd (me 31 _ rfl), me 33 _ rfl, FTi.bindsN fun _ _ _ _ _ _ us hl => match us, hl with | [_, _], _ => rfl⟩
        minus := ⟨_, _, ok_minus FMi M T FWd (me 31 _ rfl) FPl (me 32 _ rfl) FTi (me 33 _ rfl), me 34 _ rfl, FMi.bindsN fun _ _ _ _ _ _ us hl => match us, hl with | [_, _], _ => rfl⟩
        once := ⟨_, _, ok_once FOn M T FWd (me 31 _ rfl), me 35 _ rfl, FOn.bindsN fun _ _ _ _ _ _ us hl => match us, hl with | [_], _ => rfl⟩
        isset := ⟨_, _, ok_isset FIs PP.cS PP.TBs ap B T, me 36 _ rfl, FIs.bindsN fun _ _ _ _ _ _ us hl => match us, hl with | [_], _ => rfl⟩
        spread := ⟨_, _, ok_spread FSp PP TX, me 37 _ rfl, FSp.bindsN fun _ _ _ _ _ _ us hl => match us, hl with | [_], _ => rfl⟩
        told := FTo
        gTold := gl 6 _ rfl }
    exact ok_law FLa (code_at (p := tL) (st := sLaw) (dvs := []) FLa) ve M r0T
end KM
open PySem PySem.W PySem.Calls PyProof.Rows
theorem PySem.Challenge.cw_streamstack_k02_rows_with_weights_holds : PySem.Challenge.rw_streamstack_k02_rows_with_weights.Holds := by
  w_on; o_law
  refine HandSHeadRun.head_any (r := OpenLaw.row PySem.Challenge.rw_streamstack_k02_rows_with_weights) (q := view (OpenLaw.row PySem.Challenge.rw_streamstack_k02_rows_with_weights).prog [16]) (H := KM.hkL) (ob := KM.obL) (M := 3000) (loose := KM.looseL) (d := HandSHeadRun.topDef (OpenLaw.row PySem.Challenge.rw_streamstack_k02_rows_with_weights).prog 16) (kwd := []) KM.obL_eq
    (by kernel_rfl) (fun s => by kernel_rfl) KM.runL (by kernel_rfl) (by kernel_rfl) (by kernel_rfl) (by rfl) (by first | assumption | decide +kernel) (by decide +kernel) ⟨rfl, rfl, rfl, rfl, rfl, by decide +kernel⟩ ?hw ?hc
  case hw => w_witness2
  case hc =>
    refine LamX.walk_ofTsE (l := PySem.Challenge.rw_streamstack_k02_rows_with_weights) (n := 63) (k := 12) (x := "script") (CX := fun _ => L2.CX0) rfl (by decide) (by kernel_rfl) ⟨rfl, by decide, by decide⟩ ?F (fun _ _ _ _ _ z => z)
    intro w mg fa h Y G hmg0
    obtain ⟨K, KX, c⟩ := Y
    have hmg : mg ("law" : PySem.Str) = some (.ref fa) := by
      have e : (HandSHeadRun.topDef (OpenLaw.row PySem.Challenge.rw_streamstack_k02_rows_with_weights).prog 16).name = ("law" : PySem.Str) := by kernel_rfl
      rw [← e]
      exact hmg0
    exact ⟨K, KX, KM.lawAt KX G hmg c⟩
