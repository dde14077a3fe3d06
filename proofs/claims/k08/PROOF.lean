import PyProof.Rows.All
import Wide.All
import OpenK.AllK
import Wide.FinOn
import HandS.ForMost
import HandS.Lambda
import HandS.AnyAll
import HandS.EndTab
import HandS.TupAny
import HandS.Zip
import HandS.DictTup
import HandS.Codes
import HandS.ExcOwn
import HandS.TryOnly
import HandS.IsInst
import HandS.Wide
import HandS.DictComp
import HandS.DictEq
import HandS.ListItems
import KE.LtSeq
import KE.KSortTup
import HandS.SortOrd
import HandS.SortKw
import HandS.SortRule
import HandS.Defaults
import HandS.WordsExc
import HandS.Deep
import HandS.Conv
import PyProof.P3In
import KE.DatumOrd
import PySem.Challenge.RW_streamstack_k08_times_and_windows
import HandS.Walk
import HandS.RaiseMore
import HandS.FStr
import KE.KStateDown
import Lean
import HandS.Ends
import HandS.More
import HandS.Words
import HandS.Head0
import HandS.Head1
import HandS.Head2
import HandS.HeadEnd
import HandS.HeadHook1
import HandS.HeadHook2
import HandS.HeadHook3
import HandS.HeadHook4
import HandS.HeadWalk
set_option Elab.async false
set_option linter.all false
set_option maxRecDepth 100000
set_option maxHeartbeats 4000000
namespace KB
open PySem PySem.Spec PyProof.Rows L2
section
variable {prog : Program} {w : World} {K : Type} [DecidableEq K] {knd : HeapKind prog w K} {A : Around} {E : Value → Shared → Prop} {s : Shared}
def hitH (ys : List (K × Addr × Value)) (eqb : Value → Value → Bool) (x : K × Addr × Value) : Bool :=
  match atKey ys x.1 with
  | none => false
  | some q => eqb x.2.2 q.2
theorem samePairsH {nm : String} {a b : Addr} {xs ys : List (K × Addr × Value)} {eqb : Value → Value → Bool} {Q : Bool → Shared → Prop} (ha : (a == sysModules) = false) (hb : (b == sysModules) = false)
    (da : s.heap.DictOfH knd a xs) (db : s.heap.DictOfH knd b ys) (hu : knd.room A)
    (heq : ∀ x ∈ xs, ∀ q, atKey ys x.1 = some q → ∀ (R : Bool → Shared → Prop) (F : Value → Shared → Prop), R (eqb x.2.2 q.2) s → wpAny (model prog w) A (eqBool x.2.2 q.2) R F s)
    (h : Q (xs.length == ys.length && xs.all (hitH ys eqb)) s) :
    wpAny (model prog w) A (Builtin.Dict.samePairs nm a b) Q E s := by
  obtain ⟨oa, es, ep, hoa, _, hda, hka, hia, hna⟩ := da
  obtain ⟨ob, es', ep', hob, _, hdb, hkb, hib, hnb⟩ := db
  have hla : xs.length = es.size := (size_of_entries hka).symm
  have hlb : ys.length = es'.size := (size_of_entries hkb).symm
  rw [hla, hlb] at h
  unfold Builtin.Dict.samePairs Builtin.Dict.showsAll
  rw [if_neg (show ¬ (a == sysModules) = true by rw [ha]; exact Bool.false_ne_true), if_neg (show ¬ (b == sysModules) = true by rw [hb]; exact Bool.false_ne_true)]
  refine wpAny_bind (wpAny_pure (wpAny_bind (wpAny_pure ?_)))
  refine wpAny_bind (wpAny_dictEntries hoa hda ?_)
  dsimp only
  refine wpAny_bind (wpAny_dictEntries hob hdb ?_)
  by_cases hsz : es.size = es'.size
  case neg =>
    rw [if_pos (by simpa using hsz)]
    have hbf : (es.size == es'.size) = false := by simpa using hsz
    rw [hbf, Bool.false_and] at h
    exact wpAny_bind (wpAny_rule (wpAny_pure h))
  case pos =>
    have h' : Q (xs.all (hitH ys eqb)) s := by simpa [hsz] using h
    rw [if_neg (by rw [hsz]; simp)]
    refine wpAny_bind (wpAny_dictEpoch hoa hda ?_)
    refine wpAny_bind ?_
    rw [Std.Legacy.Range.forIn_eq_forIn_range']
    simp only [Std.Legacy.Range.size, Nat.sub_zero, Nat.add_sub_cancel, Nat.div_one]
    refine wpAny_forIn_list _
      (fun rest q s' => s' = s ∧ q = (none, ()) ∧ ∃ i, rest = List.range' i (es.size - i) ∧ i ≤ es.size ∧ (xs.drop i).all (hitH ys eqb) = xs.all (hitH ys eqb))
      _ ?_ ?_ _ _ ⟨rfl, rfl, 0, by simp, Nat.zero_le _, by simp⟩
    · rintro x rest q s' ⟨rfl, rfl, i, hr, hi, hpre⟩
      have hlt : i < es.size := by
        rcases Nat.lt_or_ge i es.size with h | h
        · exact h
        · rw [Nat.sub_eq_zero_of_le h] at hr; simp at hr
      obtain ⟨rfl, hrest⟩ : x = i ∧ rest = List.range' (i + 1) (es.size - (i + 1)) := by
        have e : es.size - i = (es.size - (i + 1)) + 1 := by omega
        rw [e, List.range'_succ] at hr
        injection hr with h1 h2
        exact ⟨h1, h2⟩
      refine wpAny_bind (wpAny_dictEntries hoa hda ?_)
      have hlt' : x < xs.length := by rw [hla]; exact hlt
      obtain ⟨k, c, v, hkv⟩ : ∃ k c v, xs[x] = (k, c, v) := ⟨_, _, _, rfl⟩
      have hdrop : xs.drop x = (k, c, v) :: xs.drop (x + 1) := by rw [← hkv]; exact List.drop_eq_getElem_cons hlt'
      have hget : xs[x]? = some (k, c, v) := by rw [List.getElem?_eq_getElem hlt', hkv]
      have hmem : (k, c, v) ∈ xs := List.mem_of_getElem? hget
      have hex : es[x]? = some (entryOfKey knd (k, c, v)) := by rw [entry_at hka x, hget]; rfl
      rw [hex]
      rw [hdrop, List.all_cons] at hpre
      have hkey : knd.is s'.heap k c := hia _ hmem
      show wpAny _ _ (holding [Value.ref c, v] _ >>= _) _ _ _
      refine wpAny_bind (wpAny_holding (wpAny_bind (wpAny_dictFind_heap hu hkey hob hdb hkb hib hnb ?_ ?_)))
      · intro hno
        have hn : atKey ys k = none := atKey_none_of_get hno
        have e1 : hitH ys eqb (k, c, v) = false := by unfold hitH; simp only [hn]
        rw [e1, Bool.false_and] at hpre
        rw [← hpre] at h'
        refine wpAny_pure ?_
        show wpAny _ _ (if (!false) = true then _ else _) _ _ _
        rw [if_pos (by decide)]
        exact wpAny_pure (wpAny_pure h')
      · intro j p hj
        have hp : atKey ys k = some p := atKey_of_get hnb hj
        have e1 : hitH ys eqb (k, c, v) = eqb v p.2 := by unfold hitH; simp only [hp]
        have hey : es'[j]? = some (entryOfKey knd (k, p)) := by rw [entry_at hkb j, hj]; rfl
        refine wpAny_bind (wpAny_dictEntries hob hdb ?_)
        rw [hey]
        refine wpAny_holding (heq _ hmem p hp _ _ ?_)
        show wpAny _ _ (if (!eqb v p.2) = true then _ else _) _ _ _
        cases he : eqb v p.2 with
        | false =>
          rw [e1, he, Bool.false_and] at hpre
          rw [← hpre] at h'
          rw [if_pos (by decide)]
          exact wpAny_pure (wpAny_pure h')
        | true =>
          rw [e1, he, Bool.true_and] at hpre
          rw [if_neg (by decide)]
          refine wpAny_bind (wpAny_dictEpoch hoa hda ?_)
          rw [if_neg (by simp)]
          exact wpAny_pure ⟨rfl, rfl, x + 1, hrest, hlt, hpre⟩
    · rintro q s' ⟨rfl, rfl, i, hr, hi, hpre⟩
      have hin : i = es.size := by
        rcases Nat.lt_or_ge i es.size with h | h
        · have e : es.size - i = (es.size - (i + 1)) + 1 := by omega
          rw [e, List.range'_succ] at hr; exact nomatch hr
        · exact Nat.le_antisymm hi h
      have e2 : xs.all (hitH ys eqb) = true := by
        rw [← hpre, hin, ← hla, List.drop_length]; rfl
      rw [e2] at h'
      exact wpAny_pure h'
end
section
variable {prog : Program} {w : World} {K : Type} [DecidableEq K] {knd : HeapKind prog w K} {A : Around} {E : Value → Shared → Prop} {s : Shared}
theorem eqH {a b : Addr} {xs ys : List (K × Addr × Value)} {eqb : Value → Value → Bool} {Q : Value → Shared → Prop} (ha : (a == sysModules) = false) (hb : (b == sysModules) = false)
    (da : s.heap.DictOfH knd a xs) (db : s.heap.DictOfH knd b ys) (hA : A.units < cLine) (hu : knd.room A.in1)
    (heq : ∀ x ∈ xs, ∀ q, atKey ys x.1 = some q → ∀ (R : Bool → Shared → Prop) (F : Value → Shared → Prop), R (eqb x.2.2 q.2) s → wpAny (model prog w) A.in1 (eqBool x.2.2 q.2) R F s)
    (h : Q (.bool (xs.length == ys.length && xs.all (hitH ys eqb))) s) :
    wpAny (model prog w) A (compareOp .Eq (.ref a) (.ref b)) Q E s := by
  refine wpAny_richCompare_same_room (op := .Eq) da.typeIs db.typeIs PySem.F.slot_dict_eq (wpAny_call_entry PySem.F.slot_dict_eq da.typeIs PySem.F.entry_dict_eq ?_ (PySem.F.args_dict_eq_2 _ _)) hA
  show wpAny _ _ (Builtin.Dict.dictSlotArgs "__eq__" ⟨[.ref a, .ref b], []⟩ >>= _) _ _ s
  refine wpAny_bind ?_
  unfold Builtin.Dict.dictSlotArgs
  refine wpAny_bind (wpAny_notOrdered_dict da.typeIs ?_)
  show wpAny _ _ (pure (Value.ref a, Value.ref b)) _ _ s
  refine wpAny_pure ?_
  refine wpAny_bind (wpAny_isInstance (T := "dict") db.typeIs PySem.F.sub_dict_dict ?_)
  simp only [Bool.not_true, Bool.false_eq_true, if_false]
  refine wpAny_bind (wpAny_pure (wpAny_bind (wpAny_pure ?_)))
  refine wpAny_bind (samePairsH ha hb da db hu heq ?_)
  refine wpAny_pure ⟨_, rfl, ?_, ?_⟩
  · exact fun x => nomatch x
  · simpa using h
theorem neH {a b : Addr} {xs ys : List (K × Addr × Value)} {eqb : Value → Value → Bool} {Q : Value → Shared → Prop} (ha : (a == sysModules) = false) (hb : (b == sysModules) = false)
    (da : s.heap.DictOfH knd a xs) (db : s.heap.DictOfH knd b ys) (hA : A.units < cLine) (hu : knd.room A.in1)
    (heq : ∀ x ∈ xs, ∀ q, atKey ys x.1 = some q → ∀ (R : Bool → Shared → Prop) (F : Value → Shared → Prop), R (eqb x.2.2 q.2) s → wpAny (model prog w) A.in1 (eqBool x.2.2 q.2) R F s)
    (h : Q (.bool (!(xs.length == ys.length && xs.all (hitH ys eqb)))) s) :
    wpAny (model prog w) A (compareOp .NotEq (.ref a) (.ref b)) Q E s := by
  refine wpAny_richCompare_same_room (op := .NotEq) da.typeIs db.typeIs PySem.F.slot_dict_ne (wpAny_call_entry PySem.F.slot_dict_ne da.typeIs PySem.F.entry_dict_ne ?_ (PySem.F.args_dict_ne_2 _ _)) hA
  show wpAny _ _ (Builtin.Dict.dictSlotArgs "__ne__" ⟨[.ref a, .ref b], []⟩ >>= _) _ _ s
  refine wpAny_bind ?_
  unfold Builtin.Dict.dictSlotArgs
  refine wpAny_bind (wpAny_notOrdered_dict da.typeIs ?_)
  show wpAny _ _ (pure (Value.ref a, Value.ref b)) _ _ s
  refine wpAny_pure ?_
  refine wpAny_bind (wpAny_isInstance (T := "dict") db.typeIs PySem.F.sub_dict_dict ?_)
  simp only [Bool.not_true, Bool.false_eq_true, if_false]
  refine wpAny_bind (wpAny_pure (wpAny_bind (wpAny_pure ?_)))
  refine wpAny_bind (samePairsH ha hb da db hu heq ?_)
  refine wpAny_pure ⟨_, rfl, ?_, ?_⟩
  · exact fun x => nomatch x
  · simpa using h
end
def eqT (ks ls : List (List Key × V)) : Bool := (ks.length == ls.length) && ks.all fun p => decide (valV ls p.1 = some p.2)
def intB : Value → Value → Bool
  | .int i _, .int j _ => i == j
  | _, _ => false
def IntVals (ks : List (List Key × V)) : Prop := ∀ p ∈ ks, ∃ i, p.2 = V.int i
theorem mem_r {α β : Type} {R : α → β → Prop} : ∀ {l : List α} {m : List β}, Paired R l m → ∀ y ∈ m, ∃ x ∈ l, R x y
  | _, _, .nil, y, h => nomatch h
  | _, _, .cons (a := a) (b := b) r t, y, h => by
    rcases List.mem_cons.mp h with rfl | h
    · exact ⟨a, List.mem_cons_self, r⟩
    · obtain ⟨x, hx, q⟩ := mem_r t y h
      exact ⟨x, List.mem_cons_of_mem _ hx, q⟩
theorem kt_int {H : Hp} {ks : List (List Key × V)} {xs : List (List Key × Addr × Value)} (r : KT H ks xs) (hi : IntVals ks) : ∀ x ∈ xs, ∃ i t, x.2.2 = Value.int i t := by
  intro x hx
  obtain ⟨p, hp, _, _, rv⟩ := mem_r r x hx
  obtain ⟨i, e⟩ := hi p hp
  rw [e] at rv
  obtain ⟨t, rv⟩ := rv
  exact ⟨i, t, rv⟩
theorem atKey_mem {K : Type} [DecidableEq K] {xs : List (K × Addr × Value)} {k : K} {q : Addr × Value} (h : atKey xs k = some q) : (k, q) ∈ xs := by
  unfold atKey at h
  rw [Option.map_eq_some_iff] at h
  obtain ⟨x, h1, h2⟩ := h
  have h3 := List.find?_some h1
  have h4 := List.mem_of_find?_eq_some h1
  have h5 : x.1 = k := of_decide_eq_true h3
  rw [← h5, ← h2]
  exact h4
theorem all_hits {H : Hp} {ls : List (List Key × V)} {ys : List (List Key × Addr × Value)} (rb : KT H ls ys) : ∀ {ks : List (List Key × V)} {xs : List (List Key × Addr × Value)}, KT H ks xs → IntVals ks → IntVals ls →
    xs.all (hitH ys intB) = ks.all fun p => decide (valV ls p.1 = some p.2)
  | _, _, .nil, _, _ => rfl
  | _, _, .cons (a := p) (b := x) (l₁ := ks) (l₂ := xs) h t, hi, hj => by
    rw [List.all_cons, List.all_cons, all_hits rb t (fun q hq => hi q (List.mem_cons_of_mem _ hq)) hj]
    refine congrArg (fun z => z && _) ?_
    obtain ⟨h1, _, h2⟩ := h
    obtain ⟨i, ei⟩ := hi p List.mem_cons_self
    have rv := rb.val p.1
    unfold hitH
    rw [← h1]
    cases hx : atKey ys p.1 with
    | none =>
      rw [hx] at rv
      cases hv : valV ls p.1 with
      | none => simp
      | some v => rw [hv] at rv; exact rv.elim
    | some q =>
      rw [hx] at rv
      cases hv : valV ls p.1 with
      | none => rw [hv] at rv; exact rv.elim
      | some v =>
        rw [hv] at rv
        have rv : RelV v q.2 := rv
        obtain ⟨j, ej⟩ : ∃ j, v = V.int j := by
          have hm : (p.1, v) ∈ ls := by
            unfold valV at hv
            rw [Option.map_eq_some_iff] at hv
            obtain ⟨y, y1, y2⟩ := hv
            have y3 : y.1 = p.1 := by
              have z := List.find?_some y1
              simpa using z
            have y4 := List.mem_of_find?_eq_some y1
            rw [← y3, ← y2]
            exact y4
          exact hj _ hm
        rw [ei] at h2
        rw [ej] at rv
        obtain ⟨t1, e1⟩ := h2
        obtain ⟨t2, e2⟩ := rv
        show intB x.2.2 q.2 = _
        rw [e1, e2, ei, ej]
        unfold intB
        rw [Bool.eq_iff_iff]
        simp
        exact ⟨fun z => z.symm, fun z => z.symm⟩
def rEqDT : R2 := fun x y H Q => ∃ a b ks ls, x = .ref a ∧ y = .ref b ∧ H a = some (.dT ks) ∧ H b = some (.dT ls) ∧ IntVals ks ∧ IntVals ls ∧ Q (.bl (eqT ks ls)) H
def rNeDT : R2 := fun x y H Q => ∃ a b ks ls, x = .ref a ∧ y = .ref b ∧ H a = some (.dT ks) ∧ H b = some (.dT ls) ∧ IntVals ks ∧ IntVals ls ∧ Q (.bl (!eqT ks ls)) H
section
variable {X : Cx}
theorem eq_ints {A : Around} {s : Shared} {H : Hp} {ks ls : List (List Key × V)} {xs ys : List (List Key × Addr × Value)} (ra : KT H ks xs) (rb : KT H ls ys) (hi : IntVals ks) (hj : IntVals ls) :
    ∀ x ∈ xs, ∀ q, atKey ys x.1 = some q → ∀ (R : Bool → Shared → Prop) (F : Value → Shared → Prop), R (intB x.2.2 q.2) s → wpAny (model X.prog X.w) A (eqBool x.2.2 q.2) R F s := by
  intro x hx q hq R F hR
  obtain ⟨i, t, e1⟩ := kt_int ra hi x hx
  obtain ⟨j, u, e2⟩ := kt_int rb hj (x.1, q) (atKey_mem hq)
  have e2 : q.2 = Value.int j u := e2
  rw [e1, e2] at hR ⊢
  exact SeqAt.EqAt.int_int i t j u _ _ _ _ (by unfold intB at hR; exact hR)
theorem op_eqDT (hu : X.A.units + 1 < cLine) : OpR X (compareOp .Eq) rEqDT := by
  intro pins s σ H x y v u Q I rx ry h
  obtain ⟨a, b, ks, ls, rfl, rfl, ea, eb, hi, hj, q⟩ := h
  obtain rfl : v = Value.ref a := rx
  obtain rfl : u = Value.ref b := ry
  obtain ⟨_, ya, xs, ra, da⟩ := dt_of I.hok ea
  obtain ⟨_, yb, ys, rb, db⟩ := dt_of I.hok eb
  refine eqH (eqb := intB) ya yb da db (by omega) (tupleKind_room_in1 hu) (eq_ints ra rb hi hj) (fin_bl I q ?_)
  unfold eqT
  rw [all_hits rb ra hi hj, Paired.length ra, Paired.length rb]
theorem op_neDT (hu : X.A.units + 1 < cLine) : OpR X (compareOp .NotEq) rNeDT := by
  intro pins s σ H x y v u Q I rx ry h
  obtain ⟨a, b, ks, ls, rfl, rfl, ea, eb, hi, hj, q⟩ := h
  obtain rfl : v = Value.ref a := rx
  obtain rfl : u = Value.ref b := ry
  obtain ⟨_, ya, xs, ra, da⟩ := dt_of I.hok ea
  obtain ⟨_, yb, ys, rb, db⟩ := dt_of I.hok eb
  refine neH (eqb := intB) ya yb da db (by omega) (tupleKind_room_in1 hu) (eq_ints ra rb hi hj) (fin_bl I q ?_)
  unfold eqT
  rw [all_hits rb ra hi hj, Paired.length ra, Paired.length rb]
end
theorem paired_of {α β : Type} {R : α → β → Prop} : ∀ {l : List α} {m : List β}, l.length = m.length → (∀ (j : Nat) a b, l[j]? = some a → m[j]? = some b → R a b) → Paired R l m
  | [], [], _, _ => .nil
  | [], _ :: _, h, _ => by cases h
  | _ :: _, [], h, _ => by cases h
  | a :: l, b :: m, h, k => .cons (k 0 a b rfl rfl) (paired_of (Nat.succ.inj h) fun j x y e1 e2 => k (j + 1) x y e1 e2)
def PairsOf (H : Hp) (ts : List Addr) (kvs : List (List Key × V)) : Prop := Paired (fun (t : Addr) (p : List Key × V) => ∃ q, H t = some (.tup [.ref q, p.2]) ∧ H q = some (.tup (p.1.map kV))) ts kvs
section
variable {X : Cx}
theorem take_all {pins : List (Addr × Obj)} {σ : L2.St} {H0 : Hp} {s : Shared} {h' : Heap} {tk : Nat} {P : Addr → List V → Prop} (I0 : Inv X pins σ H0 s) (L : List Addr) : ∀ H1 : Hp, Inv X pins σ H1 { s with heap := h', toks := tk } → L.Nodup →
    (∀ a ∈ L, s.heap.objs.size ≤ a ∧ H1 a = none ∧ ∃ vs, P a vs ∧ ∀ H2, ObjOk X.prog X.w H2 h' a (.tup vs)) →
    ∃ H2, Inv X pins σ H2 { s with heap := h', toks := tk } ∧ (∀ b o, H1 b = some o → H2 b = some o) ∧ (∀ a ∈ L, ∃ vs, P a vs ∧ H2 a = some (.tup vs)) ∧ ∀ b, b ∉ L → H2 b = H1 b := by
  induction L with
  | nil => exact fun H1 I1 _ _ => ⟨H1, I1, fun _ _ e => e, (fun _ h => nomatch h), fun _ _ => rfl⟩
  | cons a L ih =>
    intro H1 I1 hn h
    obtain ⟨hb, hnone, vs, hP, ok⟩ := h a List.mem_cons_self
    obtain ⟨na, nd⟩ := List.nodup_cons.mp hn
    have J := I1.take (h' := h') (t' := tk) (fun b ob _ e => e) (I0.fpOk hb hnone) (ok _)
    obtain ⟨H2, I3, g, q, off⟩ := ih _ J nd fun c hc => by
      obtain ⟨c1, c2, c3⟩ := h c (List.mem_cons_of_mem _ hc)
      exact ⟨c1, by rw [upd_ne fun z => na (by rw [← z]; exact hc)]; exact c2, c3⟩
    refine ⟨H2, I3, fun b o e => g b o (by rw [upd_ne (ne_of_none e hnone)]; exact e), fun c hc => ?_, fun b hb' => ?_⟩
    · rcases List.mem_cons.mp hc with rfl | hc
      · exact ⟨vs, hP, g _ _ upd_same⟩
      · exact q c hc
    · rw [off b fun z => hb' (List.mem_cons_of_mem _ z), upd_ne fun z => hb' (by rw [z]; exact List.mem_cons_self)]
theorem made_tracked {pins : List (Addr × Obj)} {σ : L2.St} {H H1 : Hp} {s : Shared} {h' : Heap} {tk : Nat} {kvs : List (List Key × V)} {xs : List (List Key × Addr × Value)} {es : Array DictEntry} {as : List Addr} (I : Inv X pins σ H s)
    (rel : KT H kvs xs) (hes : es.toList = xs.map (entryOfKey (tupleKind (mixKind X.prog X.w)))) (hl : as.length = es.size) (hG : DT.Made es s.heap.objs.size h' as)
    (I1 : Inv X pins σ H1 { s with heap := h', toks := tk }) (g1 : ∀ b o, H b = some o → H1 b = some o) (hn : ∀ b ∈ as, H1 b = none) :
    ∃ H2, Inv X pins σ H2 { s with heap := h', toks := tk } ∧ (∀ b o, H1 b = some o → H2 b = some o) ∧ PairsOf H2 as kvs ∧ ∀ b, b ∉ as → H2 b = H1 b := by
  have l1 : kvs.length = xs.length := Paired.length rel
  have l2 : es.size = xs.length := size_of_entries hes
  have nd : as.Nodup := List.Pairwise.imp (fun h => Nat.ne_of_lt h) hG.rise
  have pr : ∀ (j : Nat) (b : Addr), as[j]? = some b → ∃ (p : List Key × V) (q : Addr) (u : Value), kvs[j]? = some p ∧ H q = some (.tup (p.1.map kV)) ∧ RelV p.2 u ∧ h'.get? b = some { cls := .type "tuple", data := .seq #[Value.ref q, u] } := by
    intro j b hj
    obtain ⟨en, he, hg⟩ := hG.pairs j b hj
    rw [entry_at hes j] at he
    cases hxj : xs[j]? with
    | none =>
      rw [hxj] at he
      exact nomatch (show (none : Option DictEntry) = some en from he)
    | some x =>
      rw [hxj] at he
      have een : entryOfKey (tupleKind (mixKind X.prog X.w)) x = en := Option.some.inj he
      obtain ⟨e0, he0, r1, r2, r3⟩ := L2.DX.pget rel hxj
      exact ⟨e0, x.2.1, x.2.2, he0, r2, r3, by rw [hg, ← een]; rfl⟩
  obtain ⟨H2, I2, g, qt, off⟩ := take_all (P := fun b vs => ∃ (j : Nat) (p : List Key × V) (q : Addr), as[j]? = some b ∧ kvs[j]? = some p ∧ vs = [.ref q, p.2] ∧ H q = some (.tup (p.1.map kV))) I as H1 I1 nd fun b hb => by
    obtain ⟨j, hj⟩ := List.mem_iff_getElem?.mp hb
    obtain ⟨p, q, u, hp, hq, ru, hg⟩ := pr j b hj
    exact ⟨Nat.le_of_lt (hG.above b hb), hn b hb, [.ref q, p.2], ⟨j, p, q, hj, hp, rfl, hq⟩, fun H3 => ⟨(by rw [sizeLine_eq]; show 2 ≤ 16777216; omega), [Value.ref q, u], .cons rfl (.cons ru .nil), ⟨_, hg, rfl, 0, rfl⟩⟩⟩
  refine ⟨H2, I2, g, paired_of (by omega) fun j b p hj hp => ?_, off⟩
  obtain ⟨vs, ⟨i, p', q, i1, i2, ev, hq⟩, hH⟩ := qt b (List.mem_of_getElem? hj)
  have eij : j = i := (List.getElem?_inj (List.getElem?_eq_some_iff.mp hj).1 nd).mp (hj.trans i1.symm)
  subst eij
  have ep : p' = p := Option.some.inj (i2.symm.trans hp)
  rw [ev, ep] at hH
  rw [ep] at hq
  exact ⟨q, hH, g _ _ (g1 _ _ hq)⟩
theorem vals_refs : ∀ as : List Addr, Vals (as.map V.ref) (as.map Value.ref)
  | [] => .nil
  | _ :: as => .cons rfl (vals_refs as)
end
section
variable {prog : Program} {w : World} {A : Around} {E : Value → Shared → Prop} {s : Shared} {r d : Addr} {es : Array DictEntry} {ep : Nat}
theorem initI {R : Result → Shared → Prop} (hh : A.handled = none) (hv : s.heap.IsItemsView r d) (hm : DT.Raw s.heap d es ep) (S : Addr) (hSr : S ≠ r) (hSd : d ≠ S) (hS : s.heap.get? S = some { cls := .type "list", data := .seq #[] })
    (hR : ∀ h' tk acc c as, (∀ b o, b ≠ S → s.heap.get? b = some o → h'.get? b = some o) → h'.get? S = some { cls := .type "list", dict := none, data := .seq acc c, slots := #[] } → as.length = es.size → DT.Made es S h' as →
      acc.toList = as.map Value.ref → R (.ok (.ret .none)) { s with heap := h', toks := tk }) (hn : es.size ≤ sizeLine) :
    wpAny (model prog w) A.in1 (Builtin.«list.__init__» ⟨[.ref S, .ref r], []⟩)
      (fun fin s' => match fin with | .done f => R (.ok f) s' | .again c' => c'.quiet = true ∧ codeAny (model prog w) A c' R s') (fun e s' => R (.error e) s') s := by
  show wpAny _ _ (do let old ← Builtin.List.listItems (.ref S); Builtin.List.listUpdate (.ref S) (fun _ => #[]); letGo old.toList.reverse; Builtin.List.listExtendWith (.ref S) (.ref r) .none) _ _ s
  refine wpAny_bind ?_
  unfold Builtin.List.listItems
  refine wpAny_bind (wpAny_seqItems hS rfl (wpAny_pure ?_))
  show wpAny _ _ (updateSeq S (fun _ => #[]) >>= fun _ => letGo (#[] : Array Value).toList.reverse >>= fun _ => Builtin.List.listExtendWith (.ref S) (.ref r) .none) _ _ s
  refine wpAny_bind (wpAny_updateSeq hS rfl ?_)
  have hS₂ := Heap.get?_update_self (Obj.mapSeq (fun _ => (#[] : Array Value))) hS rfl
  have oth : ∀ b o, b ≠ S → s.heap.get? b = some o → (s.heap.update S (Obj.mapSeq (fun _ => (#[] : Array Value)))).get? b = some o :=
    fun b o hb e => (Heap.get?_update_other _ _ (Ne.symm hb)).trans e
  refine wpAny_bind (wpAny_letGo ?_)
  refine DT.extI (es := es) (ep := ep) hh (let ⟨o, ho, x⟩ := hv; ⟨o, oth r o hSr.symm ho, x⟩) (hm.at' fun o e => oth d o hSd e) S hSr hSd .none _ hS₂ (fun h' tk acc c as hk hS' hl hG hacc => ?_) hn
  exact hR h' tk acc c as (fun b o hb e => hk b o hb (oth b o hb e)) hS' hl (hG.low (Nat.le_of_lt (Heap.lt_size hS₂))) hacc
theorem listCallI {Q : Value → Shared → Prop} (hh : A.handled = none) (hv : s.heap.IsItemsView r d) (hm : DT.Raw s.heap d es ep) (hn : es.size ≤ sizeLine)
    (hQ : ∀ h' tk acc c as, (∀ b o, s.heap.get? b = some o → h'.get? b = some o) → h'.get? s.heap.objs.size = some { cls := .type "list", dict := none, data := .seq acc c, slots := #[] } → as.length = es.size → DT.Made es s.heap.objs.size h' as →
      acc.toList = as.map Value.ref → Q (.ref s.heap.objs.size) { s with heap := h', toks := tk }) :
    wpAny (model prog w) A (call (.type "list") [.ref r]) Q E s := by
  refine callType_codes (Q₁ := fun obj s₁ => obj = .ref s.heap.objs.size ∧ s₁ = { s with heap := s.heap.push { cls := .type "list", data := .seq #[] } }) PySem.F.called_list (PySem.F.typeCall_list_1 _) PySem.F.entry_list_init
    (code_list_new _ ⟨rfl, rfl⟩) fun obj s₁ h₁ => ?_
  obtain ⟨rfl, rfl⟩ := h₁
  have hS : (s.heap.push { cls := .type "list", data := .seq #[] }).get? s.heap.objs.size = some { cls := .type "list", data := .seq #[] } := Heap.get?_push_size _ rfl
  have hr : r < s.heap.objs.size := let ⟨_, ho, _⟩ := hv; Heap.lt_size ho
  have hd : d < s.heap.objs.size := hm.lt
  refine ⟨⟨_, hS, rfl⟩, PySem.F.args_list_init_2 _ _, initI (es := es) (ep := ep) (A := A.in1) hh (let ⟨o, ho, x⟩ := hv; ⟨o, Heap.get?_push_of_some _ ho, x⟩) (hm.push _) _ (Nat.ne_of_gt hr) (Nat.ne_of_lt hd) hS (fun h' tk acc c as hk hS' hl hG hacc => ?_) hn⟩
  exact ⟨rfl, hQ h' tk acc c as (fun b o e => hk b o (Nat.ne_of_lt (Heap.lt_size e)) (Heap.get?_push_of_some _ e)) hS' hl hG hacc⟩
end
def rListItT : List V → Hp → VK → Prop := fun vs H Q => ∃ (p a : Addr) (kvs : List (List Key × V)), vs = [.ref p] ∧ H p = some (L2.DX.itemsO p a) ∧ H a = some (.dT kvs) ∧
  ∀ (H' : Hp) (l : Addr) (ts : List Addr), (∀ b o, H b = some o → H' b = some o) → H l = none → H' l = some (.lst (ts.map V.ref)) → PairsOf H' ts kvs → Q (.ref l) H'
section
variable {X : Cx}
theorem cr_listItT (hc : X.calm = true) : CallR X (.type "list") rListItT := by
  intro pins s σ H xs us Q I r h
  obtain ⟨p, a, kvs, rfl, hp, ha, q⟩ := h
  obtain rfl := Vals.ref1 r
  have view : s.heap.IsItemsView p a := (show ObjOk X.prog X.w H s.heap p (L2.DX.itemsO p a) from I.hok p _ hp).1
  obtain ⟨z, hd, xs', rel, o, es, ep, ho, hx, hdat, hes, his, hn⟩ := dt_of I.hok ha
  have l1 : kvs.length = xs'.length := Paired.length rel
  have l2 : es.size = xs'.length := size_of_entries hes
  refine listCallI (es := es) (ep := ep) (I.ok.hd hc) view ⟨o, ho, hx, hdat⟩ (by omega) fun h' tk acc c as hk hS hl hG hacc => ?_
  have newS : H s.heap.objs.size = none := I.hok.fresh (Nat.le_refl _)
  have nS : ∀ b ∈ as, b ≠ s.heap.objs.size := fun b hb => Nat.ne_of_gt (hG.above b hb)
  have I1 : Inv X pins σ (upd H s.heap.objs.size (.lst (as.map V.ref))) { s with heap := h', toks := tk } :=
    I.laid (t' := tk) hk (Nat.le_refl _) ⟨by rw [List.length_map]; omega, acc.toList, c, by rw [hacc]; exact vals_refs as, by rw [Array.toArray_toList]; exact hS⟩
  obtain ⟨H2, I2, g, pp, _⟩ := made_tracked (h' := h') (tk := tk) I rel hes hl hG I1 (fun b o e => by rw [upd_ne (ne_of_none e newS)]; exact e) fun b hb => by
    rw [upd_ne (nS b hb)]
    exact I.hok.fresh (Nat.le_of_lt (hG.above b hb))
  exact ⟨.ref _, H2, I2, rfl, q H2 _ as (fun b o e => g b o (by rw [upd_ne (ne_of_none e newS)]; exact e)) newS (g _ _ upd_same) pp⟩
end
end KB
set_option Elab.async false
set_option linter.all false
set_option maxRecDepth 100000
set_option maxHeartbeats 4000000
namespace PySem.SeqAt
open AutoSeq1 (wpAny_loadPart')
open MeetsSeq MeetsSeq2 MeetsSeq3 SeqRoads2
theorem kc_tuple_lt (l b : Addr) (items items2 : Array Value) (n n2 : Nat) (dd dd2 : Option Addr) (sl sl2 : Array (Option Value)) (e r : Nat → Bool) :
    Meets (Builtin.«tuple.__lt__» ⟨[.ref l, .ref b], []⟩)
      (fun A R s => s.heap.get? l = some { cls := .type "tuple", dict := dd, data := .seq items n, slots := sl } ∧ s.heap.get? b = some { cls := .type "tuple", dict := dd2, data := .seq items2 n2, slots := sl2 } ∧
        (∀ j (h1 : j < items.size) (h2 : j < items2.size), EqAt A.in1 s items[j] items2[j] (e j)) ∧ (∀ j (h1 : j < items.size) (h2 : j < items2.size), (∀ i, i < j → e i = true) → e j = false → RcLt A.in1 s items[j] items2[j] (r j)) ∧
        R (.ok (.ret (.bool (firstLt e r (decide (items.size < items2.size)) (List.range (min items.size items2.size)))))) s) :=
  .of_wp fun prog w A R s h => by
    obtain ⟨hp, g, d, tk, os⟩ := s; obtain ⟨hl, hb, he, hr, h⟩ := h
    have f2 := AutoSeq1.sub_tuple_tuple
    have hZ : (items.toList.zip items2.toList).length = min items.size items2.size := by simp
    wp_walk using wpAny_loadPart' hl, wpAny_loadPart' hb, wpAny_forIn_list _ (fun rest b s' => b.1 = none ∧ s' = ⟨hp, g, d, tk, os⟩ ∧ ∃ i, rest = (items.toList.zip items2.toList).drop i ∧ (∀ m, m < i → e m = true) ∧
      R (.ok (.ret (.bool (firstLt e r (decide (items.size < items2.size)) ((List.range (min items.size items2.size)).drop i))))) ⟨hp, g, d, tk, os⟩) _
    case turn =>
      rintro ⟨y, x⟩ rest b s' ⟨hb', rfl, i, hz, hpre, hR⟩
      have hlt : i < (items.toList.zip items2.toList).length := by
        rcases Nat.lt_or_ge i (items.toList.zip items2.toList).length with h' | h'
        · exact h'
        · rw [List.drop_of_length_le h'] at hz; cases hz
      have hm : i < min items.size items2.size := hZ ▸ hlt
      have h1 : i < items.size := Nat.lt_of_lt_of_le hm (Nat.min_le_left _ _)
      have h2 : i < items2.size := Nat.lt_of_lt_of_le hm (Nat.min_le_right _ _)
      rw [List.drop_eq_getElem_cons hlt] at hz
      injection hz with hyx hrest
      have hy : y = items[i] := by have := congrArg Prod.fst hyx; simpa using this
      have hx : x = items2[i] := by have := congrArg Prod.snd hyx; simpa using this
      subst hy hx
      have hd : (List.range (min items.size items2.size)).drop i = i :: (List.range (min items.size items2.size)).drop (i + 1) := by simp [List.drop_eq_getElem_cons, hm]
      rw [hd] at hR
      refine wpAny_bind (he i h1 h2 prog w _ _ ?_)
      cases hy : e i with
      | true =>
        rw [firstLt_yes hy] at hR
        wp_walk
        refine ⟨rfl, rfl, i + 1, hrest, fun m hm => ?_, hR⟩
        rcases Nat.lt_or_ge m i with z | z
        · exact hpre m z
        · have : m = i := by omega
          rw [this]; exact hy
      | false =>
        rw [firstLt_no hy] at hR
        rw [if_pos (by rfl)]
        show wpAny _ _ (do rule "tuple.compare.by-the-first-pair-that-differs"; let v ← richCompare CmpOp.Lt items[i] items2[i]; let v' ← ret v; pure (ForInStep.done (some v', ()))) _ _ _
        refine wpAny_bind (wpAny_rule ?_)
        refine wpAny_bind (hr i h1 h2 hpre hy prog w _ _ ?_)
        wp_walk
        exact ⟨_, rfl, hR⟩
    case fin =>
      rintro ⟨b1, b2⟩ s' ⟨hb', rfl, i, hz, hpre, hR⟩
      simp only at hb'
      subst hb'
      have hge : min items.size items2.size ≤ i := by
        rcases Nat.lt_or_ge i (items.toList.zip items2.toList).length with h' | h'
        · rw [List.drop_eq_getElem_cons h'] at hz; cases hz
        · exact hZ ▸ h'
      rw [List.drop_of_length_le (by simpa using hge)] at hR
      wp_walk
      exact ⟨_, rfl, by simpa [Builtin.Tuple.tupleCompareSizes, firstLt] using hR⟩
    case h =>
      exact ⟨rfl, rfl, 0, rfl, fun m hm => absurd hm (Nat.not_lt_zero _), by simpa using h⟩
section
variable {A : Around} {s : Shared}
theorem RcLt.tuplesF {l b : Addr} {items items2 : Array Value} {e r : Nat → Bool} (hl : s.heap.IsTuple l items) (hb : s.heap.IsTuple b items2) (hu : A.units < cLine)
    (he : ∀ j (h1 : j < items.size) (h2 : j < items2.size), EqAt A.in1 s items[j] items2[j] (e j)) (hr : ∀ j (h1 : j < items.size) (h2 : j < items2.size), (∀ i, i < j → e i = true) → e j = false → RcLt A.in1 s items[j] items2[j] (r j)) :
    RcLt A s (.ref l) (.ref b) (firstLt e r (decide (items.size < items2.size)) (List.range (min items.size items2.size))) := fun prog w E Q h => by
  obtain ⟨⟨cls, dd, data, sl⟩, ho, hc, n, hd⟩ := id hl
  obtain ⟨⟨cls2, dd2, data2, sl2⟩, ho2, hc2, n2, hd2⟩ := id hb
  simp only at hc hd hc2 hd2
  subst hc hd hc2 hd2
  exact richCompare_meets_room (op := .Lt) ⟨_, ho, rfl⟩ ⟨_, ho2, rfl⟩ F.slot_tuple_lt F.entry_tuple_lt (F.args_tuple_lt_2 _ _) (kc_tuple_lt l b items items2 n n2 dd dd2 sl sl2 e r)
    ⟨ho, ho2, he, hr, show Value.bool (firstLt e r (decide (items.size < items2.size)) (List.range (min items.size items2.size))) ≠ Value.notImplemented ∧ Q (.bool (firstLt e r (decide (items.size < items2.size)) (List.range (min items.size items2.size)))) s from ⟨(fun x => nomatch x), h⟩⟩ hu
end
end PySem.SeqAt
namespace KC
open PySem PySem.Spec PyProof.Rows L2 KB PySem.SeqAt
mutual
def ltD : PyData → PyData → Bool
  | .int i, .int j => decide (i < j)
  | .str x, .str y => decide (x.cps.toList < y.cps.toList)
  | .tuple xs, .tuple ys => ltL xs ys
  | _, _ => false
def ltL : List PyData → List PyData → Bool
  | [], [] => false
  | [], _ :: _ => true
  | _ :: _, [] => false
  | x :: xs, y :: ys => if PyData.eqv x y = true then ltL xs ys else ltD x y
end
mutual
def okD : PyData → PyData → Bool
  | .int _, .int _ => true
  | .str _, .str _ => true
  | .tuple xs, .tuple ys => okL xs ys
  | _, _ => false
def okL : List PyData → List PyData → Bool
  | [], _ => true
  | _ :: _, [] => true
  | x :: xs, y :: ys => if PyData.eqv x y = true then okL xs ys else okD x y
end
theorem firstLt_shift {e r : Nat → Bool} {fin : Bool} : ∀ l : List Nat, firstLt e r fin (l.map (· + 1)) = firstLt (fun j => e (j + 1)) (fun j => r (j + 1)) fin l
  | [] => rfl
  | j :: l => by
    show (if e (j + 1) = true then firstLt e r fin (l.map (· + 1)) else r (j + 1)) = _
    rw [firstLt_shift l]
    rfl
theorem ltL_first : ∀ (xs ys : List PyData) (e r : Nat → Bool), (∀ j x y, xs[j]? = some x → ys[j]? = some y → e j = PyData.eqv x y ∧ r j = ltD x y) →
    firstLt e r (decide (xs.length < ys.length)) (List.range (min xs.length ys.length)) = ltL xs ys
  | [], [], _, _, _ => by unfold ltL; rfl
  | [], _ :: _, _, _, _ => by
    unfold ltL
    simp [firstLt]
  | _ :: _, [], _, _, _ => by
    unfold ltL
    simp [firstLt]
  | x :: xs, y :: ys, e, r, h => by
    have h0 := h 0 x y rfl rfl
    have e1 : min (x :: xs).length (y :: ys).length = min xs.length ys.length + 1 := by simp only [List.length_cons]; omega
    rw [e1, List.range_succ_eq_map]
    have e2 : decide ((x :: xs).length < (y :: ys).length) = decide (xs.length < ys.length) := by simp
    rw [e2]
    unfold ltL
    show (if e 0 = true then firstLt e r _ (List.map Nat.succ _) else r 0) = _
    rw [h0.1, h0.2]
    by_cases q : PyData.eqv x y = true
    · rw [if_pos q, if_pos q]
      rw [show (List.map Nat.succ (List.range (min xs.length ys.length))) = (List.range (min xs.length ys.length)).map (· + 1) from rfl, firstLt_shift]
      exact ltL_first xs ys _ _ fun j a b ha hb => h (j + 1) a b ha hb
    · rw [if_neg q, if_neg q]
end KC
namespace KC
open PySem PySem.Spec PyProof.Rows L2 KB PySem.SeqAt
theorem lt_str_b {prog : Program} {w : World} {A : Around} {E : Value → Shared → Prop} {s : Shared} {x y : Str} {t u : Tok} {Q : Value → Shared → Prop} (h : Q (.bool (decide (x.cps.toList < y.cps.toList))) s) :
    wpAny (model prog w) A (richCompare .Lt (.str x t) (.str y u)) Q E s := DT.rcLt_str A s x t y u prog w E Q h
mutual
theorem rcLt_data : ∀ (da db : PyData) (A : Around) (s : Shared) (a b : Value) (as bs : List Addr), Reads s.heap a da as → Reads s.heap b db bs → da.canLay0 = true → db.canLay0 = true → okD da db = true →
    A.units + min da.depth db.depth < cLine → RcLt A s a b (ltD da db)
  | .int x, .int y, A, s, _, _, _, _, ra, rb, _, _, _, hu => by
    cases ra; cases rb
    intro prog w E Q h
    exact PyProof.Rows.lt_int (by unfold ltD at h; exact h)
  | .str x, .str y, A, s, _, _, _, _, ra, rb, _, _, _, hu => by
    cases ra; cases rb
    intro prog w E Q h
    exact lt_str_b (by unfold ltD at h; exact h)
  | .tuple xs, .tuple ys, A, s, _, _, _, _, ra, rb, ha, hb, hok, hu => by
    cases ra with
    | @tuple l o vs n _ as₁ h1 h2 h3 h4 =>
      cases rb with
      | @tuple l' o' vs' n' _ bs₁ k1 k2 k3 k4 =>
        have hl : s.heap.IsTuple l vs := ⟨_, h1, h2, _, h3⟩
        have hl' : s.heap.IsTuple l' vs' := ⟨_, k1, k2, _, k3⟩
        have n1 : vs.size = xs.length := by simpa using ReadsAll.length _ _ _ h4
        have n2 : vs'.size = ys.length := by simpa using ReadsAll.length _ _ _ k4
        have hok' : okL xs ys = true := by unfold okD at hok; exact hok
        have e : ltD (.tuple xs) (.tuple ys) = firstLt (pairEq xs ys) (fun j => ltD (xs.getD j .none) (ys.getD j .none)) (decide (vs.size < vs'.size)) (List.range (min vs.size vs'.size)) := by
          rw [n1, n2, ltL_first xs ys]
          · unfold ltD; rfl
          · intro j x y hx hy
            simp [pairEq, List.getD, hx, hy]
        rw [e]
        refine RcLt.tuplesF hl hl' (room_here hu) (fun j j1 j2 => ?_) (fun j j1 j2 hp hf => ?_)
        · have := eqAt_readsAll xs ys A.in1 s vs.toList vs'.toList _ _ h4 k4 ha hb (room_in hu) j (by simpa using j1) (by simpa using j2)
          simpa using this
        · have := rcLt_all xs ys A.in1 s vs.toList vs'.toList _ _ h4 k4 ha hb hok' (room_in hu) j (by simpa using j1) (by simpa using j2) hp hf
          simpa using this
  | .none, _, _, _, _, _, _, _, _, _, _, _, hok, _ => by unfold okD at hok; cases hok
  | .bool _, _, _, _, _, _, _, _, _, _, _, _, hok, _ => by unfold okD at hok; cases hok
  | .list _, _, _, _, _, _, _, _, _, _, _, _, hok, _ => by unfold okD at hok; cases hok
  | .dict _, _, _, _, _, _, _, _, _, _, _, _, hok, _ => by unfold okD at hok; cases hok
  | .int _, .none, _, _, _, _, _, _, _, _, _, _, hok, _ => by unfold okD at hok; cases hok
  | .int _, .bool _, _, _, _, _, _, _, _, _, _, _, hok, _ => by unfold okD at hok; cases hok
  | .int _, .str _, _, _, _, _, _, _, _, _, _, _, hok, _ => by unfold okD at hok; cases hok
  | .int _, .list _, _, _, _, _, _, _, _, _, _, _, hok, _ => by unfold okD at hok; cases hok
  | .int _, .tuple _, _, _, _, _, _, _, _, _, _, _, hok, _ => by unfold okD at hok; cases hok
  | .int _, .dict _, _, _, _, _, _, _, _, _, _, _, hok, _ => by unfold okD at hok; cases hok
  | .str _, .none, _, _, _, _, _, _, _, _, _, _, hok, _ => by unfold okD at hok; cases hok
  | .str _, .bool _, _, _, _, _, _, _, _, _, _, _, hok, _ => by unfold okD at hok; cases hok
  | .str _, .int _, _, _, _, _, _, _, _, _, _, _, hok, _ => by unfold okD at hok; cases hok
  | .str _, .list _, _, _, _, _, _, _, _, _, _, _, hok, _ => by unfold okD at hok; cases hok
  | .str _, .tuple _, _, _, _, _, _, _, _, _, _, _, hok, _ => by unfold okD at hok; cases hok
  | .str _, .dict _, _, _, _, _, _, _, _, _, _, _, hok, _ => by unfold okD at hok; cases hok
  | .tuple _, .none, _, _, _, _, _, _, _, _, _, _, hok, _ => by unfold okD at hok; cases hok
  | .tuple _, .bool _, _, _, _, _, _, _, _, _, _, _, hok, _ => by unfold okD at hok; cases hok
  | .tuple _, .int _, _, _, _, _, _, _, _, _, _, _, hok, _ => by unfold okD at hok; cases hok
  | .tuple _, .str _, _, _, _, _, _, _, _, _, _, _, hok, _ => by unfold okD at hok; cases hok
  | .tuple _, .list _, _, _, _, _, _, _, _, _, _, _, hok, _ => by unfold okD at hok; cases hok
  | .tuple _, .dict _, _, _, _, _, _, _, _, _, _, _, hok, _ => by unfold okD at hok; cases hok
theorem rcLt_all : ∀ (xs ys : List PyData) (A : Around) (s : Shared) (vs ws : List Value) (as bs : List Addr), ReadsAll s.heap vs xs as → ReadsAll s.heap ws ys bs → PyData.canLayAll0 xs = true → PyData.canLayAll0 ys = true → okL xs ys = true →
    A.units + min (PyData.depthAll xs) (PyData.depthAll ys) < cLine → ∀ j (h1 : j < vs.length) (h2 : j < ws.length), (∀ i, i < j → pairEq xs ys i = true) → pairEq xs ys j = false → RcLt A s vs[j] ws[j] (ltD (xs.getD j .none) (ys.getD j .none))
  | [], _, _, _, _, _, _, _, ra, _, _, _, _, _, j, h1, _, _, _ => by cases ra; exact absurd h1 (Nat.not_lt_zero _)
  | _ :: _, [], _, _, _, _, _, _, _, rb, _, _, _, _, j, _, h2, _, _ => by cases rb; exact absurd h2 (Nat.not_lt_zero _)
  | x :: xs, y :: ys, A, s, _, _, _, _, ra, rb, ha, hb, hok, hu, j, h1, h2, hp, hf => by
    have ha' : x.canLay0 = true ∧ PyData.canLayAll0 xs = true := by simpa [PyData.canLayAll0] using ha
    have hb' : y.canLay0 = true ∧ PyData.canLayAll0 ys = true := by simpa [PyData.canLayAll0] using hb
    unfold okL at hok
    cases ra with
    | cons r rs =>
      cases rb with
      | cons r' rs' =>
        cases j with
        | zero =>
          have e0 : PyData.eqv x y = false := hf
          rw [if_neg (by rw [e0]; exact Bool.false_ne_true)] at hok
          exact rcLt_data x y A s _ _ _ _ r r' ha'.1 hb'.1 hok (room_head hu)
        | succ j =>
          have e0 : PyData.eqv x y = true := hp 0 (Nat.succ_pos _)
          rw [if_pos e0] at hok
          exact rcLt_all xs ys A s _ _ _ _ rs rs' ha'.2 hb'.2 hok (room_tail hu) j (Nat.lt_of_succ_lt_succ h1) (Nat.lt_of_succ_lt_succ h2) (fun i hi => hp (i + 1) (Nat.succ_lt_succ hi)) hf
end
def rLtD (K : PySem.W.Frag) : R2 := fun x y H Q => ∃ d e, Dp K H x d ∧ Dp K H y e ∧ shaped d = true ∧ shaped e = true ∧ okD d e = true ∧ Q (.bl (ltD d e)) H
theorem op_ltD {X : Cx} (hu : X.A.units + 64 < cLine) : OpR X (compareOp .Lt) (rLtD X.K) := by
  intro pins s σ H x y v u Q I rx ry h
  obtain ⟨d, e, hd, he, sd, se, hok, q⟩ := h
  obtain ⟨as, r1⟩ := Dp.reads I d x v hd rx
  obtain ⟨bs, r2⟩ := Dp.reads I e y u he ry
  exact rcLt_data d e X.A s v u as bs r1 r2 (canLay_of_shaped sd) (canLay_of_shaped se) hok (room_of_shaped sd hu) X.prog X.w X.xe _ ⟨.bl _, H, I, rfl, q⟩
theorem keyLt_data {prog : Program} {w : World} {A : Around} {E : Value → Shared → Prop} {s : Shared} {xs ys : List PyData} {u v : Value} {as bs : List Addr} {Q : Bool → Shared → Prop} (ra : Reads s.heap u (.tuple xs) as) (rb : Reads s.heap v (.tuple ys) bs)
    (ha : (PyData.tuple xs).canLay0 = true) (hb : (PyData.tuple ys).canLay0 = true) (hok : okL xs ys = true) (hu : A.units + min (PyData.tuple xs).depth (PyData.tuple ys).depth < cLine) (h : Q (ltL xs ys) s) :
    wpAny (model prog w) A (keyLt' (tuples' false) u v) Q E s := by
  cases ra with
  | @tuple l o vs n _ as₁ h1 h2 h3 h4 =>
    cases rb with
    | @tuple l' o' vs' n' _ bs₁ k1 k2 k3 k4 =>
      refine PySem.W.kat_lt h1 h3 k1 k3 ?_
      have n1 : vs.size = xs.length := by simpa using ReadsAll.length _ _ _ h4
      have n2 : vs'.size = ys.length := by simpa using ReadsAll.length _ _ _ k4
      rw [n1, n2]
      have hu0 : A.units + min (PyData.depthAll xs) (PyData.depthAll ys) < cLine := by
        have q := room_in hu
        omega
      clear h3 k3 n1 n2 h1 k1
      generalize vs.toList = us at h4
      generalize vs'.toList = ws at k4
      have key : ∀ (xs ys : List PyData) (us ws : List Value) (as bs : List Addr) (i : Nat), ReadsAll s.heap us xs as → ReadsAll s.heap ws ys bs → PyData.canLayAll0 xs = true → PyData.canLayAll0 ys = true → okL xs ys = true →
          A.units + min (PyData.depthAll xs) (PyData.depthAll ys) < cLine → Q (ltL xs ys) s → PySem.W.KatLex prog w A false (decide (xs.length < ys.length)) Q (us.zip ws) i s := by
        intro xs
        induction xs with
        | nil =>
          intro ys us ws as bs i ra rb _ _ _ _ hq
          cases ra
          cases ys with
          | nil =>
            cases rb
            exact PySem.W.kat_nil (by unfold ltL at hq; exact hq)
          | cons y ys =>
            cases rb
            exact PySem.W.kat_nil (by unfold ltL at hq; simpa using hq)
        | cons x xs ih =>
          intro ys us ws as bs i ra rb ha hb hok hu hq
          cases ys with
          | nil =>
            cases rb
            cases ra
            exact PySem.W.kat_nil (by unfold ltL at hq; simpa using hq)
          | cons y ys =>
            have ha' : x.canLay0 = true ∧ PyData.canLayAll0 xs = true := by simpa [PyData.canLayAll0] using ha
            have hb' : y.canLay0 = true ∧ PyData.canLayAll0 ys = true := by simpa [PyData.canLayAll0] using hb
            unfold okL at hok
            unfold ltL at hq
            cases ra with
            | cons r rs =>
              cases rb with
              | cons r' rs' =>
                have e1 : decide ((x :: xs).length < (y :: ys).length) = decide (xs.length < ys.length) := by simp
                rw [e1]
                refine PySem.W.kat_cons (eqAt_reads x y A s _ _ _ _ r r' ha'.1 hb'.1 (room_head hu) prog w _ _ ?_)
                refine PySem.W.kat_go (fun e => ?_) (fun e => ?_)
                · rw [if_pos e] at hok hq
                  exact PySem.W.kat_yes (ih ys _ _ _ _ (i + 1) rs rs' ha'.2 hb'.2 hok (room_tail hu) hq)
                · rw [if_neg (by rw [e]; exact Bool.false_ne_true)] at hok hq
                  refine PySem.W.kat_no ?_
                  rw [Bool.false_and]
                  exact PySem.W.kat_one _ _ (rcLt_data x y A s _ _ _ _ r r' ha'.1 hb'.1 hok (room_head hu) prog w _ _ hq)
      exact key xs ys _ _ _ _ 0 h4 k4 ha hb hok hu0 h
end KC
set_option Elab.async false
set_option linter.all false
set_option maxRecDepth 100000
set_option maxHeartbeats 4000000
namespace KD
open PySem PySem.Spec PyProof.Rows L2 KB KC LamX
def LamO (f : Addr) (q : Str) (params : Arguments) (body : Expr) (scope : Scope) (c' : Addr) : HO := .ext fun h => ∃ pm ctv, h.get? f = some (PySem.W.kla_obj "<lambda>" q params body scope [] pm c' ctv)
theorem lam_run {CX : CXT} {P : Program} {w : World} {K : PySem.W.Frag} {mg : Str → Option Value} {base : Heap} {k : Nat} {f c' : Addr} {q : Str} {params : Arguments} {body : Expr} {scope : Scope} {N ps : List Str} (S : FnScope N ps scope)
    {A : Around} {outer : List Env} {s : Shared} {H : Hp} {args : Args} {us : List Value} {vs : List V} {Q : VK} {E : XK} (hr : Room (k + 1) A) (e0 : Env0 P w K mg base A outer s H)
    (hf : H f = some (LamO f q params body scope c')) (hc : H c' = some (CodeO c' q)) (hb : ∀ pm ctv, BindsTo s (PySem.W.kla_fn "<lambda>" q params body scope [] pm (.ref c') ctv) args (ps.zip us)) (r : Vals vs us) (hl : vs.length = ps.length)
    (hbody : Room k (A.deeper (envOfC q scope s.heap.objs.size f (.ref c'))) → ∃ t, PE (cxOf CX P w K mg base N q scope f (.ref c') A outer s H E) body t ∧ t (start N vs) H Q) :
    codeAny (model P w) A (.call (.ref f) args) (CR CX outer P w H s Q E) s := by
  have lim : s.heap.NoLimit := e0.mod.nolimit.keeps fun b o e => (e0.bs b o e).1
  have hkind : ∀ y ∈ ps.zip us, scope.names.lookup y.1 = some .local ∨ (scope.names.lookup y.1 = some .cell ∧ ((cellsFrom (s.heap.objs.size + 1) scope.names []).lookup y.1).isSome = true) := fun ⟨n, v⟩ hy =>
    (S.par n (List.of_mem_zip hy).1).elim .inl fun q => .inr ⟨q, PySem.W.cellsFrom_some _ _ _ (.inl q)⟩
  obtain ⟨⟨pm, ctv, of1⟩, _, _⟩ := e0.hok f _ hf
  obtain ⟨⟨oc, vsc, t, hoc, hdc, hvc⟩, _, _⟩ := e0.hok c' _ hc
  refine PySem.W.kla_callFunE hr.depth of1 rfl S.co S.gen rfl ⟨c', oc, vsc, t, rfl, hoc, hdc, hvc⟩ ?_
  refine hb pm ctv _ _ _ _ ?_
  refine wpAny_newFunctionEnv_cells S.kind hkind fun env he s1 x => ?_
  subst he
  refine ⟨lim.keeps x.toInCall.keep, ?_⟩
  obtain ⟨t, ht, hq⟩ := hbody (hr.deeper _)
  have I : Inv (cxOf CX P w K mg base N q scope f (.ref c') A outer s H E) [] (start N vs) H s1 := inv_start S hr.hd e0 hl r x
  refine PySem.W.kla_codeExpr (wpAny_mono (ht.run [] s1 (start N vs) H Q I hq) (fun v s' hs => ?_) fun e s' hs => hs)
  obtain ⟨v', H', J, rv, q⟩ := hs
  exact ⟨v', H', J.os, J.bare, J.base, J.hok, rv, q⟩
theorem lamO_ok {P : Program} {w : World} {H : Hp} {h : Heap} {f c' : Addr} {q : Str} {params : Arguments} {body : Expr} {scope : Scope} {pm ctv : Value} (e : h.get? f = some (PySem.W.kla_obj "<lambda>" q params body scope [] pm c' ctv)) :
    ObjOk P w H h f (LamO f q params body scope c') := ⟨⟨pm, ctv, e⟩, ⟨_, e⟩, fun h1 h2 ⟨a, b, z⟩ k => ⟨a, b, k _ z⟩⟩
theorem tabs_upd {T : List (Addr × Str)} {H : Hp} {a : Addr} {o : HO} (t : Tabs T H) (n : H a = none) : Tabs T (upd H a o) := t.ext fun b u e => by rw [upd_ne (ne_of_none e n)]; exact e
theorem extN_upd {H : Hp} {a : Addr} {o : HO} (n : H a = none) : ExtN H (upd H a o) := fun b u e _ => by rw [upd_ne (ne_of_none e n)]; exact e
def tLamV (T : List (Addr × Str)) (q : Str) (params : Arguments) (body : Expr) (scope : Scope) : TE := fun _ H Q => Tabs T H ∧ ∀ f c' H1, ExtN H H1 → Tabs T H1 → H1 f = some (LamO f q params body scope c') → H1 c' = some (CodeO c' q) → H f = none → Q (.ref f) H1
section
variable {X : Cx}
theorem pe_lamV {T : List (Addr × Str)} {c P : Addr} {params : Arguments} {body : Expr} {scope : Scope} {pos : Pos} (TB : TabB X.base X.mg c P) (hcode : X.env.code = .ref c) (hm : (P, X.env.qual ++ "<lambda>") ∈ T) (hu : ∀ p ∈ T, p.1 = P → p.2 = X.env.qual ++ "<lambda>")
    (hdef : defaultsOf params X.env = ([], [])) (hfree : ∀ y ∈ scope.names, y.2 ≠ .free) (hclo : cloFrom X.env.cells scope.names [] = []) : PE X (.Lambda params body scope pos) (tLamV T (X.env.qual ++ "<lambda>") params body scope) := by
  refine ⟨fun pins s σ H Q I h => ?_⟩
  obtain ⟨hT, h⟩ := h
  obtain ⟨ps, hP, ht, ha⟩ := hT _ hm
  refine PySem.W.kla_eval hdef ?_
  have bP : s.heap.BuiltinsAt X.mg P := TB.bm.keeps I.bk
  have hP' : s.heap.get? P = some { cls := .none, data := .fields ps } := I.hok P _ hP
  have hcl : closureFor scope X.env = pure [] := by
    have z := closure_ok (env := X.env) (scope := scope) (fun y hy e => absurd e (hfree y hy))
    rw [hclo] at z
    exact z
  have end_ : ∀ (f c' : Addr) (ctv : Value) (H1 : Hp) (h' : Heap) (tk : Nat), Inv X pins σ H1 { s with heap := h', toks := tk } → s.heap.objs.size ≤ h'.objs.size → ExtN H H1 → Tabs T H1 → H1 h'.objs.size = none → H1 c' = some (CodeO c' (X.env.qual ++ "<lambda>")) →
      EP X pins σ Q (.ref h'.objs.size) { s with heap := h'.push (PySem.W.kla_obj "<lambda>" (X.env.qual ++ "<lambda>") params body scope [] ((X.mg "__name__").getD .none) c' ctv), toks := tk } := by
    intro f c' ctv H1 h' tk I1 hz e1 t1 n1 co
    have J : Inv X pins σ (upd H1 h'.objs.size (LamO h'.objs.size (X.env.qual ++ "<lambda>") params body scope c')) { s with heap := h'.push (PySem.W.kla_obj "<lambda>" (X.env.qual ++ "<lambda>") params body scope [] ((X.mg "__name__").getD .none) c' ctv), toks := tk } :=
      I1.laid (t' := tk) (fun b u e => Heap.get?_push_of_some _ e) (Nat.le_refl _) (lamO_ok (Heap.get?_push_size _ rfl))
    refine ⟨.ref h'.objs.size, _, J, rfl, h h'.objs.size c' _ (e1.trans (extN_upd n1)) (tabs_upd t1 n1) upd_same (by rw [upd_ne (ne_of_none co n1)]; exact co) (I.hok.fresh hz)⟩
  cases hc : codeAmong pos ps.toList with
  | none =>
    refine PySem.W.kla_makeFunction (mg := X.mg) (c := c) (P := P) (ps := ps) hcl I.ok.glob (I.mod.glob.keeps I.bk) hcode (TB.code.keeps I.bk) hP' ht hc TB.gP bP fun c' ctv h' tk hx hge hlt hrec htb => ?_
    obtain ⟨c2, oc, vs, t, e2, hoc, hd, hv⟩ := hrec
    cases e2
    have nC : H c' = none := I.hok.fresh hge
    have nPc : P ≠ c' := ne_of_none hP nC
    have I1 := inv_table (t' := tk) (more := #[rawInt pos.line, rawInt pos.col, .ref c']) (h' := h') I hP hx htb hge ⟨oc, vs, t, hoc, hd, hv⟩
    have hE : ExtN H (upd (upd H P (.tbl (ps ++ #[rawInt pos.line, rawInt pos.col, .ref c']))) c' (CodeO c' (X.env.qual ++ "<lambda>"))) := fun b o e n => by
      rw [upd_ne (ne_of_none e nC), upd_ne (fun z => n ps (Option.some.inj (e.symm.trans (by rw [z]; exact hP))))]
      exact e
    have eL : (ps ++ #[rawInt pos.line, rawInt pos.col, .ref c']).toList = ps.toList ++ [rawInt pos.line, rawInt pos.col, .ref c'] := by simp
    refine end_ h'.objs.size c' ctv _ h' tk I1 (Nat.le_trans hge (Nat.le_of_lt hlt)) hE (fun p hp => ?_) ?_ upd_same
    · by_cases hb : p.1 = P
      · rw [hu p hp hb, hb]
        refine ⟨_, by rw [upd_ne nPc, upd_same], by rw [eL]; exact PySem.TriplesOk_snoc _ _ _ _ ht, fun p' cv hcv => ?_⟩
        rw [eL] at hcv
        rcases among_app _ ht hcv with z | z
        · obtain ⟨c0, e1, e2⟩ := ha p' cv z
          exact ⟨c0, e1, hE _ _ e2 codeO_ne⟩
        · exact ⟨c', z, upd_same⟩
      · obtain ⟨ps', a1, a2, a3⟩ := hT p hp
        refine ⟨ps', by rw [upd_ne (ne_of_none a1 nC), upd_ne hb]; exact a1, a2, fun p' cv hcv => ?_⟩
        obtain ⟨c0, e1, e2⟩ := a3 p' cv hcv
        exact ⟨c0, e1, hE _ _ e2 codeO_ne⟩
    · have n1 : h'.objs.size ≠ c' := Nat.ne_of_gt hlt
      have n2 : h'.objs.size ≠ P := Nat.ne_of_gt (Nat.lt_of_lt_of_le (Heap.lt_size hP') (Nat.le_trans hge (Nat.le_of_lt hlt)))
      rw [upd_ne n1, upd_ne n2]
      exact I.hok.fresh (Nat.le_trans hge (Nat.le_of_lt hlt))
  | some cv =>
    obtain ⟨c', e, hco⟩ := ha pos cv hc
    subst e
    refine PySem.W.kla_makeFunctionHit (mg := X.mg) (c := c) (P := P) (ps := ps) hcl I.ok.glob (I.mod.glob.keeps I.bk) hcode (TB.code.keeps I.bk) hP' ht hc bP fun ctv h' tk hx hsz => ?_
    exact end_ h'.objs.size c' ctv H h' tk (I.kept (t' := tk) hx) hsz (ExtN.refl H) hT (I.hok.fresh hsz) hco
end
end KD
set_option Elab.async false
set_option linter.all false
set_option maxRecDepth 100000
set_option maxHeartbeats 4000000
namespace KS
open PySem PySem.Spec PyProof.Rows L2 KB KC KD LamX PySem.SeqAt SrtO Srt
def Ex (H H' : Hp) : Prop := ∀ b o, H b = some o → H' b = some o
theorem Ex.refl (H : Hp) : Ex H H := fun _ _ h => h
theorem Ex.trans {H H1 H2 : Hp} (a : Ex H H1) (b : Ex H1 H2) : Ex H H2 := fun c o h => b c o (a c o h)
theorem Ex.upd {H : Hp} {a : Addr} {o : HO} (n : H a = none) : Ex H (upd H a o) := fun b u e => by rw [upd_ne (ne_of_none e n)]; exact e
theorem Ex.rd {H H' : Hp} {a : Addr} {u : HO} (e : Ex H H') (h : Rd H a u) : Rd H' a u := h.elim (fun h => .inl (e _ _ h)) fun ⟨o, h⟩ => .inr ⟨o, e _ _ h⟩
mutual
theorem dp_ex {K : PySem.W.Frag} {H H' : Hp} (e : Ex H H') : ∀ {v : V} {d : PyData}, Dp K H v d → Dp K H' v d
  | _, _, .non => .non
  | _, _, .bl b => .bl b
  | _, _, .int i => .int i
  | _, _, .str x => .str x
  | _, _, .lst h t => .lst (h.elim (fun h => .inl (e.rd h)) .inr) (dpAll_ex e t)
  | _, _, .tup h t => .tup (h.elim (fun h => .inl (e.rd h)) .inr) (dpAll_ex e t)
theorem dpAll_ex {K : PySem.W.Frag} {H H' : Hp} (e : Ex H H') : ∀ {vs : List V} {ds : List PyData}, DpAll K H vs ds → DpAll K H' vs ds
  | _, _, .nil => .nil
  | _, _, .cons h t => .cons (dp_ex e h) (dpAll_ex e t)
end
def KeyCall (X : Cx) (f : Addr) (H : Hp) (kvs : List (List Key × V)) (kd : List Key × V → List PyData) : Prop :=
  ∀ x ∈ kvs, ∀ (t q : Addr) (H1 : Hp), Ex H H1 → H1 t = some (.tup [.ref q, x.2]) → H1 q = some (.tup (x.1.map kV)) → ∀ (pins : List (Addr × Obj)) (σ : L2.St) (s1 : Shared) (R : Value → Shared → Prop), Inv X pins σ H1 s1 →
    (∀ y u H2 s2, Inv X pins σ H2 s2 → Ex H1 H2 → RelV y u → Dp X.K H2 y (.tuple (kd x)) → R u s2) → wpAny (model X.prog X.w) X.A.in1.in1 (call (.ref f) [.ref t]) R (fun _ _ => False) s1
section
variable {X : Cx} {pins : List (Addr × Obj)} {σ : L2.St}
theorem lst_raw {H : Hp} {s : Shared} {a : Addr} {ys : List V} (I : Inv X pins σ H s) (h : H a = some (.lst ys)) : ys.length ≤ sizeLine ∧ ∃ (its : List Value) (n : Nat), Vals ys its ∧ s.heap.get? a = some (seqObj "list" its.toArray n) := I.hok a _ h
theorem lst_write {H : Hp} {s : Shared} {a : Addr} {ys zs : List V} {us vs : List Value} {n tk : Nat} (I : Inv X pins σ H s) (h : H a = some (.lst ys)) (hr : s.heap.get? a = some (seqObj "list" us.toArray n)) (hz : zs.length ≤ sizeLine) (rz : Vals zs vs) (g : Array Value → Array Value) (hg : g us.toArray = vs.toArray) :
    Inv X pins σ (upd H a (.lst zs)) { s with heap := s.heap.update a (Obj.mapSeq g), toks := tk } := by
  have e := get?_update_seq hr g
  rw [hg] at e
  exact I.write (t' := tk) (x := a) (e := a) (by rw [h]; exact True.intro) (.inl rfl) (fun b u hb q => (Heap.get?_update_ne _ _ _ _ hb).trans q) ⟨_, e⟩ ⟨hz, vs, _, rz, e⟩
theorem swo_rank {α : Type} (r : α → Int) : Swo fun p q : α => decide (r p < r q) :=
  ⟨fun x y h => by have h := of_decide_eq_true h; exact decide_eq_false (by omega), fun x y z h1 h2 => by have h1 := of_decide_eq_false h1; have h2 := of_decide_eq_false h2; exact decide_eq_false (by omega)⟩
def rankOf (as : List Addr) (kvs : List (List Key × V)) (ρ : List Key × V → Int) (v : Value) : Int :=
  match v with
  | .ref t => match (as.zip kvs).find? (fun z => decide (z.1 = t)) with
    | some z => ρ z.2
    | none => 0
  | _ => 0
theorem find_zip {as : List Addr} {kvs : List (List Key × V)} (nd : as.Nodup) : ∀ {j : Nat} {t : Addr} {x : List Key × V}, as[j]? = some t → kvs[j]? = some x → (as.zip kvs).find? (fun z => decide (z.1 = t)) = some (t, x) := by
  induction as generalizing kvs with
  | nil => intro j t x h; simp at h
  | cons b as ih =>
    intro j t x h1 h2
    rw [List.nodup_cons] at nd
    cases kvs with
    | nil => simp at h2
    | cons y kvs =>
      cases j with
      | zero =>
        simp only [List.getElem?_cons_zero, Option.some.injEq] at h1 h2
        subst h1 h2
        simp
      | succ j =>
        simp only [List.getElem?_cons_succ] at h1 h2
        have hne : ¬ b = t := fun z => nd.1 (by rw [z]; exact List.mem_of_getElem? h1)
        rw [List.zip_cons_cons, List.find?_cons_of_neg (by simpa using hne)]
        exact ih nd.2 h1 h2
theorem rank_at {as : List Addr} {kvs : List (List Key × V)} {ρ : List Key × V → Int} (nd : as.Nodup) {j : Nat} {t : Addr} {x : List Key × V} (h1 : as[j]? = some t) (h2 : kvs[j]? = some x) : rankOf as kvs ρ (.ref t) = ρ x := by
  unfold rankOf
  simp only [find_zip nd h1 h2]
end
mutual
def pureD : PyData → Bool
  | .none => true
  | .bool _ => true
  | .int _ => true
  | .str _ => true
  | .tuple xs => pureL xs
  | _ => false
def pureL : List PyData → Bool
  | [] => true
  | x :: xs => pureD x && pureL xs
end
mutual
theorem dp_tups {K : PySem.W.Frag} {H H' : Hp} (e : ∀ b xs, Rd H b (.tup xs) → Rd H' b (.tup xs)) : ∀ {v : V} {d : PyData}, pureD d = true → Dp K H v d → Dp K H' v d
  | _, _, _, .non => .non
  | _, _, _, .bl b => .bl b
  | _, _, _, .int i => .int i
  | _, _, _, .str x => .str x
  | _, _, h, .lst _ _ => by unfold pureD at h; cases h
  | _, _, h, .tup a t => .tup (a.elim (fun a => .inl (e _ _ a)) .inr) (dpAll_tups e (by unfold pureD at h; exact h) t)
theorem dpAll_tups {K : PySem.W.Frag} {H H' : Hp} (e : ∀ b xs, Rd H b (.tup xs) → Rd H' b (.tup xs)) : ∀ {vs : List V} {ds : List PyData}, pureL ds = true → DpAll K H vs ds → DpAll K H' vs ds
  | _, _, _, .nil => .nil
  | _, _, h, .cons a t => by
    have h2 := h
    unfold pureL at h2
    rw [Bool.and_eq_true] at h2
    exact .cons (dp_tups e h2.1 a) (dpAll_tups e h2.2 t)
end
theorem kat_of {h : Heap} : ∀ its : List Value, (∀ u ∈ its, ∃ l r as, Reads h u (.tuple (.tuple l :: r)) as) → ∃ fs : List Value, PySem.W.KatTups h its fs ∧ fs.length = its.length ∧ ∀ v ∈ fs, ∃ (b : Addr) (o : Obj), v = .ref b ∧ h.get? b = some o ∧ o.cls = .type "tuple"
  | [], _ => ⟨[], PySem.W.KatTups.nil, rfl, fun v hv => by simp at hv⟩
  | u :: its, hr => by
    obtain ⟨fs, k1, k2, k3⟩ := kat_of its fun u' hu' => hr u' (List.mem_cons_of_mem _ hu')
    obtain ⟨l, r, as, q⟩ := hr u List.mem_cons_self
    cases q with
    | @tuple a o vs n _ as₁ h1 h2 h3 h4 =>
      generalize ev : vs.toList = vl at h4
      cases h4 with
      | @cons v0 vr _ _ as1 as2 r0 rr =>
        cases r0 with
        | @tuple b ob vs' n' _ as₂ g1 g2 g3 g4 =>
          refine ⟨.ref b :: fs, PySem.W.KatTups.cons h1 h2 h3 (by rw [← Array.getElem?_toList, ev]; rfl) k1, by rw [List.length_cons, List.length_cons, k2], fun v hv => ?_⟩
          rcases List.mem_cons.mp hv with e | hv
          · exact ⟨b, ob, e, g1, g2⟩
          · exact k3 v hv
section
variable {X : Cx} {pins : List (Addr × Obj)} {σ : L2.St}
theorem sort_body {f D : Addr} {H : Hp} {s : Shared} {h2 : Heap} {tk : Nat} {kvs : List (List Key × V)} {xs : List (List Key × Addr × Value)} {es : Array DictEntry} {as : List Addr} {kd : List Key × V → List PyData} {ρ : List Key × V → Int} {P : PySem.Fin → Shared → Prop} {E : Value → Shared → Prop}
    (I : Inv X pins σ H s) (hk : ∀ b o, s.heap.get? b = some o → h2.get? b = some o) (hD : h2.get? D = some (seqObj "list" (as.map Value.ref).toArray 0)) (hsD : s.heap.objs.size ≤ D)
    (rel : KT H kvs xs) (hes : es.toList = xs.map (entryOfKey (tupleKind (mixKind X.prog X.w)))) (hl : as.length = es.size) (hG : DT.Made es s.heap.objs.size h2 as) (hz : kvs.length ≤ sizeLine)
    (hsh : ∀ x ∈ kvs, shaped (.tuple (kd x)) = true) (hpu : ∀ x ∈ kvs, pureL (kd x) = true) (hft : ∀ x ∈ kvs, ∃ l r, kd x = .tuple l :: r) (hok : ∀ x ∈ kvs, ∀ y ∈ kvs, okL (kd x) (kd y) = true) (hρ : ∀ x ∈ kvs, ∀ y ∈ kvs, ltL (kd x) (kd y) = decide (ρ x < ρ y))
    (hu : X.A.units + 66 < cLine) (hcall : KeyCall X f H kvs kd)
    (q : ∀ (H' : Hp) (s' : Shared) (zs : List (Addr × (List Key × V))), Inv X pins σ H' s' → Ex H H' → H D = none → H' D = some (.lst (zs.map fun z => V.ref z.1)) → (zs.map (·.2)).Perm kvs → (zs.map (·.2)).Pairwise (fun x y => ¬ ρ y < ρ x) →
      (∀ z ∈ zs, ∃ q, H' z.1 = some (.tup [.ref q, z.2.2]) ∧ H' q = some (.tup (z.2.1.map kV))) → P (.done (.ret .none)) s') :
    wpAny (model X.prog X.w) X.A.in1.in1 (ksk_tree D (.ref f) false) P E { s with heap := h2, toks := tk } := by
  have l1 : kvs.length = xs.length := Paired.length rel
  have l2 : es.size = xs.length := size_of_entries hes
  have lak : as.length = kvs.length := by omega
  have nd : as.Nodup := List.Pairwise.imp (fun h => Nat.ne_of_lt h) hG.rise
  have szl : (as.map Value.ref).toArray.size = kvs.length := by rw [List.size_toArray, List.length_map, lak]
  have asz : (as.map Value.ref).length ≤ sizeLine := by rw [List.length_map]; omega
  have nD : H D = none := I.hok.fresh hsD
  have asD : ∀ b ∈ as, b ≠ D ∧ b < h2.objs.size := fun b hb => by
    obtain ⟨j, hj⟩ := List.mem_iff_getElem?.mp hb
    obtain ⟨_, _, e⟩ := hG.pairs j b hj
    refine ⟨fun z => ?_, Heap.lt_size e⟩
    rw [z, hD] at e
    exact absurd (Value.type.inj (congrArg Obj.cls (Option.some.inj e))) (by decide)
  unfold ksk_tree
  refine wpAny_bind (listItems_at hD rfl ?_)
  refine wpAny_bind (listUpdate_at hD rfl ?_ (by rw [szl]; exact hz) (Nat.zero_le _))
  obtain ⟨e1, ho1⟩ : ∃ e1, (h2.update D (Obj.mapSeq fun _ => (#[] : Array Value))).get? D = some (seqObj "list" #[] e1) := ⟨_, get?_update_seq hD fun _ => #[]⟩
  refine wpAny_bind (seqEpoch_at ho1 rfl ?_)
  refine wpAny_bind (wpAny_newTuple ?_ asz)
  refine wpAny_bind (wpAny_newList ?_ (Nat.zero_le _))
  refine wpAny_holding ?_
  generalize hh4 : (h2.update D (Obj.mapSeq fun _ => (#[] : Array Value))).push (seqObj "tuple" (as.map Value.ref).toArray 0) = h4
  have z4 : h4.objs.size = h2.objs.size + 1 := by rw [← hh4, size_push', Heap.size_update]
  have keep4 : ∀ b o, b ≠ D → h2.get? b = some o → h4.get? b = some o := fun b o hb e => by
    rw [← hh4]
    exact Heap.get?_push_of_some _ ((Heap.get?_update_ne _ _ _ _ hb).trans e)
  have hD4 : h4.get? D = some (seqObj "list" #[] e1) := by rw [← hh4]; exact Heap.get?_push_of_some _ ho1
  have I1 : Inv X pins σ (upd H h4.objs.size (.lst [])) { s with heap := h4.push (seqObj "list" #[] 0), toks := tk } :=
    I.laid (t' := tk) (fun b o e => Heap.get?_push_of_some _ (keep4 b o (fun z => by rw [z] at e; exact absurd (Heap.lt_size e) (Nat.not_lt.mpr hsD)) (hk b o e))) (by rw [z4]; exact Nat.le_succ_of_le (Nat.le_trans hsD (Nat.le_of_lt (Heap.lt_size hD))))
      ⟨Nat.zero_le _, [], 0, .nil, Heap.get?_push_size _ rfl⟩
  have hkn : H h4.objs.size = none := I.hok.fresh (by rw [z4]; exact Nat.le_succ_of_le (Nat.le_trans hsD (Nat.le_of_lt (Heap.lt_size hD))))
  have hDk : D ≠ h4.objs.size := by rw [z4]; exact Nat.ne_of_lt (Nat.lt_succ_of_lt (Heap.lt_size hD))
  have hG5 : DT.Made es s.heap.objs.size (h4.push (seqObj "list" #[] 0)) as := ⟨hG.rise, hG.above, fun j b hj => by
    obtain ⟨e, he, hg⟩ := hG.pairs j b hj
    exact ⟨e, he, Heap.get?_push_of_some _ (keep4 b _ (asD b (List.mem_of_getElem? hj)).1 hg)⟩⟩
  obtain ⟨H2, I2, g2, pp, off⟩ := made_tracked (h' := h4.push (seqObj "list" #[] 0)) (tk := tk) I rel hes hl hG5 I1 (Ex.upd hkn) fun b hb => by
    rw [upd_ne (by rw [z4]; exact Nat.ne_of_lt (Nat.lt_succ_of_lt (asD b hb).2))]
    exact I.hok.fresh (Nat.le_of_lt (hG.above b hb))
  have exH2 : Ex H H2 := (Ex.upd hkn).trans g2
  have hkS2 : H2 h4.objs.size = some (.lst []) := g2 _ _ upd_same
  have hD2 : H2 D = none := by rw [off D fun z => (asD D z).1 rfl, upd_ne hDk]; exact nD
  have fD : ∀ H', H' D = none → FpOk X pins H' D := fun H' n => I.fpOk hsD n
  have I3 : Inv X (pins ++ [(D, seqObj "list" #[] e1)]) σ H2 { s with heap := h4.push (seqObj "list" #[] 0), toks := tk } := I2.pins_of fun p hp => by
    rcases List.mem_append.mp hp with hp | hp
    · exact I2.pin p (List.mem_append_right _ hp)
    · rw [List.mem_singleton.mp hp]
      obtain ⟨_, f1, f2, _⟩ := fD H2 hD2
      exact ⟨Heap.get?_push_of_some _ hD4, hD2, f1, f2, fun v z => by cases z⟩
  have pget : ∀ {j : Nat} {t : Addr}, as[j]? = some t → ∃ x q, kvs[j]? = some x ∧ H2 t = some (.tup [.ref q, x.2]) ∧ H2 q = some (.tup (x.1.map kV)) := fun {j t} hj => by
    obtain ⟨x, hx, q, q1, q2⟩ := LiI.paired_get pp hj
    exact ⟨x, q, hx, q1, q2⟩
  unfold ksk_rest
  refine wpAny_bind (wpAny_rule ?_)
  first
    | rw [List.forIn_toArray]
    | (rw [← Array.forIn_toList]; simp only [List.toList_toArray])
  refine wpAny_bind (ksk_fold (fun i s' => ∃ (Hi : Hp) (ys : List V), Inv X (pins ++ [(D, seqObj "list" #[] e1)]) σ Hi s' ∧ (∀ b o, b ≠ h4.objs.size → H2 b = some o → Hi b = some o) ∧ Hi h4.objs.size = some (.lst ys) ∧ ys.length = i ∧
      ∀ (j : Nat) (y : V), ys[j]? = some y → ∃ x, kvs[j]? = some x ∧ Dp X.K Hi y (.tuple (kd x))) (as.map Value.ref) 0 _ ⟨H2, [], I3, fun b o _ e => e, hkS2, rfl, fun j y h => by simp at h⟩ ?step ?done)
  case step =>
    rintro j v s' hv ⟨Hi, ys, Ii, ei, hki, hlen, hdp⟩
    simp only [Nat.zero_add] at hlen ⊢
    rw [List.getElem?_map] at hv
    obtain ⟨t, ht, rfl⟩ := Option.map_eq_some_iff.mp hv
    obtain ⟨x, qa, hx, q1, q2⟩ := pget ht
    have nk : ∀ {b : Addr} {vs : List V}, H2 b = some (.tup vs) → b ≠ h4.objs.size := fun e z => by rw [z, hkS2] at e; cases e
    have hxm : x ∈ kvs := List.mem_of_getElem? hx
    refine wpAny_bind (wpAny_attempt (wpAny_mono (hcall x hxm t qa Hi (fun b o e => ei b o (fun z => by rw [z, hkn] at e; cases e) (exH2 b o e)) (ei _ _ (nk q1) q1) (ei _ _ (nk q2) q2) _ _ s'
      (fun u s'' => ∃ y H3, Inv X (pins ++ [(D, seqObj "list" #[] e1)]) σ H3 s'' ∧ Ex Hi H3 ∧ RelV y u ∧ Dp X.K H3 y (.tuple (kd x))) Ii fun y u H3 s2 J e3 ry dy => ⟨y, H3, J, e3, ry, dy⟩) (fun u s'' he => ?_) fun _ _ hF => hF.elim))
    obtain ⟨y, H3, J, e3, ry, dy⟩ := he
    have hk3 := e3 _ _ hki
    obtain ⟨hzy, its, n, ri, hraw⟩ := lst_raw J hk3
    have jl : j < as.length := (List.getElem?_eq_some_iff.mp ht).1
    have il : its.length = ys.length := ri.length.symm
    try dsimp only
    refine wpAny_bind (listUpdate_at hraw rfl ?_ (by rw [List.size_toArray]; omega) (by rw [Array.size_push, List.size_toArray]; omega))
    refine wpAny_pure ⟨rfl, _, ys ++ [y], lst_write (tk := s''.toks) J hk3 hraw (by rw [List.length_append, List.length_singleton]; omega) (ri.append (.cons ry .nil)) (·.push u) (by simp), fun b o hb e => ?_, upd_same, by rw [List.length_append, List.length_singleton]; omega, fun i z hz' => ?_⟩
    · rw [upd_ne hb]
      exact e3 _ _ (ei b o hb e)
    · have mono : ∀ {v : V} {x : List Key × V}, x ∈ kvs → Dp X.K H3 v (.tuple (kd x)) → Dp X.K (upd H3 h4.objs.size (.lst (ys ++ [y]))) v (.tuple (kd x)) := fun {v x} hm hd =>
        dp_tups (fun b vs r => r.elim (fun r => .inl (by rw [upd_ne (ne_of r hk3 (fun z => by cases z))]; exact r)) fun ⟨o, r⟩ => .inr ⟨o, by rw [upd_ne (ne_of r hk3 (fun z => by cases z))]; exact r⟩) (by unfold pureD; exact hpu x hm) hd
      by_cases hi : i < ys.length
      · rw [List.getElem?_append_left hi] at hz'
        obtain ⟨x', hx', hd'⟩ := hdp i z hz'
        exact ⟨x', hx', mono (List.mem_of_getElem? hx') (dp_ex e3 hd')⟩
      · rw [List.getElem?_append_right (by omega)] at hz'
        have e0 : i - ys.length = 0 := by
          have := (List.getElem?_eq_some_iff.mp hz').1
          simp at this
          omega
        rw [e0] at hz'
        have e4 : y = z := by simpa using hz'
        have e5 : i = j := by omega
        rw [← e4, e5]
        exact ⟨x, hx, mono hxm dy⟩
  case done =>
    rintro s' ⟨Hi, ys, Ii, ei, hki, hlen, hdp⟩
    rw [List.length_map, Nat.zero_add] at hlen
    obtain ⟨_, its, n, ri, hraw⟩ := lst_raw Ii hki
    have il : its.length = ys.length := ri.length.symm
    try dsimp only
    refine wpAny_bind (listItems_at hraw rfl ?_)
    have pairsL : (its.toArray.zip (as.map Value.ref).toArray).toList = its.zip (as.map Value.ref) := by
      first
        | simp
        | rfl
    have mem_at : ∀ p ∈ its.zip (as.map Value.ref), ∃ (j : Nat) (t : Addr) (x : List Key × V), p.2 = .ref t ∧ as[j]? = some t ∧ kvs[j]? = some x ∧ its[j]? = some p.1 := fun p hp => by
      obtain ⟨j, hj⟩ := List.mem_iff_getElem?.mp hp
      obtain ⟨j1, j2⟩ := List.getElem?_zip_eq_some.mp hj
      rw [List.getElem?_map] at j2
      obtain ⟨t, ht, e⟩ := Option.map_eq_some_iff.mp j2
      obtain ⟨x, _, hx, _⟩ := pget ht
      exact ⟨j, t, x, e.symm, ht, hx, j1⟩
    have tail : ∀ st' : SortSt, Srtd (fun p q : Keyed => decide (rankOf as kvs ρ p.2 < rankOf as kvs ρ q.2)) (arrOf st').toList → Stb (fun p q : Keyed => decide (rankOf as kvs ρ p.2 < rankOf as kvs ρ q.2)) (arrOf st').toList (its.zip (as.map Value.ref)) → failedOf st' = none →
        wpAny (model X.prog X.w) X.A.in1.in1 (ksk_tail D false e1 (.ref h4.objs.size) st') P E s' := by
      intro st' hs hb hf
      have out_perm : ((arrOf st').toList.map (·.2)).Perm (as.map Value.ref) := by
        have z := hb.perm.map (·.2)
        rw [List.map_snd_zip (by rw [List.length_map]; omega)] at z
        exact z
      have ezip : (as.zip kvs).map (fun z => Value.ref z.1) = as.map Value.ref := by
        rw [show (fun z : Addr × (List Key × V) => Value.ref z.1) = Value.ref ∘ Prod.fst from rfl, ← List.map_map, List.map_fst_zip (by omega)]
      obtain ⟨zs, pz, ez⟩ := perm_lift (fun z : Addr × (List Key × V) => Value.ref z.1) out_perm (as.zip kvs) ezip
      have zmem : ∀ z ∈ zs, ∃ j : Nat, as[j]? = some z.1 ∧ kvs[j]? = some z.2 := fun z hz => by
        obtain ⟨j, hj⟩ := List.mem_iff_getElem?.mp (pz.mem_iff.mp hz)
        exact ⟨j, List.getElem?_zip_eq_some.mp hj⟩
      have zlen : zs.length = kvs.length := by
        rw [pz.length_eq, List.length_zip]
        omega
      have osz : ((arrOf st').map (·.2)).size = kvs.length := by
        have z := out_perm.length_eq
        rw [List.length_map, Array.length_toList, List.length_map] at z
        rw [Array.size_map]
        omega
      have oeq : ((arrOf st').map (·.2)).toList = zs.map fun z => Value.ref z.1 := by rw [Array.toList_map, ← ez]
      have J1 := lst_write (tk := s'.toks) (zs := []) (vs := []) Ii hki hraw (Nat.zero_le _) .nil (fun _ => (#[] : Array Value)) rfl
      obtain ⟨pD, nD5, _⟩ := J1.pin (D, seqObj "list" #[] e1) (List.mem_append_right _ (List.mem_append_right _ (List.mem_singleton.mpr rfl)))
      unfold ksk_tail
      try dsimp only
      refine wpAny_bind (listUpdate_at hraw rfl ?_ (by rw [List.size_toArray]; omega) (Nat.zero_le _))
      refine wpAny_bind (wpAny_letGo ?_)
      refine wpAny_bind (seqEpoch_at pD rfl ?_)
      refine wpAny_bind (listUpdate_at pD rfl ?_ (Nat.zero_le _) (by simp only [Bool.false_eq_true, if_false]; rw [osz]; omega))
      rw [hf]
      simp only [bne_self_eq_false, Bool.false_eq_true, if_false]
      refine wpAny_pure ?_
      have J2 := J1.pins_of (pins' := pins) fun p hp => J1.pin p (List.mem_append_right _ (List.mem_append_left _ hp))
      have eD := get?_update_seq pD fun _ => (arrOf st').map (·.2)
      have dk : D ≠ h4.objs.size := hDk
      have J3 := J2.take (t' := s'.toks) (o := .lst (zs.map fun z => V.ref z.1)) (h' := (s'.heap.update h4.objs.size (Obj.mapSeq fun _ => (#[] : Array Value))).update D (Obj.mapSeq fun _ => (arrOf st').map (·.2))) (fun b u hb e => (Heap.get?_update_ne _ _ _ _ hb).trans e) (fD _ nD5)
        ⟨by rw [List.length_map]; omega, zs.map (fun z => Value.ref z.1), _, vals_maps (fun z : Addr × (List Key × V) => V.ref z.1) (fun z => Value.ref z.1) zs fun _ _ => rfl, by rw [← oeq, Array.toArray_toList]; exact eD⟩
      refine q _ _ zs J3 (fun b o e => ?_) nD upd_same ?_ ?_ fun z hz' => ?_
      · rw [upd_ne (ne_of_none e nD), upd_ne (ne_of_none e hkn)]
        exact ei b o (ne_of_none e hkn) (exH2 b o e)
      · have z := pz.map (·.2)
        rw [List.map_snd_zip (by omega)] at z
        exact z
      · have s1 : (zs.map fun z => Value.ref z.1).Pairwise (fun v u => decide (rankOf as kvs ρ u < rankOf as kvs ρ v) = false) := by
          rw [ez, List.pairwise_map]
          exact hs
        rw [List.pairwise_map] at s1 ⊢
        refine List.Pairwise.imp_of_mem (fun {x y} hx hy h => ?_) s1
        obtain ⟨j, j1, j2⟩ := zmem x hx
        obtain ⟨i, i1, i2⟩ := zmem y hy
        rw [rank_at nd j1 j2, rank_at nd i1 i2] at h
        exact of_decide_eq_false h
      · obtain ⟨j, j1, j2⟩ := zmem z hz'
        obtain ⟨x, qa, hx, q1, q2⟩ := pget j1
        have e : x = z.2 := Option.some.inj (hx.symm.trans j2)
        rw [e] at q1 q2
        have up : ∀ {b : Addr} {vs : List V}, H2 b = some (.tup vs) → (upd (upd Hi h4.objs.size (.lst [])) D (.lst (zs.map fun z => V.ref z.1))) b = some (.tup vs) := fun {b vs} h => by
          rw [upd_ne (fun z => by rw [z, hD2] at h; cases h), upd_ne (fun z => by rw [z, hkS2] at h; cases h)]
          exact ei _ _ (fun z => by rw [z, hkS2] at h; cases h) h
        exact ⟨qa, up q1, up q2⟩
    unfold ksk_end
    simp only [Bool.false_eq_true, if_false]
    by_cases h2s : (as.map Value.ref).toArray.size < 2
    · rw [if_pos h2s, if_pos h2s]
      refine wpAny_bind (wpAny_pure ?_)
      rw [StateT.run_pure]
      refine wpAny_bind (wpAny_pure ?_)
      try dsimp only
      refine tail (SortSt.mk' general' (its.toArray.zip (as.map Value.ref).toArray) #[] 7 none) ?_ ?_ rfl
      · show List.Pairwise _ (its.toArray.zip (as.map Value.ref).toArray).toList
        rw [pairsL]
        have ll : (its.zip (as.map Value.ref)).length < 2 := by
          rw [List.length_zip, List.length_map]
          rw [szl] at h2s
          omega
        match h : its.zip (as.map Value.ref), ll with
        | [], _ => exact List.Pairwise.nil
        | [v], _ => exact List.pairwise_singleton _ _
        | _ :: _ :: l, h3 => exact absurd h3 (by rw [List.length_cons, List.length_cons]; omega)
      · show Stb _ (its.toArray.zip (as.map Value.ref).toArray).toList _
        rw [pairsL]
        exact Stb.refl _
    · rw [if_neg h2s, if_neg h2s]
      have rd : ∀ {j : Nat} {u : Value}, its[j]? = some u → ∃ x as', kvs[j]? = some x ∧ Reads s'.heap u (.tuple (kd x)) as' := fun {j u} hj => by
        have jl : j < ys.length := by
          have := (List.getElem?_eq_some_iff.mp hj).1
          omega
        obtain ⟨x, hx, hd⟩ := hdp j ys[j] (List.getElem?_eq_getElem jl)
        obtain ⟨u', hu', ru⟩ := ri.get (List.getElem?_eq_getElem jl)
        have e : u' = u := Option.some.inj (hu'.symm.trans hj)
        rw [e] at ru
        obtain ⟨as', r⟩ := Dp.reads Ii _ _ _ hd ru
        exact ⟨x, as', hx, r⟩
      have cmp : Cmp X.prog X.w X.A.in1.in1 s' (tuples' false) (fun p => p ∈ its.zip (as.map Value.ref)) (fun p q : Keyed => decide (rankOf as kvs ρ p.2 < rankOf as kvs ρ q.2)) := by
        intro p q hp hq
        obtain ⟨j, t, x, e1, h1, h2, h3⟩ := mem_at p hp
        obtain ⟨i, t', x', e1', h1', h2', h3'⟩ := mem_at q hq
        obtain ⟨y, bs, hy, r⟩ := rd h3
        obtain ⟨y', bs', hy', r'⟩ := rd h3'
        have ey : y = x := Option.some.inj (hy.symm.trans h2)
        have ey' : y' = x' := Option.some.inj (hy'.symm.trans h2')
        rw [ey] at r
        rw [ey'] at r'
        have m := List.mem_of_getElem? h2
        have m' := List.mem_of_getElem? h2'
        refine keyLt_data r r' (canLay_of_shaped (hsh x m)) (canLay_of_shaped (hsh x' m')) (hok x m x' m') (room_of_shaped (hsh x m) (by show X.A.units + 1 + 1 + 64 < cLine; omega)) ⟨rfl, ?_⟩
        show ltL (kd x) (kd x') = decide (rankOf as kvs ρ p.2 < rankOf as kvs ρ q.2)
        rw [e1, e1', rank_at nd h1 h2, rank_at nd h1' h2', hρ x m x' m']
      have kk : ∀ (R : SortKind → Shared → Prop), R (tuples' false) s' → wpAny (model X.prog X.w) X.A.in1.in1 (keyKind' its.toArray) R E s' := by
        intro R hR
        obtain ⟨fs, k1, k2, k3⟩ := kat_of (h := s'.heap) its fun u hu' => by
          obtain ⟨j, hj⟩ := List.mem_iff_getElem?.mp hu'
          obtain ⟨x, as', hx, r⟩ := rd hj
          obtain ⟨l, r', e⟩ := hft x (List.mem_of_getElem? hx)
          rw [e] at r
          exact ⟨l, r', as', r⟩
        refine PySem.W.kat_kind (T := .type "tuple") k1 (by rw [szl] at h2s; omega) (fun v hv => ?_) (by decide) (by
          have z : (Value.type "tuple" != Value.type "tuple") = false := by decide
          rw [z]
          exact hR)
        obtain ⟨b, o, rfl, ho, hc⟩ := k3 v hv
        rw [← hc]
        exact (PySem.W.Looks.ld ho).andThen .now
      refine wpAny_bind (kk _ ?_)
      refine wpAny_bind (wpAny_mono (wpS_sortO (st0 := SortSt.mk' (tuples' false) (its.toArray.zip (as.map Value.ref).toArray) #[] 7 none)
        (Q := fun _ st' => Srtd (fun p q : Keyed => decide (rankOf as kvs ρ p.2 < rankOf as kvs ρ q.2)) (arrOf st').toList ∧ Stb (fun p q : Keyed => decide (rankOf as kvs ρ p.2 < rankOf as kvs ρ q.2)) (arrOf st').toList (its.zip (as.map Value.ref)) ∧ failedOf st' = none) (swo_rank fun p : Keyed => rankOf as kvs ρ p.2) cmp rfl
        (fun p hp => by
          have hp : p ∈ (its.toArray.zip (as.map Value.ref).toArray).toList := hp
          rw [pairsL] at hp
          exact hp) rfl rfl fun st' a1 a2 a3 => ⟨a1, by
            have a2 : Stb _ (arrOf st').toList (its.toArray.zip (as.map Value.ref).toArray).toList := a2
            rw [pairsL] at a2
            exact a2, a3⟩) ?_ fun _ _ e => e)
      rintro ⟨⟨⟩, st'⟩ s'' ⟨rfl, a1, a2, a3⟩
      try dsimp only
      exact tail st' a1 a2 a3
end
end KS
set_option Elab.async false
set_option linter.all false
set_option maxRecDepth 100000
set_option maxHeartbeats 2000000
namespace TL
open PySem PySem.Spec PyProof.Rows L2 KB KC KD LamX
def Beh (P : Program) (w : World) (K : PySem.W.Frag) (mg : Str → Option Value) (base : Heap) (k : Nat) (f c' : Addr) (q : Str) (body : Expr) (scope : Scope) (N : List Str) (H : Hp) (Q : VK) (E1 : XK) : Prop :=
  ∀ E : XK, (∀ cls d H', E1 cls d H' → E cls d H') → ∀ (A : Around) (outer : List Env) (s : Shared), Room k (A.deeper (envOfC q scope s.heap.objs.size f (.ref c'))) →
    ∃ t, PE (cxOf (L2.CX P w) P w K mg base N q scope f (.ref c') A outer s H E) body t ∧ t (start N []) H Q
def LamAt (P : Program) (w : World) (K : PySem.W.Frag) (mg : Str → Option Value) (base : Heap) (k : Nat) (f : Addr) (H : Hp) (Q : VK) (E1 : XK) : Prop :=
  ∃ (c' : Addr) (q : Str) (params : Arguments) (body : Expr) (scope : Scope) (N : List Str), H f = some (LamO f q params body scope c') ∧ H c' = some (CodeO c' q) ∧ FnScope N [] scope ∧
    (∀ pm ctv, bindArgs (PySem.W.kla_fn "<lambda>" q params body scope [] pm (.ref c') ctv) ⟨[], []⟩ = pure []) ∧ Beh P w K mg base k f c' q body scope N H Q E1
section
variable {X : Cx}
theorem pe_callLam {k i : Nat} {a : Str} {E : L2.St → XK} {p1 p2 : Pos} (hr : Room (k + 1) X.A) (hx : ∀ σ, PassesAt (L2.CX X.prog X.w) X σ (E σ)) (hN : X.N[i]? = some a) (hv : Vis X.env.scope a) (hd : (a == ("__debug__" : Str)) = false := by decide) (hcd : (a == ("__classdict__" : Str)) = false := by decide) :
    PE X (.Call (.Name a p1) [] [] p2) (fun σ H Q => ∃ f, σ[i]? = some (some (.ref f)) ∧ LamAt X.prog X.w X.K X.mg X.base k f H Q (E σ)) := by
  refine ⟨fun pins s σ H Q I hw => ?_⟩
  obtain ⟨f, hs, c', q, params, body, scope, N, hf, hc, S, hb, beh⟩ := hw
  have nm := (pe_var (pos := p1) (i := i) hN hv hd hcd).run pins s σ H (fun v H1 => v = .ref f ∧ H1 = H) I ⟨_, hs, rfl, rfl⟩
  refine wpAny_Call_Name_kw (thn nm fun u s1 hu => ?_)
  obtain ⟨v, H1, I1, rv, ev, eH⟩ := hu
  subst ev
  subst eH
  have eu : u = Value.ref f := rv
  subst eu
  obtain ⟨⟨pm, ctv, of1⟩, _, _⟩ := I1.hok f _ hf
  refine PySem.W.callWith_F0 ⟨_, _, _, _, of1⟩ ?_
  have run := lam_run (CX := L2.CX X.prog X.w) (Q := Q) (E := E σ) (vs := []) (us := []) (args := ⟨[], []⟩) (ps := []) S hr I1.env0 hf hc (fun pm ctv => .of_eq (hb pm ctv)) .nil rfl (fun hr' => beh (E σ) (fun _ _ _ z => z) _ _ _ hr')
  refine wpAny_call (codeAny_mono run fun r s2 hq => ?_)
  match r, hq with
  | .error e, hq => exact hx σ pins H1 s1 e s2 I1 hq
  | .ok (.ret u), hq => exact I1.after hq
  | .ok .next, hq => exact False.elim hq
  | .ok .brk, hq => exact False.elim hq
  | .ok .cont, hq => exact False.elim hq
end
theorem LamAt.mono {P : Program} {w : World} {K : PySem.W.Frag} {mg : Str → Option Value} {base : Heap} {k : Nat} {f : Addr} {H : Hp} {Q : VK} {E1 E2 : XK} (h : LamAt P w K mg base k f H Q E1) (e : ∀ cls d H', E1 cls d H' → E2 cls d H') : LamAt P w K mg base k f H Q E2 := by
  obtain ⟨c', q, params, body, scope, N, hf, hc, S, hb, beh⟩ := h
  exact ⟨c', q, params, body, scope, N, hf, hc, S, hb, fun E he => beh E fun cls d H' z => he cls d H' (e cls d H' z)⟩
@[irreducible] def spToldV (P : Program) (w : World) (K : PySem.W.Frag) (mg : Str → Option Value) (base : Heap) (k : Nat) (CR : Addr) (ret : Str) : Sp := fun vs H Q _ => ∃ f, vs = [.ref f] ∧
  LamAt P w K mg base k f H Q (fun cls _ H' => ∃ b, PySem.W.exmOne K cls (.ref CR) = some b ∧ (b = true → Q (.str ret) H') ∧ (b = false → False))
section
variable {P : Program} {w : World} {K : PySem.W.Frag} {mg : Str → Option Value} {base : Heap}
theorem ok_toldV {x a e ret : Str} {pg : Arguments} {sg : Scope} {Ng : List Str} {f CR : Addr} {fd : FuncData} {j k : Nat} {p1 p2 p3 p4 p5 p6 p7 p8 : Pos}
    (F : FunD K x x pg [.Try [.Return (some (.Call (.Name a p1) [] [] p2)) p3] [.ExceptHandler (some (.Name e p4)) none [.Return (some (.Constant (.str ret) j p5)) p6] p7] [] [] p8] sg [] [] f fd) (S : FnScope Ng [a] sg) (hN : Ng[0]? = some a) (hva : Vis sg a)
    (h0 : ∀ f : Addr, (L2.start Ng [V.ref f])[0]? = some (some (V.ref f))) (hge : sg.names.lookup e = some .globalImplicit) (hme : mg e = some (.ref CR)) (hde : (e == ("__debug__" : Str)) = false) (hd : (a == ("__debug__" : Str)) = false) (hcd : (a == ("__classdict__" : Str)) = false) :
    FnOk P w K mg base CX0 (k + 2) f fd [a] (spToldV P w K mg base k CR ret) := by
  refine F.ok S (fun vs H Q E h => ?_) (fun cdv A outer s H vs Q E hr h => ?_)
  · unfold spToldV at h
    obtain ⟨_, rfl, _⟩ := h; rfl
  · unfold spToldV at h
    obtain ⟨fl, rfl, hl⟩ := h
    have hgl : Gl (cxOf CX0 P w K mg base Ng x sg f cdv A outer s H E).nox e := hge
    refine ⟨_, PSs.nox <| pss_one (ps_try_only (c := .ref CR) (tb := fun W => tRet fun σ H Q => ∃ fz, σ[0]? = some (some (V.ref fz)) ∧ LamAt P w K mg base k fz H Q (WE W σ)) rfl rfl ⟨hgl, hde, .inl hme⟩ L2.takes0
      (fun W pn xe tk _ => pss_one (ps_ret (pe_callLam (k := k) (i := 0) (E := fun σ => WE W σ) hr (fun σ => passAt tk σ) hN hva hd hcd))) (fun a oe cls d pn _ _ => pss_one (ps_ret pe_str))), ?_⟩
    exact ⟨fl, h0 fl, hl.mono fun cls d H' ⟨b, e1, e2, e3⟩ => ⟨b, e1, fun hb a _ => e2 hb, fun hb => e3 hb⟩⟩
end
end TL
set_option linter.all false
namespace Q1
abbrev Sp2 := Int × Int
structure M (g : Int) (ts : List Int) (s : Sp2) : Prop where
  m1 : s.1 ∈ ts
  m2 : ∀ u ∈ ts, ¬ (s.1 - g < u ∧ u < s.1)
  m3 : s.2 - g ∈ ts
  m4 : ∀ u ∈ ts, ¬ (s.2 - g < u ∧ u < s.2)
  m5 : ∀ x, s.1 ≤ x → x < s.2 - g → ∃ u ∈ ts, x < u ∧ u < x + g
  m6 : s.1 + g ≤ s.2
theorem M.apart {g : Int} {ts : List Int} {a b : Sp2} (hg : 0 < g) (ha : M g ts a) (hb : M g ts b) (h : a.1 ≤ b.1) : a = b ∨ a.2 ≤ b.1 := by
  by_cases e : a.2 ≤ b.1
  · exact .inr e
  · left
    have e1 : a.1 = b.1 := by
      by_cases e2 : b.1 ≤ a.2 - g
      · by_cases e3 : a.1 < b.1
        · exfalso
          by_cases e4 : a.1 ≤ b.1 - g
          · obtain ⟨u, hu, h1, h2⟩ := ha.m5 (b.1 - g) e4 (by omega)
            exact hb.m2 u hu ⟨h1, by omega⟩
          · exact hb.m2 a.1 ha.m1 ⟨by omega, e3⟩
        · omega
      · exact absurd ⟨(by omega : a.2 - g < b.1), (by omega : b.1 < a.2)⟩ (ha.m4 b.1 hb.m1)
    have e2 : a.2 = b.2 := by
      have l1 := ha.m6
      have l2 := hb.m6
      rcases Int.lt_trichotomy a.2 b.2 with h1 | h1 | h1
      · obtain ⟨u, hu, h3, h4⟩ := hb.m5 (a.2 - g) (by omega) (by omega)
        exact absurd ⟨h3, by omega⟩ (ha.m4 u hu)
      · exact h1
      · obtain ⟨u, hu, h3, h4⟩ := ha.m5 (b.2 - g) (by omega) (by omega)
        exact absurd ⟨h3, by omega⟩ (hb.m4 u hu)
    exact Prod.ext e1 e2
theorem M.congr {g : Int} {ts us : List Int} (h : ∀ x, x ∈ ts ↔ x ∈ us) {s : Sp2} (m : M g ts s) : M g us s :=
  ⟨(h _).mp m.m1, fun u hu => m.m2 u ((h _).mpr hu), (h _).mp m.m3, fun u hu => m.m4 u ((h _).mpr hu), fun x h1 h2 => by
    obtain ⟨u, hu, h3⟩ := m.m5 x h1 h2
    exact ⟨u, (h _).mp hu, h3⟩, m.m6⟩
structure Spans (g : Int) (ts : List Int) (S : List Sp2) : Prop where
  mem : ∀ s, s ∈ S ↔ M g ts s
  cover : ∀ u ∈ ts, ∃ s ∈ S, s.1 ≤ u ∧ u + g ≤ s.2
  asc : S.Pairwise fun a b => a.2 ≤ b.1
theorem Spans.congr {g : Int} {ts us : List Int} (h : ∀ x, x ∈ ts ↔ x ∈ us) {S : List Sp2} (m : Spans g ts S) : Spans g us S :=
  ⟨fun s => ⟨fun z => ((m.mem s).mp z).congr h, fun z => (m.mem s).mpr (z.congr fun x => (h x).symm)⟩, fun u hu => m.cover u ((h u).mpr hu), m.asc⟩
theorem asc_eq {g : Int} (hg : 0 < g) : ∀ {A B : List Sp2}, (∀ s ∈ A, s.1 + g ≤ s.2) → A.Pairwise (fun a b => a.2 ≤ b.1) → B.Pairwise (fun a b => a.2 ≤ b.1) → (∀ s, s ∈ A ↔ s ∈ B) → A = B
  | [], [], _, _, _, _ => rfl
  | [], b :: B, _, _, _, h => absurd ((h b).mpr List.mem_cons_self) (by simp)
  | a :: A, [], _, _, _, h => absurd ((h a).mp List.mem_cons_self) (by simp)
  | a :: A, b :: B, w, pa, pb, h => by
    have wB : ∀ s ∈ b :: B, s.1 + g ≤ s.2 := fun s hs => w s ((h s).mpr hs)
    rw [List.pairwise_cons] at pa pb
    have wa := w a List.mem_cons_self
    have wb := wB b List.mem_cons_self
    have e : a = b := by
      rcases List.mem_cons.mp ((h a).mp List.mem_cons_self) with z | z
      · exact z
      rcases List.mem_cons.mp ((h b).mpr List.mem_cons_self) with y | y
      · exact y.symm
      have h1 := pb.1 a z
      have h2 := pa.1 b y
      omega
    subst e
    have na : ∀ {C : List Sp2}, (∀ x ∈ C, a.2 ≤ x.1) → a ∉ C := fun hc hm => by
      have := hc a hm
      omega
    rw [asc_eq hg (fun s hs => w s (List.mem_cons_of_mem _ hs)) pa.2 pb.2 fun s => ?_]
    constructor
    · intro hs
      rcases List.mem_cons.mp ((h s).mp (List.mem_cons_of_mem _ hs)) with z | z
      · exact absurd (z ▸ hs) (na pa.1)
      · exact z
    · intro hs
      rcases List.mem_cons.mp ((h s).mpr (List.mem_cons_of_mem _ hs)) with z | z
      · exact absurd (z ▸ hs) (na pb.1)
      · exact z
theorem Spans.uniq {g : Int} (hg : 0 < g) {ts : List Int} {A B : List Sp2} (a : Spans g ts A) (b : Spans g ts B) : A = B :=
  asc_eq hg (fun s hs => ((a.mem s).mp hs).m6) a.asc b.asc fun s => (a.mem s).trans (b.mem s).symm
def ov (g t : Int) (s : Sp2) : Bool := decide (s.1 < t + g) && decide (t < s.2)
def inner (g t : Int) (S : List Sp2) : List Sp2 := S.filter (ov g t)
def others (g t : Int) (S : List Sp2) : List Sp2 := S.filter fun s => decide (s ∉ inner g t S)
theorem ov_iff {g t : Int} {s : Sp2} : ov g t s = true ↔ s.1 < t + g ∧ t < s.2 := by
  unfold ov
  simp
theorem mem_inner {g t : Int} {S : List Sp2} {s : Sp2} : s ∈ inner g t S ↔ s ∈ S ∧ s.1 < t + g ∧ t < s.2 := by
  unfold inner
  rw [List.mem_filter, ov_iff]
theorem mem_others {g t : Int} {S : List Sp2} {s : Sp2} : s ∈ others g t S ↔ s ∈ S ∧ ¬ (s.1 < t + g ∧ t < s.2) := by
  unfold others
  rw [List.mem_filter, decide_eq_true_eq, mem_inner]
  constructor
  · rintro ⟨h1, h2⟩; exact ⟨h1, fun h => h2 ⟨h1, h⟩⟩
  · rintro ⟨h1, h2⟩; exact ⟨h1, fun h => h2 h.2⟩
structure Joint (g t : Int) (S : List Sp2) (b e : Int) : Prop where
  b1 : b = t ∨ ∃ s ∈ inner g t S, b = s.1
  b2 : b ≤ t
  b3 : ∀ s ∈ inner g t S, b ≤ s.1
  e1 : e = t + g ∨ ∃ s ∈ inner g t S, e = s.2
  e2 : t + g ≤ e
  e3 : ∀ s ∈ inner g t S, s.2 ≤ e
section
variable {g t b e : Int} {ts : List Int} {S : List Sp2}
theorem joint_M (hg : 0 < g) (H : Spans g ts S) (J : Joint g t S b e) : M g (t :: ts) (b, e) := by
  have cov := H.cover
  refine ⟨?_, fun u hu => ?_, ?_, fun u hu => ?_, fun x h1 h2 => ?_, ?_⟩
  · rcases J.b1 with h | ⟨s, hs, h⟩
    · show b ∈ t :: ts
      rw [h]; exact List.mem_cons_self
    · show b ∈ t :: ts
      rw [h]
      exact List.mem_cons_of_mem _ ((H.mem s).mp (mem_inner.mp hs).1).m1
  · show ¬ (b - g < u ∧ u < b)
    rintro ⟨h1, h2⟩
    have hb := J.b2
    rcases List.mem_cons.mp hu with rfl | hu
    · omega
    · rcases J.b1 with h | ⟨s, hs, h⟩
      · obtain ⟨s', hs', h3, h4⟩ := cov u hu
        have := J.b3 s' (mem_inner.mpr ⟨hs', by omega, by omega⟩)
        omega
      · exact ((H.mem s).mp (mem_inner.mp hs).1).m2 u hu ⟨by omega, by omega⟩
  · show e - g ∈ t :: ts
    rcases J.e1 with h | ⟨s, hs, h⟩
    · have : e - g = t := by omega
      rw [this]; exact List.mem_cons_self
    · rw [h]
      exact List.mem_cons_of_mem _ ((H.mem s).mp (mem_inner.mp hs).1).m3
  · show ¬ (e - g < u ∧ u < e)
    rintro ⟨h1, h2⟩
    have he := J.e2
    rcases List.mem_cons.mp hu with rfl | hu
    · omega
    · rcases J.e1 with h | ⟨s, hs, h⟩
      · obtain ⟨s', hs', h3, h4⟩ := cov u hu
        have := J.e3 s' (mem_inner.mpr ⟨hs', by omega, by omega⟩)
        omega
      · exact ((H.mem s).mp (mem_inner.mp hs).1).m4 u hu ⟨by omega, by omega⟩
  · have h1 : b ≤ x := h1
    have h2 : x < e - g := h2
    show ∃ u ∈ t :: ts, x < u ∧ u < x + g
    by_cases hx : x < t
    · -- ahead of t: in the inner span that begins at b
      by_cases hx2 : t < x + g
      · exact ⟨t, List.mem_cons_self, hx, hx2⟩
      · rcases J.b1 with h | ⟨s, hs, h⟩
        · omega
        · obtain ⟨hs1, hs2, hs3⟩ := mem_inner.mp hs
          have m := (H.mem s).mp hs1
          obtain ⟨u, hu, h3⟩ := m.m5 x (by omega) (by omega)
          exact ⟨u, List.mem_cons_of_mem _ hu, h3⟩
    · rcases J.e1 with h | ⟨s, hs, h⟩
      · omega
      · obtain ⟨hs1, hs2, hs3⟩ := mem_inner.mp hs
        have m := (H.mem s).mp hs1
        by_cases hx3 : s.1 ≤ x
        · obtain ⟨u, hu, h3⟩ := m.m5 x hx3 (by omega)
          exact ⟨u, List.mem_cons_of_mem _ hu, h3⟩
        · exact ⟨s.1, List.mem_cons_of_mem _ m.m1, by omega, by omega⟩
  · have := J.b2
    have := J.e2
    show b + g ≤ e
    omega
theorem others_M (hg : 0 < g) (H : Spans g ts S) {s : Sp2} (h : s ∈ others g t S) : M g (t :: ts) s := by
  obtain ⟨h1, h2⟩ := mem_others.mp h
  have m := (H.mem s).mp h1
  have l := m.m6
  refine ⟨List.mem_cons_of_mem _ m.m1, fun u hu => ?_, List.mem_cons_of_mem _ m.m3, fun u hu => ?_, fun x h3 h4 => ?_, m.m6⟩
  · rcases List.mem_cons.mp hu with rfl | hu
    · omega
    · exact m.m2 u hu
  · rcases List.mem_cons.mp hu with rfl | hu
    · omega
    · exact m.m4 u hu
  · obtain ⟨u, hu, h5⟩ := m.m5 x h3 h4
    exact ⟨u, List.mem_cons_of_mem _ hu, h5⟩
theorem joint_mem (hg : 0 < g) (H : Spans g ts S) (J : Joint g t S b e) (s : Sp2) : s ∈ others g t S ++ [(b, e)] ↔ M g (t :: ts) s := by
  have mb := joint_M hg H J
  have lb := J.b2
  have le := J.e2
  rw [List.mem_append, List.mem_singleton]
  constructor
  · rintro (h | rfl)
    · exact others_M hg H h
    · exact mb
  · intro m
    have ls := m.m6
    have ap : s = (b, e) ∨ s.2 ≤ b ∨ e ≤ s.1 := by
      rcases Int.le_total s.1 b with h | h
      · rcases m.apart hg mb h with z | z
        · exact .inl z
        · exact .inr (.inl z)
      · rcases mb.apart hg m h with z | z
        · exact .inl z.symm
        · exact .inr (.inr z)
    rcases ap with z | ap
    · exact .inr z
    · left
      have notT : ∀ u, u ∈ t :: ts → s.1 ≤ u → u < s.2 → u ∈ ts := fun u hu h1 h2 => by
        rcases List.mem_cons.mp hu with rfl | hu
        · exfalso; omega
        · exact hu
      refine mem_others.mpr ⟨(H.mem s).mpr ⟨notT _ m.m1 (by omega) (by omega), fun u hu => m.m2 u (List.mem_cons_of_mem _ hu), notT _ m.m3 (by omega) (by omega), fun u hu => m.m4 u (List.mem_cons_of_mem _ hu), fun x h1 h2 => ?_, m.m6⟩, by omega⟩
      obtain ⟨u, hu, h3, h4⟩ := m.m5 x h1 h2
      exact ⟨u, notT u hu (by omega) (by omega), h3, h4⟩
theorem joint_cover (H : Spans g ts S) (J : Joint g t S b e) : ∀ u ∈ t :: ts, ∃ s ∈ others g t S ++ [(b, e)], s.1 ≤ u ∧ u + g ≤ s.2 := by
  intro u hu
  have lb := J.b2
  have le := J.e2
  have hm : (b, e) ∈ others g t S ++ [(b, e)] := List.mem_append.mpr (.inr (List.mem_singleton.mpr rfl))
  rcases List.mem_cons.mp hu with rfl | hu
  · exact ⟨(b, e), hm, lb, le⟩
  · obtain ⟨s, hs, h1, h2⟩ := H.cover u hu
    by_cases h : s.1 < t + g ∧ t < s.2
    · have hi := mem_inner.mpr ⟨hs, h⟩
      have := J.b3 s hi
      have := J.e3 s hi
      exact ⟨(b, e), hm, by show b ≤ u; omega, by show u + g ≤ e; omega⟩
    · exact ⟨s, List.mem_append.mpr (.inl (mem_others.mpr ⟨hs, h⟩)), h1, h2⟩
theorem asc_nodup (hg : 0 < g) : ∀ {A : List Sp2}, (∀ s ∈ A, s.1 + g ≤ s.2) → A.Pairwise (fun a b => a.2 ≤ b.1) → A.Nodup
  | [], _, _ => List.nodup_nil
  | a :: A, w, p => by
    rw [List.pairwise_cons] at p
    refine List.nodup_cons.mpr ⟨fun h => ?_, asc_nodup hg (fun s hs => w s (List.mem_cons_of_mem _ hs)) p.2⟩
    have := p.1 a h
    have := w a List.mem_cons_self
    omega
theorem joint_nodup (hg : 0 < g) (H : Spans g ts S) (J : Joint g t S b e) : (others g t S ++ [(b, e)]).Nodup := by
  have nS := asc_nodup hg (fun s hs => ((H.mem s).mp hs).m6) H.asc
  have lb := J.b2
  have le := J.e2
  refine List.nodup_append.mpr ⟨nS.filter _, by simp, fun x hx y hy => ?_⟩
  rw [List.mem_singleton] at hy
  subst hy
  rintro rfl
  have := (mem_others.mp hx).2
  exact this ⟨by show b < t + g; omega, by show t < e; omega⟩
def lt2 (a b : Sp2) : Bool := decide (a.1 < b.1) || (decide (a.1 = b.1) && decide (a.2 < b.2))
theorem asc_of_sorted (hg : 0 < g) {A : List Sp2} (hm : ∀ s ∈ A, M g ts s) (nd : A.Nodup) (so : A.Pairwise fun a b => lt2 b a = false) : A.Pairwise fun a b => a.2 ≤ b.1 := by
  induction A with
  | nil => exact .nil
  | cons a A ih =>
    rw [List.pairwise_cons] at so
    rw [List.nodup_cons] at nd
    refine List.pairwise_cons.mpr ⟨fun x hx => ?_, ih (fun s hs => hm s (List.mem_cons_of_mem _ hs)) nd.2 so.2⟩
    have h1 := so.1 x hx
    unfold lt2 at h1
    rw [Bool.or_eq_false_iff, decide_eq_false_iff_not] at h1
    rcases (hm a List.mem_cons_self).apart hg (hm x (List.mem_cons_of_mem _ hx)) (by omega) with z | z
    · exact absurd (z ▸ hx) nd.1
    · exact z
theorem joined_spans (hg : 0 < g) (H : Spans g ts S) (J : Joint g t S b e) {A : List Sp2} (pm : A.Perm (others g t S ++ [(b, e)])) (so : A.Pairwise fun a b => lt2 b a = false) : Spans g (t :: ts) A := by
  have hm : ∀ s, s ∈ A ↔ M g (t :: ts) s := fun s => (pm.mem_iff).trans (joint_mem hg H J s)
  refine ⟨hm, fun u hu => ?_, asc_of_sorted hg (fun s hs => (hm s).mp hs) (pm.nodup_iff.mpr (joint_nodup hg H J)) so⟩
  obtain ⟨s, hs, h⟩ := joint_cover H J u hu
  exact ⟨s, pm.mem_iff.mpr hs, h⟩
theorem taken_eq (hg : 0 < g) (H : Spans g ts S) {A : List Sp2} (pm : A.Perm (inner g t S)) (so : A.Pairwise fun a b => lt2 b a = false) : A = inner g t S := by
  have hi : ∀ s ∈ inner g t S, M g ts s := fun s hs => (H.mem s).mp (mem_inner.mp hs).1
  have ai : (inner g t S).Pairwise fun a b => a.2 ≤ b.1 := H.asc.filter _
  have nd : (inner g t S).Nodup := (asc_nodup hg (fun s hs => ((H.mem s).mp hs).m6) H.asc).filter _
  have hA : ∀ s ∈ A, M g ts s := fun s hs => hi s (pm.mem_iff.mp hs)
  exact asc_eq hg (fun s hs => (hA s hs).m6) (asc_of_sorted hg hA (pm.nodup_iff.mpr nd) so) ai fun s => pm.mem_iff
theorem taken_law (hg : 0 < g) (H : Spans g ts S) (J : Joint g t S b e) {A : List Sp2} (pm : A.Perm (others g t S ++ [(b, e)])) : S.filter (fun s => decide (s ∉ A) || decide (s = (b, e))) = inner g t S := by
  unfold inner
  refine List.filter_congr fun s hs => ?_
  have lb := J.b2
  have le := J.e2
  have hA : s ∈ A ↔ s ∈ others g t S ∨ s = (b, e) := by rw [pm.mem_iff, List.mem_append, List.mem_singleton]
  rw [Bool.eq_iff_iff, ov_iff, Bool.or_eq_true, decide_eq_true_eq, decide_eq_true_eq, hA, mem_others]
  constructor
  · rintro (h | rfl)
    · by_cases z : s.1 < t + g ∧ t < s.2
      · exact z
      · exact absurd (.inl ⟨hs, z⟩) h
    · exact ⟨by show b < t + g; omega, by show t < e; omega⟩
  · intro h
    by_cases z : s = (b, e)
    · exact .inr z
    · left
      rintro (y | y)
      · exact y.2 h
      · exact z y
end
def lsStep (g : Int) (acc : List Sp2) (t : Int) : List Sp2 :=
  match acc.getLast? with
  | some l => if t < l.2 then acc.dropLast ++ [(l.1, t + g)] else acc ++ [(t, t + g)]
  | none => [(t, t + g)]
theorem spans_nil {g : Int} : Spans g [] [] := ⟨fun s => ⟨fun h => by simp at h, fun m => absurd m.m1 (by simp)⟩, fun u hu => absurd hu (by simp), .nil⟩
theorem ls_spans {g t : Int} (hg : 0 < g) {ts : List Int} {S : List Sp2} (H : Spans g ts S) (ht : ∀ u ∈ ts, u ≤ t) : Spans g (t :: ts) (lsStep g S t) := by
  have hs1 : ∀ s ∈ S, s.1 ≤ t := fun s hs => ht _ ((H.mem s).mp hs).m1
  have hs2 : ∀ s ∈ S, s.2 ≤ t + g := fun s hs => by have := ht _ ((H.mem s).mp hs).m3; omega
  rcases List.eq_nil_or_concat S with rfl | ⟨init, l, rfl⟩
  · have J : Joint g t [] t (t + g) := ⟨.inl rfl, Int.le_refl _, fun s hs => absurd hs (by simp [inner]), .inl rfl, Int.le_refl _, fun s hs => absurd hs (by simp [inner])⟩
    exact joined_spans hg H J (A := [(t, t + g)]) (List.Perm.refl _) (by simp)
  · rw [List.concat_eq_append] at H hs1 hs2 ⊢
    have asc := H.asc
    rw [List.pairwise_append] at asc
    have hl := hs1 l (by simp)
    have hl2 := hs2 l (by simp)
    have ml := (H.mem l).mp (by simp)
    have noi : ∀ s ∈ init, s.2 ≤ t := fun s hs => by have := asc.2.2 s hs l (by simp); omega
    have w : ∀ s ∈ init ++ [l], s.1 + g ≤ s.2 := fun s hs => ((H.mem s).mp hs).m6
    unfold lsStep
    rw [List.getLast?_concat]
    show Spans g (t :: ts) (if t < l.2 then _ else _)
    by_cases h : t < l.2
    · rw [if_pos h, List.dropLast_concat]
      have hin : ∀ s, s ∈ inner g t (init ++ [l]) ↔ s = l := fun s => by
        rw [mem_inner]
        constructor
        · rintro ⟨h1, h2, h3⟩
          rcases List.mem_append.mp h1 with z | z
          · have := noi s z; omega
          · exact List.mem_singleton.mp z
        · rintro rfl
          exact ⟨by simp, by omega, h⟩
      have J : Joint g t (init ++ [l]) l.1 (t + g) := ⟨.inr ⟨l, (hin l).mpr rfl, rfl⟩, hl, fun s hs => by rw [(hin s).mp hs]; exact Int.le_refl _, .inl rfl, Int.le_refl _, fun s hs => by rw [(hin s).mp hs]; exact hl2⟩
      have eo : others g t (init ++ [l]) = init := by
        unfold others
        rw [List.filter_append, List.filter_eq_self.mpr fun s hs => ?_]
        · rw [List.filter_cons_of_neg (by simpa using (hin l).mpr rfl)]
          simp
        · rw [decide_eq_true_eq, hin]
          rintro rfl
          have h1 := noi s hs
          omega
      refine joined_spans hg H J (by rw [eo]) ?_
      refine List.pairwise_append.mpr ⟨asc.1.imp_of_mem fun {a b} ha hb hab => ?_, by simp, fun a ha b hb => ?_⟩
      · have := w a (by simp [ha])
        unfold lt2
        simp
        omega
      · rw [List.mem_singleton] at hb
        subst hb
        have h1 := asc.2.2 a ha l (by simp)
        have := w a (by simp [ha])
        unfold lt2
        simp
        omega
    · rw [if_neg h]
      have hin : ∀ s, s ∉ inner g t (init ++ [l]) := fun s hs => by
        obtain ⟨h1, h2, h3⟩ := mem_inner.mp hs
        rcases List.mem_append.mp h1 with z | z
        · have := noi s z; omega
        · rw [List.mem_singleton.mp z] at h3
          exact h h3
      have J : Joint g t (init ++ [l]) t (t + g) := ⟨.inl rfl, Int.le_refl _, fun s hs => absurd hs (hin s), .inl rfl, Int.le_refl _, fun s hs => absurd hs (hin s)⟩
      have eo : others g t (init ++ [l]) = init ++ [l] := by
        unfold others
        exact List.filter_eq_self.mpr fun s _ => by rw [decide_eq_true_eq]; exact hin s
      refine joined_spans hg H J (by rw [eo]) ?_
      refine List.pairwise_append.mpr ⟨H.asc.imp_of_mem fun {a b} ha hb hab => ?_, by simp, fun a ha b hb => ?_⟩
      · have := w a ha
        unfold lt2
        simp
        omega
      · rw [List.mem_singleton] at hb
        subst hb
        have h1 := hs1 a ha
        have h2 := hs2 a ha
        have := w a ha
        have h3 : a.2 ≤ t := by
          rcases List.mem_append.mp ha with z | z
          · exact noi a z
          · rw [List.mem_singleton.mp z]; omega
        unfold lt2
        simp
        omega
def lawSp (g : Int) (ts : List Int) : List Sp2 := ts.foldl (lsStep g) []
theorem lawSp_spans {g : Int} (hg : 0 < g) {ts : List Int} (so : ts.Pairwise (· ≤ ·)) : Spans g ts (lawSp g ts) := by
  have go : ∀ (r p : List Int) (S : List Sp2), Spans g p S → (∀ u ∈ p, ∀ v ∈ r, u ≤ v) → r.Pairwise (· ≤ ·) → Spans g (p ++ r) (r.foldl (lsStep g) S) := by
    intro r
    induction r with
    | nil => intro p S h _ _; simpa using h
    | cons t r ih =>
      intro p S h hp hr
      rw [List.pairwise_cons] at hr
      have h1 := ls_spans hg h fun u hu => hp u hu t List.mem_cons_self
      have h2 := ih (p ++ [t]) (lsStep g S t) (h1.congr fun x => by simp [or_comm]) (fun u hu v hv => ?_) hr.2
      · simpa using h2
      · rcases List.mem_append.mp hu with z | z
        · exact hp u z v (List.mem_cons_of_mem _ hv)
        · rw [List.mem_singleton.mp z]; exact hr.1 v hv
  exact go ts [] [] spans_nil (by simp) so
end Q1
set_option Elab.async false
set_option linter.all false
set_option maxRecDepth 100000
set_option maxHeartbeats 4000000
namespace SrtU
open PySem PyProof.Rows Srt SrtO
section
variable {prog : Program} {w : World} {A : Around} {E : Value → Shared → Prop} {s : Shared}
theorem collect_tup {l : Addr} {vs : List Value} {Q : List Value → Shared → Prop} (hl : s.heap.IsTuple l vs.toArray)
    (h : Q vs { s with heap := (s.heap.push (seqObj "list" #[] 0)).update s.heap.objs.size (Obj.mapSeq (· ++ vs.toArray)) }) (hsz : vs.length ≤ sizeLine) :
    wpAny (model prog w) A (collect (.ref l)) Q E s := by
  obtain ⟨o, ho, hc, n, hd⟩ := id hl
  unfold collect
  refine wpAny_bind (wpAny_runValue (codeAny_builtin entry_proto_collect' ?_))
  show wpAny _ _ (do again (.builtin "list.__iadd__" ⟨[← newList [], .ref l], []⟩)) _ _ s
  refine wpAny_bind (wpAny_newList (wpAny_pure ⟨Code.quiet_builtin _ (by decide +kernel), codeAny_builtin entry_list_iadd' ?_⟩))
  show wpAny _ _ (Builtin.List.listExtendWith (.ref s.heap.objs.size) (.ref l) (.ref s.heap.objs.size)) _ _ { s with heap := s.heap.push (seqObj "list" #[] 0) }
  unfold Builtin.List.listExtendWith
  have ho' : (s.heap.push (seqObj "list" #[] 0)).get? l = some o := Heap.get?_push_of_some _ ho
  refine wpAny_bind (wpAny_typeOf (T := "tuple") ⟨o, ho', hc⟩ ?_)
  have ht : (Value.type "tuple" == Value.type "tuple") = true := by rfl
  rw [if_pos (by rw [ht]; simp)]
  refine wpAny_bind (listItems_at ho' hd ?_)
  refine wpAny_bind (listItems_at (xs := #[]) (n := 0) (Heap.get?_push_size _ rfl) rfl ?_)
  rw [if_neg (by simp)]
  refine wpAny_bind (listUpdate_at (xs := #[]) (n := 0) (Heap.get?_push_size _ rfl) rfl ?_ (Nat.zero_le _) (by show (#[] ++ vs.toArray).size ≤ sizeLine + 1; simp only [Array.size_append, List.size_toArray, List.length_nil]; omega))
  refine wpAny_pure ?_
  show wpAny (model prog w) A (do
      let o ← load s.heap.objs.size
      match o.data with
      | .seq xs _ => pure xs.toList
      | _ => unsupported "internal:collect") Q E { s with heap := (s.heap.push (seqObj "list" #[] 0)).update s.heap.objs.size (Obj.mapSeq (· ++ vs.toArray)) }
  refine wpAny_bind (wpAny_load (get?_update_seq (Heap.get?_push_size _ rfl) _) ?_)
  show wpAny _ _ (pure ((#[] : Array Value) ++ vs.toArray).toList) Q E _
  rw [show ((#[] : Array Value) ++ vs.toArray).toList = vs by simp]
  exact wpAny_pure h
theorem sorted_ordT {l : Addr} {vs : List Value} {ltv : Value → Value → Bool} {Q : Value → Shared → Prop} (O : Swo ltv) (hl : s.heap.IsTuple l vs.toArray) (hz : vs.length ≤ sizeLine)
    (hS : 2 ≤ vs.length → ∀ (h₁ : Heap) (a : Addr), h₁.get? a = some (seqObj "list" vs.toArray 0) → (∀ b o, s.heap.get? b = some o → b ≠ a ∧ h₁.get? b = some o) → SortableO prog w A.in1.in1 { s with heap := h₁ } a vs ltv)
    (h : ∀ out : List Value, Srtd ltv out → Stb ltv out vs → Q (.ref (s.heap.objs.size + 1)) { s with heap := sortedAll s.heap vs out.toArray }) :
    wpAny (model prog w) A (call (.builtin "sorted") [.ref l]) Q E s := by
  refine Calls.call_function_entry kind_sorted plain_sorted entry_sorted (args_sorted1 _) ?_
  unfold Builtin.«sorted»
  refine wpAny_bind (m := checkCount "sorted" 1 1 _) (wpAny_pure ?_)
  refine wpAny_bind (collect_tup hl ?_ hz)
  refine wpAny_bind (wpAny_newList ?_ hz)
  have hsz : ((s.heap.push (seqObj "list" #[] 0)).update s.heap.objs.size (Obj.mapSeq (· ++ vs.toArray))).objs.size = s.heap.objs.size + 1 := by
    rw [Heap.size_update, size_push']
  have hoL : (((s.heap.push (seqObj "list" #[] 0)).update s.heap.objs.size (Obj.mapSeq (· ++ vs.toArray))).push (seqObj "list" vs.toArray 0)).get? (s.heap.objs.size + 1) = some (seqObj "list" vs.toArray 0) := by
    rw [← hsz]; exact Heap.get?_push_size _ rfl
  have keep : ∀ b o, s.heap.get? b = some o → b ≠ s.heap.objs.size + 1 ∧ (((s.heap.push (seqObj "list" #[] 0)).update s.heap.objs.size (Obj.mapSeq (· ++ vs.toArray))).push (seqObj "list" vs.toArray 0)).get? b = some o := fun b o q => by
    have hlt : b < s.heap.objs.size := Heap.lt_size q
    refine ⟨Nat.ne_of_lt (Nat.lt_succ_of_lt hlt), Heap.get?_push_of_some _ ?_⟩
    rw [Heap.get?_update_ne _ _ _ _ (Nat.ne_of_lt hlt)]
    exact Heap.get?_push_of_some _ q
  show wpAny _ _ _ _ _ { s with heap := ((s.heap.push (seqObj "list" #[] 0)).update s.heap.objs.size (Obj.mapSeq (· ++ vs.toArray))).push (seqObj "list" vs.toArray 0) }
  rw [hsz]
  refine wpAny_bind (wpAny_holding (wpAny_call_entry slot_list_sort ⟨_, hoL, rfl⟩ entry_list_sort (list_sort_ord O hoL hz (fun h2 => hS h2 _ _ hoL keep) fun out hs hb => ⟨_, rfl, ?_⟩) (args_list_sort _)))
  exact wpAny_pure ⟨_, rfl, h out hs hb⟩
theorem sorted_pairsT {l : Addr} {vs : List Value} {k : Value → Int × Int} {Q : Value → Shared → Prop} (hl : s.heap.IsTuple l vs.toArray) (hz : vs.length ≤ sizeLine) (hp : ∀ v ∈ vs, IsPair s.heap v (k v).1 (k v).2)
    (h : ∀ (h' : Heap) (d : Addr) (out : List Value), Srtd (fun v u => lexB (k v) (k u)) out → Stb (fun v u => lexB (k v) (k u)) out vs → (∀ b o, s.heap.get? b = some o → h'.get? b = some o) → s.heap.objs.size ≤ d → (∃ n, h'.get? d = some (seqObj "list" out.toArray n)) → Q (.ref d) { s with heap := h' }) :
    wpAny (model prog w) A (call (.builtin "sorted") [.ref l]) Q E s := by
  refine sorted_ordT (swo_lex k) hl hz (fun h2 h₁ a ha kk => ?_) fun out hs hb => ?_
  · refine pairs_sortableO (s := { s with heap := h₁ }) (by omega) (fun v hm => (hp v hm).keeps fun b o e _ => (kk b o e).2) fun o e => ?_
    have e' : some o = some (seqObj "list" vs.toArray 0) := e.symm.trans ha
    cases e'
    intro c
    exact absurd (Value.type.inj c) (by decide)
  · exact h _ _ out hs hb (fun b o e => sortedAll_old e) (Nat.le_succ _) (sortedAll_at s.heap vs out.toArray)
end
end SrtU
namespace R8
open PySem PySem.Spec PyProof.Rows L2 KB KC KS Q1
def pD (p : Sp2) : PyData := .tuple [.int p.1, .int p.2]
def Ps (H : Hp) (us : List Addr) (S : List Sp2) : Prop := Paired (fun (t : Addr) (p : Sp2) => H t = some (.tup [.int p.1, .int p.2])) us S
theorem paired_mono {α β : Type} {R R' : α → β → Prop} (f : ∀ a b, R a b → R' a b) : ∀ {l : List α} {m : List β}, Paired R l m → Paired R' l m
  | _, _, .nil => .nil
  | _, _, .cons h t => .cons (f _ _ h) (paired_mono f t)
theorem paired_app {α β : Type} {R : α → β → Prop} : ∀ {l l' : List α} {m m' : List β}, Paired R l m → Paired R l' m' → Paired R (l ++ l') (m ++ m')
  | _, _, _, _, .nil, h => h
  | _, _, _, _, .cons h t, h' => .cons h (paired_app t h')
theorem Ps.ex {H H' : Hp} {us : List Addr} {S : List Sp2} (p : Ps H us S) (e : ∀ b xs, H b = some (.tup xs) → H' b = some (.tup xs)) : Ps H' us S := paired_mono (fun a b h => e a _ h) p
theorem Ps.dp {K : PySem.W.Frag} {H : Hp} : ∀ {us : List Addr} {S : List Sp2}, Ps H us S → DpAll K H (us.map V.ref) (S.map pD)
  | _, _, .nil => .nil
  | _, _, .cons h t => .cons (.tup (SqT.of h) (.cons (.int _) (.cons (.int _) .nil))) (Ps.dp t)
theorem Ps.at {H : Hp} : ∀ {us : List Addr} {S : List Sp2}, Ps H us S → ∀ {i : Nat} {t : Addr}, us[i]? = some t → ∃ p, S[i]? = some p ∧ H t = some (.tup [.int p.1, .int p.2])
  | _, _, .nil, i, t, h => by simp at h
  | _, _, .cons (a := a) (b := b) h r, i, t, e => by
    cases i with
    | zero => cases e; exact ⟨b, rfl, h⟩
    | succ i => exact Ps.at r (i := i) e
theorem Ps.at2 {H : Hp} : ∀ {us : List Addr} {S : List Sp2}, Ps H us S → ∀ {i : Nat} {p : Sp2}, S[i]? = some p → ∃ t, us[i]? = some t ∧ H t = some (.tup [.int p.1, .int p.2])
  | _, _, .nil, i, t, h => by simp at h
  | _, _, .cons (a := a) (b := b) h r, i, t, e => by
    cases i with
    | zero => cases e; exact ⟨a, rfl, h⟩
    | succ i => exact Ps.at2 r (i := i) e
def kH (H : Hp) : V → Int × Int
  | .ref t => match H t with
    | some (.tup [.int i, .int j]) => (i, j)
    | _ => (0, 0)
  | _ => (0, 0)
theorem kH_at {H : Hp} {t : Addr} {p : Sp2} (h : H t = some (.tup [.int p.1, .int p.2])) : kH H (.ref t) = p := by
  unfold kH
  simp only [h]
theorem Ps.kH {H : Hp} : ∀ {us : List Addr} {S : List Sp2}, Ps H us S → (us.map V.ref).map (kH H) = S
  | _, _, .nil => rfl
  | _, _, .cons h t => by rw [List.map_cons, List.map_cons, kH_at h, Ps.kH t]
theorem eqv_pD (a b : Sp2) : PyData.eqv (pD a) (pD b) = decide (a = b) := by
  obtain ⟨a1, a2⟩ := a
  obtain ⟨b1, b2⟩ := b
  unfold pD
  simp only [PyData.eqv, PyData.eqvAll, Bool.and_true, Prod.mk.injEq]
  rw [Bool.eq_iff_iff]
  simp
theorem any_pD (S : List Sp2) (p : Sp2) : ((S.map pD).any fun z => PyData.eqv z (pD p)) = decide (p ∈ S) := by
  rw [Bool.eq_iff_iff, List.any_eq_true, decide_eq_true_eq]
  constructor
  · rintro ⟨z, hz, h⟩
    obtain ⟨q, hq, rfl⟩ := List.mem_map.mp hz
    rw [eqv_pD, decide_eq_true_eq] at h
    exact h ▸ hq
  · intro h
    exact ⟨pD p, List.mem_map.mpr ⟨p, h, rfl⟩, by rw [eqv_pD]; exact decide_eq_true rfl⟩
theorem shaped_pD (p : Sp2) : SeqAt.shaped (pD p) = true := by
  unfold SeqAt.shaped pD
  simp [PyData.canLay0, PyData.canLayAll0, PyData.depth, PyData.depthAll]
theorem lay_pD : ∀ S : List Sp2, PyData.canLayAll0 (S.map pD) = true
  | [] => by simp [PyData.canLayAll0]
  | p :: S => by
    rw [List.map_cons]
    unfold PyData.canLayAll0
    rw [lay_pD S]
    simp [pD, PyData.canLay0, PyData.canLayAll0]
def rInP (neg : Bool) : R2 := fun x y H Q => ∃ (t a : Addr) (p : Sp2) (us : List Addr) (S : List Sp2), x = .ref t ∧ y = .ref a ∧ H t = some (.tup [.int p.1, .int p.2]) ∧ H a = some (.tup (us.map V.ref)) ∧ Ps H us S ∧ Q (.bl (if neg then !decide (p ∈ S) else decide (p ∈ S))) H
section
variable {X : Cx}
theorem op_inP (hu : X.A.units + 65 < cLine) : OpR X (compareOp .In) (rInP false) := by
  intro pins s σ H x y v u Q I rx ry h
  obtain ⟨t, a, p, us, S, rfl, rfl, ht, ha, hp, q⟩ := h
  obtain ⟨as, r1⟩ := Dp.reads I (pD p) (.ref t) v (.tup (SqT.of ht) (.cons (.int _) (.cons (.int _) .nil))) rx
  obtain ⟨bs, r2⟩ := Dp.reads I (.tuple (S.map pD)) (.ref a) u (.tup (SqT.of ha) hp.dp) ry
  refine SeqAt.in_tuple_reads r2 r1 (lay_pD S) (SeqAt.canLay_of_shaped (shaped_pD p)) (room_in_shaped (shaped_pD p) hu) ⟨.bl _, H, I, rfl, ?_⟩
  rw [any_pD]
  exact q
theorem op_notInP (hu : X.A.units + 65 < cLine) : OpR X (compareOp .NotIn) (rInP true) := by
  intro pins s σ H x y v u Q I rx ry h
  obtain ⟨t, a, p, us, S, rfl, rfl, ht, ha, hp, q⟩ := h
  obtain ⟨as, r1⟩ := Dp.reads I (pD p) (.ref t) v (.tup (SqT.of ht) (.cons (.int _) (.cons (.int _) .nil))) rx
  obtain ⟨bs, r2⟩ := Dp.reads I (.tuple (S.map pD)) (.ref a) u (.tup (SqT.of ha) hp.dp) ry
  refine SeqAt.notIn_tuple_reads r2 r1 (lay_pD S) (SeqAt.canLay_of_shaped (shaped_pD p)) (room_in_shaped (shaped_pD p) hu) ⟨.bl _, H, I, rfl, ?_⟩
  rw [any_pD]
  exact q
end
theorem refs_ex : ∀ {l : List V}, (∀ v ∈ l, ∃ t, v = V.ref t) → ∃ us : List Addr, l = us.map V.ref
  | [], _ => ⟨[], rfl⟩
  | v :: l, h => by
    obtain ⟨t, rfl⟩ := h v List.mem_cons_self
    obtain ⟨us, rfl⟩ := refs_ex fun v hv => h v (List.mem_cons_of_mem _ hv)
    exact ⟨t :: us, rfl⟩
theorem ps_of {H : Hp} : ∀ {us : List Addr}, (∀ t ∈ us, ∃ p : Sp2, H t = some (.tup [.int p.1, .int p.2])) → Ps H us ((us.map V.ref).map (kH H))
  | [], _ => .nil
  | t :: us, h => by
    obtain ⟨p, hp⟩ := h t List.mem_cons_self
    refine .cons ?_ (ps_of fun u hu => h u (List.mem_cons_of_mem _ hu))
    rw [kH_at hp]
    exact hp
theorem Ps.mem {H : Hp} : ∀ {us : List Addr} {S : List Sp2}, Ps H us S → ∀ t ∈ us, ∃ p : Sp2, H t = some (.tup [.int p.1, .int p.2])
  | _, _, .nil, t, h => by simp at h
  | _, _, .cons (b := b) h r, t, ht => by
    rcases List.mem_cons.mp ht with rfl | ht
    · exact ⟨b, h⟩
    · exact Ps.mem r t ht
theorem lexB_lt2 {a b : Sp2} (h : SrtO.lexB a b = false) : lt2 a b = false := by
  have := SrtO.lexB_no.mp h
  unfold lt2
  rw [Bool.or_eq_false_iff, Bool.and_eq_false_iff, decide_eq_false_iff_not, decide_eq_false_iff_not, decide_eq_false_iff_not]
  omega
theorem sort_out {H : Hp} {us : List Addr} {S : List Sp2} {ys : List V} (hp : Ps H us S) (so : SrtO.Srtd (ltP (kH H)) ys) (st : SrtO.Stb (ltP (kH H)) ys (us.map V.ref)) :
    ∃ (us' : List Addr) (S' : List Sp2), ys = us'.map V.ref ∧ Ps H us' S' ∧ S'.Perm S ∧ S'.Pairwise (fun a b => lt2 b a = false) := by
  have pm := st.perm
  obtain ⟨us', rfl⟩ := refs_ex (l := ys) fun v hv => by
    obtain ⟨t, _, e⟩ := List.mem_map.mp (pm.mem_iff.mp hv)
    exact ⟨t, e.symm⟩
  refine ⟨us', (us'.map V.ref).map (kH H), rfl, ps_of fun t ht => ?_, ?_, ?_⟩
  · have := pm.mem_iff.mp (List.mem_map.mpr ⟨t, ht, rfl⟩)
    obtain ⟨t', ht', e⟩ := List.mem_map.mp this
    cases e
    exact hp.mem t ht'
  · rw [← hp.kH]
    exact pm.map _
  · refine List.pairwise_map.mpr (so.imp fun {a b} h => lexB_lt2 h)
def rSortPL : List V → Hp → VK → Prop := fun vs H Q => ∃ (a : Addr) (us : List Addr) (S : List Sp2), vs = [.ref a] ∧ (H a = some (.lst (us.map V.ref)) ∨ H a = some (.tup (us.map V.ref))) ∧ Ps H us S ∧
  ∀ (q : Addr) (us' : List Addr) (S' : List Sp2), H q = none → Ps H us' S' → S'.Perm S → S'.Pairwise (fun a b => lt2 b a = false) → Q (.ref q) (upd H q (.lst (us'.map V.ref)))
section
variable {X : Cx}
theorem cr_sortPL : CallR X (.builtin "sorted") rSortPL := by
  intro pins s σ H vs us0 Q I r h
  obtain ⟨a, us, S, rfl, ha | ha, hp, q⟩ := h
  · refine cr_sortedPO pins s σ H _ us0 Q I r ⟨a, us.map V.ref, kH H, rfl, SqL.of ha, fun x hx => ?_, fun ys p so st hn => ?_⟩
    · obtain ⟨t, ht, rfl⟩ := List.mem_map.mp hx
      obtain ⟨p, h⟩ := hp.mem t ht
      exact ⟨t, rfl, by rw [kH_at h]; exact h⟩
    · obtain ⟨us', S', rfl, h1, h2, h3⟩ := sort_out hp so st
      exact q p us' S' hn h1 h2 h3
  · obtain ⟨its, rv, hl, hz⟩ := I.tuple (SqT.of ha)
    obtain ⟨u, rfl, ru⟩ := vals1 r
    obtain rfl : u = Value.ref a := ru
    obtain ⟨e1, e2⟩ := refs_back rv fun x m => by
      obtain ⟨t, _, e⟩ := List.mem_map.mp m
      exact ⟨t, e.symm⟩
    refine SrtU.sorted_pairsT (k := fun u => kH H (backV u)) hl (by rw [← rv.length]; exact hz) (fun v hv => ?_) fun h' d out h1 h2 kp hd hn => ?_
    · obtain ⟨t, rfl⟩ := e2 v hv
      have hm : V.ref t ∈ us.map V.ref := by rw [e1]; exact List.mem_map.mpr ⟨_, hv, rfl⟩
      obtain ⟨t', ht', e⟩ := List.mem_map.mp hm
      cases e
      obtain ⟨p, hpt⟩ := hp.mem t ht'
      obtain ⟨_, its2, r2, o, ho, hc, n, hd⟩ := I.hok _ _ hpt
      obtain ⟨u1, u2, rfl, ri, rj⟩ := vals2 r2
      obtain ⟨t1, rfl⟩ := ri
      obtain ⟨t2, rfl⟩ := rj
      have e : kH H (backV (.ref t)) = p := kH_at hpt
      rw [e]
      exact ⟨t, o, t1, t2, n, rfl, ho, hc, hd⟩
    · have h3 : ∀ u ∈ out, ∃ a, u = Value.ref a := fun u hu => e2 u (h2.perm.mem_iff.mp hu)
      obtain ⟨n, hn⟩ := hn
      have hb : SrtO.Stb (ltP (kH H)) (out.map backV) (us.map V.ref) := by
        rw [e1]
        exact SrtO.Stb.map (ltP_swo (kH H)) backV h2
      obtain ⟨us', S', e, k1, k2, k3⟩ := sort_out hp (SrtO.srtd_map h1) hb
      have hq := q d us' S' (I.hok.fresh hd) k1 k2 k3
      rw [← e] at hq
      refine ⟨.ref d, upd H d (.lst (out.map backV)), I.laid (t' := s.toks) kp hd ⟨?_, out, n, vals_back h3, hn⟩, rfl, hq⟩
      rw [hb.len]
      exact hz
end
def minDef : List Int → Int → Int
  | [], d => d
  | n :: ns, _ => W.minOf n ns
theorem minOf_spec : ∀ (ns : List Int) (n : Int), W.minOf n ns ∈ n :: ns ∧ ∀ y ∈ n :: ns, W.minOf n ns ≤ y
  | [], n => ⟨List.mem_cons_self, fun y hy => by rw [List.mem_singleton.mp hy]; exact Int.le_refl _⟩
  | m :: ns, n => by
    have e : W.minOf n (m :: ns) = W.minOf (if m < n then m else n) ns := by
      unfold W.minOf
      rw [List.foldl_cons]
      have : (W.DatumOrd.lt m n = true) = (m < n) := by
        show (decide (m < n) = true) = _
        simp
      simp only [this]
    obtain ⟨h1, h2⟩ := minOf_spec ns (if m < n then m else n)
    rw [e]
    refine ⟨?_, fun y hy => ?_⟩
    · rcases List.mem_cons.mp h1 with h | h
      · rw [h]
        split
        · simp
        · simp
      · simp [h]
    · have h0 := h2 _ List.mem_cons_self
      rcases List.mem_cons.mp hy with e | hy
      · generalize W.minOf (if m < n then m else n) ns = z at h0
        split at h0 <;> omega
      rcases List.mem_cons.mp hy with e | hy
      · generalize W.minOf (if m < n then m else n) ns = z at h0
        split at h0 <;> omega
      · exact h2 y (List.mem_cons_of_mem _ hy)
theorem minDef_eq {ns : List Int} {d m : Int} (h : m ∈ ns) (hm : ∀ y ∈ ns, m ≤ y) : minDef ns d = m := by
  cases ns with
  | nil => simp at h
  | cons n ns =>
    obtain ⟨h1, h2⟩ := minOf_spec ns n
    show W.minOf n ns = m
    exact Int.le_antisymm (h2 m h) (hm _ h1)
def rMinDef (K : PySem.W.Frag) : List V → List V → Hp → VK → Prop := fun vs zs H Q => ∃ (a : Addr) (ns : List Int) (d : Int), vs = [.ref a] ∧ zs = [.int d] ∧ SqL K H a (ns.map V.int) ∧ Q (.int (minDef ns d)) H
theorem dp_ints {K : PySem.W.Frag} {H : Hp} : ∀ ns : List Int, DpAll K H (ns.map V.int) (ns.map PyData.int)
  | [] => .nil
  | n :: ns => .cons (.int _) (dp_ints ns)
theorem cr_minDef {X : Cx} (hc : X.calm = true) (hu : X.A.units + 66 < cLine) : CallRK X (.builtin "min") [Str.ofString "default"] (rMinDef X.K) := by
  intro pins s σ H xs zs us ws Q I r rz h
  obtain ⟨a, ns, d, rfl, rfl, ha, q⟩ := h
  obtain rfl := Vals.ref1 r
  obtain ⟨u, rfl, t, rfl⟩ := vals1 rz
  obtain ⟨its, rv, hl, hz⟩ := I.list ha
  obtain ⟨as, ra⟩ := Dp.readsAll I (ns.map PyData.int) _ its (dp_ints ns) rv
  show wpAny _ _ (call (.builtin "min") [.ref a] [(Str.ofString "default", .int d t)]) _ _ s
  refine W.min_list_datum_default (α := Int) (xs := ns) (I.ok.hd hc) hl.isList ⟨as, ra⟩ (by show X.A.units + 1 + 0 < cLine; omega) (fun e h' tk hk => ?_) fun y ys i v h' tk e hv hh hk => ?_
  · subst e
    exact ⟨.int d, H, I.kept (t' := tk) hk, ⟨t, rfl⟩, q⟩
  · subst e
    obtain ⟨bs, rb⟩ := hh
    have : ∃ t, v = Value.int (W.minOf y ys) t := by
      cases rb
      exact ⟨_, rfl⟩
    obtain ⟨t2, rfl⟩ := this
    exact ⟨.int _, H, I.kept (t' := tk) hk, ⟨t2, rfl⟩, q⟩
end R8
set_option Elab.async false
set_option linter.all false
set_option maxRecDepth 100000
set_option maxHeartbeats 4000000
namespace K8
open PySem PySem.Spec PyProof.Rows L2 KB KC
def top (i : Nat) : Stmt := PySem.Challenge.pw_streamstack_k08_times_and_windows.main.body.getD i (.Pass ⟨0, 0, 0, 0⟩)
abbrev sMarks : Stmt := top 4
abbrev sWin : Stmt := top 5
abbrev sSess : Stmt := top 6
abbrev sDice : Stmt := top 8
abbrev sRoll : Stmt := top 9
abbrev sRounds : Stmt := top 10
abbrev sTold : Stmt := top 11
abbrev sSpans : Stmt := top 12
abbrev sLaw : Stmt := top 13
abbrev sMM (j : Nat) : Stmt := inClass sMarks j
abbrev sWM (j : Nat) : Stmt := inClass sWin j
abbrev sSM (j : Nat) : Stmt := inClass sSess j
abbrev FnP (K : PySem.W.Frag) (x q : Str) (st : Stmt) (dvs : List V) (f : Addr) (fd : FuncData) : Prop := FunD K x q (defArgs st) (defBody st) (defScope st) dvs [] f fd
def rIxD : R2 := fun x y H Q => ∃ p xs i v, x = .ref p ∧ y = .int i ∧ H p = some (.lst xs) ∧ atI xs i = some v ∧ Q v H
theorem ix_listD {X : Cx} : IxR X rIxD := by
  intro value slice pins s σ H x y v u Q I rx ry h hs
  obtain ⟨p, xs, i, z, e1, e2, hq, he, q⟩ := h
  exact ix_list value slice pins s σ H x y v u Q I rx ry ⟨p, xs, i, z, e1, e2, SqL.of hq, he, q⟩ hs
theorem sc_int {a b : Int} : scal (.int a) (.int b) = true := rfl
theorem at3_0 {a b c : V} : atI [a, b, c] 0 = some a := rfl
theorem at3_1 {a b c : V} : atI [a, b, c] 1 = some b := rfl
theorem at3_2 {a b c : V} : atI [a, b, c] 2 = some c := rfl
theorem at2_0 {a b : V} : atI [a, b] 0 = some a := rfl
theorem at2_1 {a b : V} : atI [a, b] 1 = some b := rfl
theorem ix3_0 : ixN (0 + 1 + 1 + 1) 0 = some 0 := rfl
theorem ix3_1 : ixN (0 + 1 + 1 + 1) 1 = some 1 := rfl
theorem ix3_2 : ixN (0 + 1 + 1 + 1) 2 = some 2 := rfl
theorem upd2 {H : Hp} {a : Addr} {o o' : HO} : upd (upd H a o) a o' = upd H a o' := by
  funext b
  by_cases e : b = a
  · subst e; rw [upd_same, upd_same]
  · rw [upd_ne e, upd_ne e, upd_ne e]
structure TxtL (mg : Str → Option Value) : Prop where
  abs : mg "abs" = none
  int : mg "int" = none
  range : mg "range" = none
  dict : mg "dict" = none
  list : mg "list" = none
  tuple : mg "tuple" = none
  len : mg "len" = none
  sorted : mg "sorted" = none
  max : mg "max" = none
  min : mg "min" = none
def IsDice (H : Hp) (d : Addr) : Prop := ∃ a b k : Int, H d = some (.lst [.int a, .int b, .int k])
def ExD (d : Addr) (H H' : Hp) : Prop := ∀ b o, b ≠ d → H b = some o → H' b = some o
def spDice : Sp := fun vs H Q _ => ∃ c : Int, vs = [.int c] ∧ ∀ p a b k, H p = none → Q (.ref p) (upd H p (.lst [.int a, .int b, .int k]))
@[irreducible] def spRoll : Sp := fun vs H Q _ => ∃ (d : Addr) (m : Int), vs = [.ref d, .int m] ∧ IsDice H d ∧ 0 < m ∧ m ≤ 100000000 ∧
  ∀ (r : Int) a b k, 0 ≤ r → r < m → Q (.int r) (upd H d (.lst [.int a, .int b, .int k]))
section
variable {P : Program} {w : World} {K : PySem.W.Frag} {mg : Str → Option Value} {base : Heap} {f : Addr} {fd : FuncData}
theorem scDice : FnScope ["cell"] ["cell"] (defScope sDice) := ⟨rfl, rfl, rfl, by decide +kernel, rfl, by decide +kernel, by decide +kernel⟩
theorem ok_dice (F : FnP K "_law_dice" "_law_dice" sDice [] f fd) (T : TxtL mg) : FnOk P w K mg base CX0 1 f fd ["cell"] spDice := by
  refine F.ok scDice (fun vs H Q E h => ?_) (fun cdv A outer s H vs Q E hr h => ?_)
  · obtain ⟨c, rfl, _⟩ := h; rfl
  · obtain ⟨c, rfl, k⟩ := h
    refine ⟨_, PSs.nox <| pss_cons (ps_if (pt_chain op_lt op_lt (pe_op op_sub pe_int pe_int) (pv 0) pe_int)
        (pss_one (ps_ret (pe_lst (pa_cons (pe_callB call_abs (by rfl) T.abs (by decide +kernel) (pa_cons (pv 0) pa_nil)) (pa_cons pe_int (pa_cons pe_int pa_nil)))))) pss_nil)
      (pss_one (ps_ret (pe_lst (pa_cons (pv 0) (pa_cons (pe_op op_add pe_int (pe_op op_mod (pe_callTy call_int1 (by rfl) T.int (by decide +kernel) (pa_cons (pv 0) pa_nil)) pe_int))
        (pa_cons (pe_callTy call_int1 (by rfl) T.int (by decide +kernel) (pa_cons (pe_cmpR op_ge (pv 0) (pe_op op_pow pe_int pe_int) (nomark _)) pa_nil)) pa_nil)))))), ?_⟩
    simp only [tSeq, tIfS, tIf, tTest, tChain, tOp, tC, tVar, tRet, tLst, tTup, tCons, tCB, tNil, tAsg, gName, tCall, tDrop, tOr, tAnd, tNot, gSub, rI0, rI, tNext, L2.start, List.set_cons_zero, List.set_cons_succ, List.map, List.replicate, List.length, List.append_nil, List.getElem?_cons_zero, List.getElem?_cons_succ, List.cons_append, List.nil_append, Option.some.injEq, exists_eq_left', exists_eq_left, exists_and_left, V.int.injEq, V.ref.injEq, List.cons.injEq, and_true, true_and, V.bl.injEq, reduceCtorEq, false_and, and_false, exists_false, or_false, false_or, HO.lst.injEq]
    have hs : 0 + 1 + 1 + 1 ≤ sizeLine := by decide
    have hp : CPow 10 18 := by unfold CPow; decide
    have h9 : (0 : Int) < 1009 := by decide
    split
    · split
      · exact ⟨hs, fun p e => k p _ _ _ e⟩
      · exact ⟨h9, hp, hs, fun p e => k p _ _ _ e⟩
    · rw [if_neg (fun z => z)]
      exact ⟨h9, hp, hs, fun p e => k p _ _ _ e⟩
theorem scRoll : FnScope ["dice", "many", "found"] ["dice", "many"] (defScope sRoll) := ⟨rfl, rfl, rfl, by decide +kernel, rfl, by decide +kernel, by decide +kernel⟩
theorem ok_roll (F : FnP K "_law_roll" "_law_roll" sRoll [] f fd) (T : TxtL mg) : FnOk P w K mg base CX0 1 f fd ["dice", "many"] spRoll := by
  refine F.ok scRoll (fun vs H Q E h => ?_) (fun cdv A outer s H vs Q E hr h => ?_)
  · unfold spRoll at h
    obtain ⟨d, m, rfl, _⟩ := h; rfl
  · unfold spRoll at h
    obtain ⟨d, m, rfl, ⟨a, b, k, hd⟩, h0, h1, q⟩ := h
    refine ⟨_, PSs.nox <| pss_cons (ps_if (PW.pt (pw_or (pt_cmpR op_eq (pe_ix ix_listD (pv 0) pe_int (fun _ _ => rfl)) pe_int (nomark _)) (pw_or1 (PW.pt (pw_and (pt_cmpR op_eq (pe_ix ix_listD (pv 0) pe_int (fun _ _ => rfl)) pe_int (nomark _)) (pw_and1 (pt_cmpR op_gt (pe_ix ix_listD (pv 0) pe_int (fun _ _ => rfl)) pe_int (nomark _))))))))
        (pss_cons (ps_set (i := 2) scRoll.nd rfl (Or.inl rfl) (pe_op op_mod (pe_callTy call_int1 (by rfl) T.int (by decide +kernel) (pa_cons (pe_ix ix_listD (pv 0) pe_int (fun _ _ => rfl)) pa_nil)) (pv 1)))
          (pss_cons (ps_asg (pe_op op_fdiv (pe_ix ix_listD (pv 0) pe_int (fun _ _ => rfl)) (pv 1)) (pg_sub (pv 0) pe_int set_list)) (pss_one (ps_ret (pv 2))))) pss_nil)
      (pss_cons (ps_asg pe_int (pg_sub (pv 0) pe_int set_list))
      (pss_cons (ps_if (pt_cmpR op_gt (pv 1) pe_int (nomark _)) pss_never pss_nil)
      (pss_cons (ps_asg (pe_op op_mod (pe_callTy call_int1 (by rfl) T.int (by decide +kernel) (pa_cons (pe_op op_add (pe_op op_add (pe_op op_mul (pe_ix ix_listD (pv 0) pe_int (fun _ _ => rfl)) pe_int) (pe_op op_mul (pe_ix ix_listD (pv 0) pe_int (fun _ _ => rfl)) pe_int)) pe_int) pa_nil)) pe_int) (pg_sub (pv 0) pe_int set_list))
      (pss_cons (ps_asg (pe_op op_add (pe_ix ix_listD (pv 0) pe_int (fun _ _ => rfl)) pe_int) (pg_sub (pv 0) pe_int set_list))
      (pss_one (ps_ret (pe_op op_mod (pe_callTy call_int1 (by rfl) T.int (by decide +kernel) (pa_cons (pe_op op_fdiv (pe_ix ix_listD (pv 0) pe_int (fun _ _ => rfl)) pe_int) pa_nil)) (pv 1)))))))), ?_⟩
    have hm : decide ((100000000 : Int) < m) = false := decide_eq_false (by omega)
    simp only [tSeq, tIfS, tIf, tTest, tChain, tOp, tC, tVar, tRet, tLst, tTup, tCons, tCB, tNil, tAsg, gName, tCall, tDrop, tOr, tAnd, tNot, gSub, rI0, rI, tNext, L2.start, List.set_cons_zero, List.set_cons_succ, List.map, List.replicate, List.length, List.append_nil, List.getElem?_cons_zero, List.getElem?_cons_succ, List.cons_append, List.nil_append, Option.some.injEq, exists_eq_left', exists_eq_left, exists_and_left, V.int.injEq, V.ref.injEq, List.cons.injEq, and_true, true_and, V.bl.injEq, reduceCtorEq, false_and, and_false, exists_false, or_false, false_or, HO.lst.injEq, rIxD, rSetL, rEq, sc_int, hd, upd_same, upd2, at3_0, at3_1, at3_2, ix3_0, ix3_1, ix3_2, hm, if_true, if_false, Bool.false_eq_true]
    have g0 : (0 : Int) < 2147483647 := by decide
    have gm : ∀ x : Int, CMul x 48271 := fun x => .inr ⟨by decide, by decide⟩
    have gn : ∀ x : Int, CMul x 69621 := fun x => .inr ⟨by decide, by decide⟩
    have gd : ∀ x : Int, CDiv x 7 := fun x => ⟨by decide, by decide⟩
    have gq : ∀ x : Int, CDiv x m := fun x => ⟨h0, by omega⟩
    have lo : ∀ x : Int, 0 ≤ x % m := fun x => Int.emod_nonneg _ (by omega)
    have hi : ∀ x : Int, x % m < m := fun x => Int.emod_lt_of_pos _ h0
    split
    · exact ⟨h0, gq _, q _ _ _ _ (lo _) (hi _)⟩
    · split
      · split
        · exact ⟨h0, gq _, q _ _ _ _ (lo _) (hi _)⟩
        · exact ⟨gm _, gn _, g0, gd _, h0, q _ _ _ _ (lo _) (hi _)⟩
      · exact ⟨gm _, gn _, g0, gd _, h0, q _ _ _ _ (lo _) (hi _)⟩
end
end K8
set_option Elab.async false
set_option linter.all false
set_option maxRecDepth 100000
set_option maxHeartbeats 4000000
namespace K8
open PySem PySem.Spec PyProof.Rows L2 KB KC KS
@[irreducible] def spRounds (K : PySem.W.Frag) : Sp := fun vs H Q _ => ∃ (s : Addr) (ns : List Int), vs = [.ref s, .int 1] ∧ SqL K H s (ns.map V.int) ∧ ∀ H' p d, Ex H H' → H' p = some (.lst [.ref d]) → IsDice H' d → Q (.ref p) H'
theorem IsDice.upd_ne {H : Hp} {d a : Addr} {o : HO} (h : IsDice H d) (n : H a = none) : IsDice (upd H a o) d := by
  obtain ⟨x, y, z, e⟩ := h
  exact ⟨x, y, z, by rw [L2.upd_ne (ne_of_none e n)]; exact e⟩
theorem Ex.on {H H1 : Hp} {a : Addr} {o : HO} (e : Ex H H1) (n : H a = none) : Ex H (upd H1 a o) := fun b u h => by rw [L2.upd_ne (ne_of_none h n)]; exact e b u h
section
variable {P : Program} {w : World} {K : PySem.W.Frag} {mg : Str → Option Value} {base : Heap} {f fD : Addr} {fd fdD : FuncData}
theorem scRounds : FnScope ["script", "most", "cells", "cell"] ["script", "most"] (defScope sRounds) := ⟨rfl, rfl, rfl, by decide +kernel, rfl, by decide +kernel, by decide +kernel⟩
theorem ok_rounds (F : FnP K "_law_rounds" "_law_rounds" sRounds [] f fd) (T : TxtL mg) (FD : FnP K "_law_dice" "_law_dice" sDice [] fD fdD) (gD : mg "_law_dice" = some (.ref fD)) :
    FnOk P w K mg base CX0 2 f fd ["script", "most"] (spRounds K) := by
  have GD : FnOk P w K mg base CX0 1 fD fdD ["cell"] spDice := ok_dice FD T
  have bD : Binds K fdD ["cell"] [] := FD.bindsN fun _ _ _ _ _ _ us hl => match us, hl with | [_], _ => rfl
  refine F.ok scRounds (fun vs H Q E h => ?_) (fun cdv A outer s H vs Q E hr h => ?_)
  · unfold spRounds at h
    obtain ⟨c, d, rfl, _⟩ := h; rfl
  · unfold spRounds at h
    obtain ⟨a, ns, rfl, hS, q⟩ := h
    refine ⟨_, PSs.nox <| pss_cons (ps_set (i := 2) scRounds.nd rfl (Or.inl rfl) (pe_slice sl_list (pv 0) po_none (po_some (pv 1))))
      (pss_cons (ps_if (pt_cmpR (op_eqD hr.units) (pv 2) (pe_lst pa_nil) (nomark _)) (pss_one (ps_set (i := 2) scRounds.nd rfl (Or.inl rfl) (pe_lst (pa_cons pe_int pa_nil)))) pss_nil)
      (pss_one (ps_ret (pe_lc (own := [("cell", 3)]) (g := gName 3) (tt := tYes) rfl scRounds.nd (pi_list (pv 2)) (blkOk_by (N := ["script", "most", "cells", "cell"]) (sc := defScope sRounds) (by decide +kernel))
        (fun _ _ _ _ _ => pg_name (i := 3) scRounds.nd rfl (Or.inl rfl)) (fun _ _ _ _ _ => pts_nil)
        (fun _ _ _ _ _ => pe_call GD hr rfl gD FD.kp bD .nil pass0 (pa_cons (pv 3) pa_nil)))))), ?_⟩
    have fin : ∀ (c : Addr) (n : Int) (H1 : Hp), Ex H H1 → H1 c = some (.lst [.int n]) →
        (tRet (tLc (iList K (tVar 2)) (gName 3) tYes (tCall spDice [] E0 (tCons (tVar 3) tNil)) [3])) { nx := fun _ H' => Q .non H', rt := Q } [some (.ref a), some (.int 1), some (.ref c), none] H1 := by
      intro c n H1 e1 hc
      refine ⟨_, rfl, c, rfl, ⟨_, SqL.of hc⟩, fun D hD => lc_list (xs := [V.int n])
        (fun i H2 => Ex H1 H2 ∧ ((i = 0 ∧ H2 D = some (.lst [])) ∨ (i = 1 ∧ ∃ d, H2 D = some (.lst [.ref d]) ∧ IsDice H2 d))) ?_ ?_ ?_ ?_⟩
      · exact ⟨Ex.upd hD, .inl ⟨rfl, upd_same⟩⟩
      · rintro i H2 _ ⟨e2, _⟩
        exact SqL.of (e2 c _ hc)
      · rintro i x H2 hx ⟨e2, h2⟩
        rcases h2 with ⟨rfl, h2⟩ | ⟨rfl, _⟩
        · cases hx
          refine ⟨rfl, ?_⟩
          refine ⟨_, rfl, n, rfl, fun p x y z hp => ⟨[], ?_, (by decide), ?_⟩⟩
          · rw [L2.upd_ne (ne_of_none h2 hp)]; exact h2
          · refine ⟨Ex.on (e2.trans (Ex.upd hp)) hD, .inr ⟨rfl, p, upd_same, x, y, z, ?_⟩⟩
            rw [L2.upd_ne (fun e => by rw [e, h2] at hp; cases hp), upd_same]
        · cases hx
      · rintro H2 ⟨e2, h2⟩
        rcases h2 with ⟨h, _⟩ | ⟨_, d, h2, h3⟩
        · cases h
        · exact q H2 D d (e1.trans e2) h2 h3
    refine ⟨_, rfl, _, rfl, 1, rfl, a, _, rfl, hS, fun p hp => ?_⟩
    cases ns with
    | nil =>
      refine ⟨_, rfl, (by decide), fun p2 hp2 => ⟨.list [], .list [], .lst (.inl (.inl ?_)) .nil, .lst (.inl (.inl upd_same)) .nil, rfl, rfl, true, rfl, ?_⟩⟩
      · rw [L2.upd_ne (ne_of_none upd_same hp2)]; exact upd_same
      · refine ⟨(by decide), fun p3 hp3 => fin p3 0 _ ?_ upd_same⟩
        exact ((Ex.upd hp).trans (Ex.upd hp2)).trans (Ex.upd hp3)
    | cons n r =>
      have e : cutV ((n :: r).map V.int) none (some 1) = [V.int n] := by
        unfold cutV HT.sIx
        simp
      rw [e] at *
      refine ⟨_, rfl, (by decide), fun p2 hp2 => ⟨.list [.int n], .list [], .lst (.inl (.inl ?_)) (.cons (.int _) .nil), .lst (.inl (.inl upd_same)) .nil, rfl, rfl, false, rfl, ?_⟩⟩
      · rw [L2.upd_ne (ne_of_none upd_same hp2)]; exact upd_same
      · refine fin p n _ ((Ex.upd hp).trans (Ex.upd hp2)) ?_
        rw [L2.upd_ne (ne_of_none upd_same hp2)]; exact upd_same
end
end K8
set_option Elab.async false
set_option linter.all false
set_option maxRecDepth 100000
set_option maxHeartbeats 4000000
namespace K8
open PySem PySem.Spec PyProof.Rows L2 KB KC KS LamX Q1 R8
theorem ifT {c A B : Prop} [Decidable c] (h : c) (a : A) : if c then A else B := by rw [if_pos h]; exact a
theorem ifF {c A B : Prop} [Decidable c] (h : ¬ c) (b : B) : if c then A else B := by rw [if_neg h]; exact b
theorem paired_snoc' {α β : Type} {R : α → β → Prop} {l : List α} {m : List β} {a : α} {b : β} (p : Paired R l m) (h : R a b) : Paired R (l ++ [a]) (m ++ [b]) := paired_app p (.cons h .nil)
theorem paired_len {α β : Type} {R : α → β → Prop} : ∀ {l : List α} {m : List β}, Paired R l m → l.length = m.length
  | _, _, .nil => rfl
  | _, _, .cons _ t => by rw [List.length_cons, List.length_cons, paired_len t]
def KT' (H H' : Hp) : Prop := ∀ b xs, H b = some (.tup xs) → H' b = some (.tup xs)
theorem lcG {J : It} {n : Nat} {G : Hp → Prop} {Y : Nat → Hp → V → Hp → Prop} (w : Walk J n G Y) {α : Type} (R : Hp → V → α → Prop) (out : Nat → Option α) (stab : ∀ H H' v a, KT' H H' → R H v a → R H' v a)
    {g : TG} {tt : TT} {te : TE} {vs : List Nat} {σ : L2.St} {HL : Hp} {D : Addr} {Qd : Hp → Prop} (hD : HL D = none) (hz : n ≤ 1000000) (hG : ∀ H, Ex HL H → G H) (hY : ∀ i H x H1, i < n → Ex HL H → Y i H x H1 → Ex H H1)
    (turn : ∀ (i : Nat) (x : V) (H H1 : Hp) (R0 : V → Hp → Prop) (N0 : Hp → Prop), i < n → Ex HL H → Y i H x H1 → (out i = none → ∀ H2, Ex H1 H2 → N0 H2) → (∀ a, out i = some a → ∀ H2 y, Ex H1 H2 → R H2 y a → R0 y H2) →
      g x (wipe σ vs) H1 fun σ2 H2 => wipe σ2 vs = wipe σ vs ∧ tt σ2 H2 fun b H3 => if b = true then te σ2 H3 R0 else N0 H3)
    (fin : ∀ H xs, Ex HL H → H D = some (.lst xs) → Paired (R H) xs ((List.range n).filterMap out) → Qd H) :
    ∃ W : Nat → Nat → Hp → Prop, (∃ m, W 0 m (upd HL D (.lst []))) ∧ ∀ i m H, W i m H →
      (J.stop i H ∧ Qd H) ∨ (J.go i H ∧ ∃ Nx : Hp → Prop, (∀ H', Nx H' → ∃ m', m' < m ∧ W (i + 1) m' H') ∧ ∀ x H', J.yld i H x H' → g x (wipe σ vs) H' fun σ2 H2 => wipe σ2 vs = wipe σ vs ∧ tt σ2 H2 fun b H3 =>
        if b = true then te σ2 H3 fun y H4 => ∃ acc, H4 D = some (.lst acc) ∧ acc.length < sizeLine ∧ Nx (upd H4 D (.lst (acc ++ [y]))) else Nx H3) := by
  refine lc_it w (fun i H => Ex HL H ∧ ∃ xs, H D = some (.lst xs) ∧ Paired (R H) xs ((List.range i).filterMap out)) ⟨Ex.upd hD, [], upd_same, .nil⟩ (fun i H _ h => hG H h.1) ?_ fun H ⟨e, xs, hx, hp⟩ => fin H xs e hx hp
  rintro i x H H1 hi ⟨e, xs, hx, hp⟩ hy
  have e1 := hY i H x H1 hi e hy
  have hs : (List.range (i + 1)).filterMap out = (List.range i).filterMap out ++ (out i).toList := by
    rw [List.range_succ, List.filterMap_append]
    cases h : out i <;> simp [h]
  refine turn i x H H1 _ _ hi e hy (fun hn H2 e2 => ?_) fun a ha H2 y e2 hr => ?_
  · refine ⟨(e.trans e1).trans e2, xs, e2 _ _ (e1 _ _ hx), ?_⟩
    rw [hs, hn]
    simpa using paired_mono (fun v b h => stab _ _ v b (fun b' xs' h' => e2 _ _ (e1 _ _ h')) h) hp
  · have hx2 := e2 _ _ (e1 _ _ hx)
    have kt : KT' H2 (upd H2 D (.lst (xs ++ [y]))) := fun b ys h => by
      rw [L2.upd_ne (fun z => by rw [z, hx2] at h; cases h)]; exact h
    refine ⟨xs, hx2, ?_, Ex.on ((e.trans e1).trans e2) hD, xs ++ [y], upd_same, ?_⟩
    · have l1 := paired_len hp
      have l2 := List.length_filterMap_le out (List.range i)
      rw [List.length_range] at l2
      have : sizeLine = 16777216 := rfl
      omega
    · rw [hs, ha]
      exact paired_snoc' (paired_mono (fun v b h => stab _ _ v b (fun b' xs' h' => kt _ _ (e2 _ _ (e1 _ _ h'))) h) hp) (stab _ _ _ _ kt hr)
def RInt : Hp → V → Int → Prop := fun _ v a => v = .int a
def RStr : Hp → V → Str → Prop := fun _ v a => v = .str a
def RPair : Hp → V → Sp2 → Prop := fun H v p => ∃ t, v = .ref t ∧ H t = some (.tup [.int p.1, .int p.2])
theorem RPair.stab : ∀ H H' v a, KT' H H' → RPair H v a → RPair H' v a := fun H H' v a k ⟨t, e, h⟩ => ⟨t, e, k _ _ h⟩
theorem RInt.stab : ∀ H H' v a, KT' H H' → RInt H v a → RInt H' v a := fun _ _ _ _ _ h => h
theorem RStr.stab : ∀ H H' v a, KT' H H' → RStr H v a → RStr H' v a := fun _ _ _ _ _ h => h
theorem rint_map {H : Hp} : ∀ {xs : List V} {ns : List Int}, Paired (RInt H) xs ns → xs = ns.map V.int
  | _, _, .nil => rfl
  | _, _, .cons h t => by rw [List.map_cons, ← rint_map t]; rw [show _ = _ from h]
theorem rstr_map {H : Hp} : ∀ {xs : List V} {ns : List Str}, Paired (RStr H) xs ns → xs = ns.map V.str
  | _, _, .nil => rfl
  | _, _, .cons h t => by rw [List.map_cons, ← rstr_map t]; rw [show _ = _ from h]
theorem rpair_ps {H : Hp} : ∀ {xs : List V} {S : List Sp2}, Paired (RPair H) xs S → ∃ us, xs = us.map V.ref ∧ Ps H us S
  | _, _, .nil => ⟨[], rfl, .nil⟩
  | _, _, .cons ⟨t, e, h⟩ r => by
    obtain ⟨us, rfl, h2⟩ := rpair_ps r
    exact ⟨t :: us, by rw [e]; rfl, .cons h h2⟩
theorem range_fm {α β : Type} (f : α → Option β) : ∀ xs : List α, (List.range xs.length).filterMap (fun i => xs[i]?.bind f) = xs.filterMap f := by
  intro xs
  induction xs with
  | nil => rfl
  | cons a xs ih =>
    rw [List.length_cons, List.range_succ_eq_map, List.filterMap_cons, List.filterMap_map]
    have e : ((fun i => ((a :: xs)[i]?).bind f) ∘ Nat.succ) = fun i => xs[i]?.bind f := by
      funext i
      simp
    rw [e, ih]
    simp [List.filterMap_cons]
theorem yat_ex {xs : List V} {i : Nat} {H H1 : Hp} {x : V} (h : YAt xs i H x H1) : Ex H H1 := by
  obtain ⟨rfl, _⟩ := h
  exact Ex.refl _
theorem yfn_ex {f : Nat → V} {i : Nat} {H H1 : Hp} {x : V} (h : YFn f i H x H1) : Ex H H1 := by
  obtain ⟨rfl, _⟩ := h
  exact Ex.refl _
theorem pf {X : Cx} (i : Nat) {f x : Str} {p1 p2 : Pos} (hN : X.N[i]? = some x := by rfl) (hv : Vis X.env.scope x := by first | exact .inl rfl | exact .inr (.inl rfl) | exact .inr (.inr rfl) | exact .inr rfl) (hd : (x == ("__debug__" : Str)) = false := by decide) (hcd : (x == ("__classdict__" : Str)) = false := by decide)
    (hb : attributeBase (.Name x p1) f X.env (eval (.Name x p1) X.env) = eval (.Name x p1) X.env := by rfl) : PE X (.Attribute (.Name x p1) f p2) (tFld X.K (tVar i) f) :=
  pe_fld (pe_var (i := i) hN hv hd hcd) hb
def veB : List Value := [.type "ValueError", .type "Exception", .type "BaseException", .type "object"]
structure TxtJ (K : PySem.W.Frag) (mg : Str → Option Value) (CJ : Addr) : Prop where
  g : mg "JobError" = some (.ref CJ)
  x : PySem.W.excIn K CJ veB "ValueError.__new__" = true
  k : PySem.W.keepIn K (.ref CJ) = true
  b : PySem.W.subIn K (.ref CJ) (.type "BaseException") = some true
  t : PySem.W.typeIn K (.ref CJ) = some (.type "type")
  e : PySem.W.exmOne K (.ref CJ) (.ref CJ) = some true
structure TxtW (K : PySem.W.Frag) (mg : Str → Option Value) (C : Addr) : Prop where
  cl : Cls K C
  nL : NoAttr K C "length"
  nS : NoAttr K C "step"
  gC : mg "Windows" = some (.ref C)
abbrev wF (l s : Int) : List (Str × V) := [("length", .int l), ("step", .int s)]
theorem wF_m {l s : Int} {m : Str} (h1 : (m == ("length" : Str)) = false) (h2 : (m == ("step" : Str)) = false) : (wF l s).lookup m = none := by
  simp only [List.lookup, h1, h2]
@[irreducible] def spWInit (C CJ : Addr) : Sp := fun vs H Q E => ∃ (p dx : Addr) (l s : Int), vs = [.ref p, .int l, .int s] ∧ H p = some (.ins C dx []) ∧ (¬ (0 < s ∧ s ≤ l) → E (.ref CJ) none H) ∧ (0 < s ∧ s ≤ l → Q .non (upd H p (.ins C dx (wF l s))))
section
variable {P : Program} {w : World} {K : PySem.W.Frag} {mg : Str → Option Value} {base : Heap} {C CJ f : Addr} {fd : FuncData}
theorem scWI : FnScope ["self", "length", "step"] ["self", "length", "step"] (defScope (sWM 0)) := ⟨rfl, rfl, rfl, by decide +kernel, rfl, by decide +kernel, by decide +kernel⟩
theorem ok_winit (F : FnP K "__init__" "Windows.__init__" (sWM 0) [] f fd) (B : TxtW K mg C) (J : TxtJ K mg CJ) : FnOk P w K mg base (L2.CX P w) 1 f fd ["self", "length", "step"] (spWInit C CJ) := by
  refine F.ok scWI (fun vs H Q E h => ?_) (fun cdv A outer s H vs Q E hr h => ?_)
  · unfold spWInit at h
    obtain ⟨_, _, _, _, rfl, _⟩ := h; rfl
  · unfold spWInit at h
    obtain ⟨p, dx, l, st, rfl, hp, bad, good⟩ := h
    refine ⟨_, pss_cons (ps_if (pt_not (pt_chain op_lt op_le pe_int (pv 2) (pv 1)))
      (pss_one (ps_raise rfl (takes_of rfl rfl rfl rfl) (pmk_own PySem.F.excBase_ValueError J.x J.g J.k (raises_own J.b J.t) rfl))) pss_nil)
      (PSs.nox <| pss_cons (ps_fld (pv 0) (pv 1) rfl) (pss_one (ps_fld (pv 0) (pv 2) rfl))), ?_⟩
    have e2 : upd (upd H p (.ins C dx (putF "length" (.int l) []))) p (.ins C dx (putF "step" (.int st) [("length", .int l)])) = upd H p (.ins C dx (wF l st)) := upd2
    refine ⟨_, rfl, _, _, rfl, rfl, _, rfl, ?_⟩
    by_cases c1 : 0 < st
    · rw [decide_eq_true c1]
      refine iteT ⟨_, rfl, _, _, rfl, rfl, _, rfl, ?_⟩
      by_cases c2 : st ≤ l
      · rw [decide_eq_true c2]
        refine ifF (by decide) ?_
        exact ⟨_, rfl, _, rfl, p, C, dx, [], rfl, hp, B.cl, B.nL, by decide, _, rfl, _, rfl, p, C, dx, [("length", .int l)], rfl, upd_same, B.cl, B.nS, (by show 1 < 1000; decide), by rw [e2]; exact good ⟨c1, c2⟩⟩
      · rw [decide_eq_false c2]
        exact ifT rfl (bad fun h => c2 h.2)
    · rw [decide_eq_false c1]
      exact iteF ⟨_, rfl, ifT rfl (bad fun h => c1 h.1)⟩
theorem winit_step {C CJ : Addr} {H : Hp} {p dx : Addr} {l s : Int} {Q : VK} {E : XK} (hp : H p = some (.ins C dx [])) (bad : ¬ (0 < s ∧ s ≤ l) → E (.ref CJ) none H) (good : 0 < s ∧ s ≤ l → Q .non (upd H p (.ins C dx (wF l s)))) : spWInit C CJ [.ref p, .int l, .int s] H Q E := by
  unfold spWInit
  exact ⟨p, dx, l, s, rfl, hp, bad, good⟩
def mx (a b : Int) : Int := if b > a then b else a
def firstW (t s l : Int) : Int := mx ((t - l) / s + 1) 0
def cntW (t s l : Int) : Nat := (t / s + 1 - firstW t s l).toNat
def begW (t s l : Int) : List Int := (List.range (cntW t s l)).filterMap fun i => some ((firstW t s l + (i : Nat)) * s)
def progW (t s l : Int) : List Sp2 := (begW t s l).filterMap fun b => some (b, b + l)
@[irreducible] def spAround (C : Addr) : Sp := fun vs H Q _ => ∃ (p dx : Addr) (l s t : Int), vs = [.ref p, .int t] ∧ H p = some (.ins C dx (wF l s)) ∧ 0 < s ∧ s ≤ l ∧ l ≤ 1000 ∧ 0 ≤ t ∧ t ≤ 1000 ∧
  ∀ H' q us, Ex H H' → H' q = some (.tup (us.map V.ref)) → Ps H' us (progW t s l) → Q (.ref q) H'
abbrev nAr : List Str := ["self", "time", "first", "begins", "number", "begin"]
theorem scAr : FnScope nAr ["self", "time"] (defScope (sWM 1)) := ⟨rfl, rfl, rfl, by decide +kernel, rfl, by decide +kernel, by decide +kernel⟩
theorem firstW_b {t s l : Int} (hs : 0 < s) (hl : s ≤ l) (h0 : 0 ≤ t) (h1 : t ≤ 1000) : 0 ≤ firstW t s l ∧ firstW t s l ≤ 1001 ∧ 0 ≤ t / s ∧ t / s ≤ 1000 := by
  have a := Int.ediv_le_self (b := s) h0
  have b := Int.ediv_nonneg h0 (Int.le_of_lt hs)
  have c : (t - l) / s ≤ t / s := Int.ediv_le_ediv hs (by omega)
  unfold firstW mx
  split <;> omega
theorem ok_around (F : FnP K "around" "Windows.around" (sWM 1) [] f fd) (B : TxtW K mg C) (T : TxtL mg) : FnOk P w K mg base CX0 1 f fd ["self", "time"] (spAround C) := by
  refine F.ok scAr (fun vs H Q E h => ?_) (fun cdv A outer s H vs Q E hr h => ?_)
  · unfold spAround at h
    obtain ⟨_, _, _, _, _, rfl, _⟩ := h; rfl
  · unfold spAround at h
    obtain ⟨p, dx, l, st, t, rfl, hp, s0, sl, l1, t0, t1, fin⟩ := h
    refine ⟨_, PSs.nox <| pss_cons (ps_set (i := 2) scAr.nd rfl (Or.inl rfl) (pe_callB (call_max2 rfl) (by rfl) T.max (by decide +kernel) (pa_cons (pe_op op_add (pe_op op_fdiv (pe_op op_sub (pv 1) (pf 0)) (pf 0)) pe_int) (pa_cons pe_int pa_nil))))
      (pss_cons (ps_setLc (i := 3) (own := [("number", 4)]) (g := gName 4) (tt := tYes) (te := tOp (rI CMul fun i j => .int (i * j)) (tVar 4) (tFld K (tVar 0) "step")) rfl scAr.nd rfl rfl (sw_true rfl rfl rfl (by decide +kernel)) (pi_range2 (by rfl) T.range (pa_cons (pv 2) (pa_cons (pe_op op_add (pe_op op_fdiv (pv 1) (pf 0)) pe_int) pa_nil))) (blkOk_by (N := nAr) (sc := defScope (sWM 1)) (by decide +kernel))
        (fun _ _ _ _ _ => pg_name (i := 4) scAr.nd rfl (Or.inl rfl)) (fun _ _ _ _ _ => pts_nil) (fun _ _ _ _ _ => pe_op op_mul (pv 4) (pf 0)))
      (pss_one (ps_ret (pe_callTy call_tuple_of (by rfl) T.tuple (by decide +kernel) (pa_cons (pe_lc (own := [("begin", 5)]) (g := gName 5) (tt := tYes) (te := tTup (tCons (tVar 5) (tCons (tOp (rI0 fun i j => .int (i + j)) (tVar 5) (tFld K (tVar 0) "length")) tNil))) rfl scAr.nd (pi_list (pv 3)) (blkOk_by (N := nAr) (sc := defScope (sWM 1)) (by decide +kernel))
        (fun _ _ _ _ _ => pg_name (i := 5) scAr.nd rfl (Or.inl rfl)) (fun _ _ _ _ _ => pts_nil) (fun _ _ _ _ _ => pe_tup (pa_cons (pv 5) (pa_cons (pe_op op_add (pv 5) (pf 0)) pa_nil)))) pa_nil))))), ?_⟩
    obtain ⟨b1, b2, b3, b4⟩ := firstW_b (t := t) s0 sl t0 t1
    have fld : ∀ {H' : Hp}, Ex H H' → H' p = some (.ins C dx (wF l st)) := fun e => e _ _ hp
    have gd : ∀ x : Int, CDiv x st := fun x => ⟨s0, by omega⟩
    have one : 2 ≤ sizeLine := by decide
    refine ⟨_, rfl, _, rfl, p, C, dx, _, _, rfl, hp, B.cl, B.nL, rfl, _, _, rfl, rfl, _, rfl, p, C, dx, _, _, rfl, hp, B.cl, B.nS, rfl, _, _, rfl, rfl, gd _, _, _, rfl, rfl, _, _, rfl, ?_⟩
    refine ⟨_, rfl, _, rfl, _, rfl, p, C, dx, _, _, rfl, hp, B.cl, B.nS, rfl, _, _, rfl, rfl, gd _, _, _, rfl, rfl, firstW t st l, _, rfl, ⟨by omega, by omega, by omega, by omega⟩, fun D hD => ?_⟩
    refine lcG walk_range RInt (fun i => some ((firstW t st l + (i : Nat)) * st)) RInt.stab hD (by omega) (fun _ _ => trivial) (fun i H3 x H4 _ _ h => yfn_ex h) (fun i x H3 H4 R0 N0 hi e3 hy hn hsm => ?_) (fun H3 xs e3 hx hps => ?_)
    · obtain ⟨rfl, rfl⟩ := hy
      have hc : CMul (firstW t st l + (i : Nat)) st := .inl ⟨by omega, by omega⟩
      exact ⟨rfl, _, rfl, _, rfl, p, C, dx, _, _, rfl, e3 _ _ hp, B.cl, B.nS, rfl, _, _, rfl, rfl, hc, hsm _ rfl _ _ (Ex.refl _) rfl⟩
    · rw [rint_map hps] at hx
      have hlen : (begW t st l).length ≤ 1001 := by
        have := List.length_filterMap_le (fun i => some ((firstW t st l + (i : Nat)) * st)) (List.range (cntW t st l))
        rw [List.length_range] at this
        have h2 : cntW t st l ≤ 1001 := by unfold cntW; omega
        show (List.filterMap _ _).length ≤ 1001
        omega
      refine ⟨_, rfl, D, rfl, ⟨_, SqL.of hx⟩, fun D2 hD2 => ?_⟩
      refine lcG walk_list RPair (fun j => (begW t st l)[j]?.bind fun b => some (b, b + l)) RPair.stab hD2 (by rw [List.length_map]; exact Nat.le_trans hlen (by decide)) (fun H5 e5 => SqL.of (e5 _ _ hx)) (fun i H5 x H6 _ _ h => yat_ex h) (fun i x H5 H6 R0 N0 hi e5 hy hn hsm => ?_) (fun H5 xs5 e5 hx5 hps5 => ?_)
      · obtain ⟨rfl, hxi⟩ := hy
        rw [List.getElem?_map] at hxi
        obtain ⟨b, hb, rfl⟩ := Option.map_eq_some_iff.mp hxi
        refine ⟨rfl, _, rfl, _, rfl, _, rfl, p, C, dx, _, _, rfl, e5 _ _ (e3 _ _ hp), B.cl, B.nL, rfl, _, _, rfl, rfl, one, fun q hq => ?_⟩
        exact hsm (b, b + l) (by rw [show (begW t st l)[i]? = some b from hb]; rfl) _ _ (Ex.upd hq) ⟨q, rfl, upd_same⟩
      · rw [List.length_map] at hps5
        have hps5' : Paired (RPair H5) xs5 ((List.range (begW t st l).length).filterMap fun j => (begW t st l)[j]?.bind fun b => some (b, b + l)) := hps5
        rw [range_fm] at hps5'
        obtain ⟨us, rfl, ps⟩ := rpair_ps hps5'
        refine ⟨D2, _, rfl, .inl ⟨SqL.of hx5, fun q hq => ?_⟩⟩
        refine fin _ q us ((e3.trans e5).trans (Ex.upd hq)) upd_same (ps.ex fun b xs h => Ex.upd hq _ _ h)
end
end K8
set_option Elab.async false
set_option linter.all false
set_option maxRecDepth 100000
set_option maxHeartbeats 4000000
namespace K8
open PySem PySem.Spec PyProof.Rows L2 KB KC KS LamX Q1 R8
def rIxP : R2 := fun x y H Q => ∃ p xs i v, x = .ref p ∧ y = .int i ∧ H p = some (.tup xs) ∧ atI xs i = some v ∧ Q v H
theorem ix_tupD {X : Cx} : IxR X rIxP := by
  intro value slice pins s σ H x y v u Q I rx ry h hs
  obtain ⟨p, xs, i, z, e1, e2, hq, he, q⟩ := h
  exact ix_tup value slice pins s σ H x y v u Q I rx ry ⟨p, xs, i, z, e1, e2, SqT.of hq, he, q⟩ hs
structure TxtS (K : PySem.W.Frag) (mg : Str → Option Value) (C : Addr) : Prop where
  cl : Cls K C
  nG : NoAttr K C "gap"
  gC : mg "Sessions" = some (.ref C)
abbrev sF (g : Int) : List (Str × V) := [("gap", .int g)]
theorem sF_m {g : Int} {m : Str} (h1 : (m == ("gap" : Str)) = false) : (sF g).lookup m = none := by
  simp only [List.lookup, h1]
@[irreducible] def spSInit (C CJ : Addr) : Sp := fun vs H Q E => ∃ (p dx : Addr) (g : Int), vs = [.ref p, .int g] ∧ H p = some (.ins C dx []) ∧ (g < 1 → E (.ref CJ) none H) ∧ (¬ g < 1 → Q .non (upd H p (.ins C dx (sF g))))
section
variable {P : Program} {w : World} {K : PySem.W.Frag} {mg : Str → Option Value} {base : Heap} {C CJ f : Addr} {fd : FuncData}
theorem scSI : FnScope ["self", "gap"] ["self", "gap"] (defScope (sSM 0)) := ⟨rfl, rfl, rfl, by decide +kernel, rfl, by decide +kernel, by decide +kernel⟩
theorem ok_sinit (F : FnP K "__init__" "Sessions.__init__" (sSM 0) [] f fd) (B : TxtS K mg C) (J : TxtJ K mg CJ) : FnOk P w K mg base (L2.CX P w) 1 f fd ["self", "gap"] (spSInit C CJ) := by
  refine F.ok scSI (fun vs H Q E h => ?_) (fun cdv A outer s H vs Q E hr h => ?_)
  · unfold spSInit at h
    obtain ⟨_, _, _, rfl, _⟩ := h; rfl
  · unfold spSInit at h
    obtain ⟨p, dx, g, rfl, hp, bad, good⟩ := h
    refine ⟨_, pss_cons (ps_if (pt_cmpR op_lt (pv 1) pe_int (nomark _))
      (pss_one (ps_raise rfl (takes_of rfl rfl rfl rfl) (pmk_own PySem.F.excBase_ValueError J.x J.g J.k (raises_own J.b J.t) rfl))) pss_nil)
      (PSs.nox <| pss_one (ps_fld (pv 0) (pv 1) rfl)), ?_⟩
    refine ⟨_, rfl, _, _, rfl, rfl, _, rfl, ?_⟩
    by_cases c : g < 1
    · rw [decide_eq_true c]
      exact iteT (bad c)
    · rw [decide_eq_false c]
      refine iteF ?_
      exact ⟨_, rfl, _, rfl, p, C, dx, [], rfl, hp, B.cl, B.nG, by decide, good c⟩
theorem sinit_step {C CJ : Addr} {H : Hp} {p dx : Addr} {g : Int} {Q : VK} {E : XK} (hp : H p = some (.ins C dx [])) (bad : g < 1 → E (.ref CJ) none H) (good : ¬ g < 1 → Q .non (upd H p (.ins C dx (sF g)))) : spSInit C CJ [.ref p, .int g] H Q E := by
  unfold spSInit
  exact ⟨p, dx, g, rfl, hp, bad, good⟩
structure JoinR (g t : Int) (S : List Sp2) (H' : Hp) (r q1 q2 q3 : Addr) (us' us3 : List Addr) (S' : List Sp2) (b e : Int) : Prop where
  r : H' r = some (.tup [.ref q1, .ref q2, .ref q3])
  h1 : H' q1 = some (.tup (us'.map V.ref))
  p1 : Ps H' us' S'
  pm : S'.Perm (others g t S ++ [(b, e)])
  so : S'.Pairwise fun a b => lt2 b a = false
  h2 : H' q2 = some (.tup [.int b, .int e])
  h3 : H' q3 = some (.tup (us3.map V.ref))
  p3 : Ps H' us3 (inner g t S)
  j : Joint g t S b e
@[irreducible] def spJoined (C : Addr) : Sp := fun vs H Q _ => ∃ (p dx a : Addr) (g t : Int) (us : List Addr) (S : List Sp2), vs = [.ref p, .ref a, .int t] ∧ H p = some (.ins C dx (sF g)) ∧ H a = some (.tup (us.map V.ref)) ∧ Ps H us S ∧ S.length ≤ 1000 ∧
  ∀ H' r q1 q2 q3 us' us3 S' b e, Ex H H' → JoinR g t S H' r q1 q2 q3 us' us3 S' b e → Q (.ref r) H'
abbrev nJn : List Str := ["self", "spans", "time", "alone", "inner", "others", "begin", "end", "span"]
theorem scJn : FnScope nJn ["self", "spans", "time"] (defScope (sSM 1)) := ⟨rfl, rfl, rfl, by decide +kernel, rfl, by decide +kernel, by decide +kernel⟩
theorem filt_fm {α : Type} (f : α → Bool) (xs : List α) : xs.filterMap (fun p => if f p = true then some p else none) = xs.filter f := by
  induction xs with
  | nil => rfl
  | cons a xs ih => cases h : f a <;> simp [h, ih]
theorem map_fm {α β : Type} (f : α → β) (xs : List α) : xs.filterMap (fun p => some (f p)) = xs.map f := by
  induction xs with
  | nil => rfl
  | cons a xs ih => simp
theorem at0 {a b : V} : atI [a, b] 0 = some a := rfl
theorem at1 {a b : V} : atI [a, b] 1 = some b := rfl
theorem wipe_set {σ : L2.St} {i : Nat} {x : Option V} : wipe ((wipe σ [i]).set i x) [i] = wipe σ [i] := by
  show ((σ.set i none).set i x).set i none = σ.set i none
  rw [List.set_set, List.set_set]
theorem lc_filt {a D : Addr} {us : List Addr} {S : List Sp2} {HL : Hp} {tt : L2.TT} {i : Nat} {σ : L2.St} {Qd : Hp → Prop} (fl : Sp2 → Bool) (hi : i < σ.length) (ha : HL a = some (.tup (us.map V.ref))) (ps : Ps HL us S) (hl : S.length ≤ 1000) (hD : HL D = none)
    (turn : ∀ (p : Sp2) (t : Addr) (H3 : Hp) (R : Bool → Hp → Prop), Ex HL H3 → H3 t = some (.tup [.int p.1, .int p.2]) → R (fl p) H3 → tt ((wipe σ [i]).set i (some (.ref t))) H3 R)
    (fin : ∀ (H3 : Hp) (us' : List Addr), Ex HL H3 → H3 D = some (.lst (us'.map V.ref)) → Ps H3 us' (S.filter fl) → Qd H3) :
    ∃ W : Nat → Nat → Hp → Prop, (∃ m, W 0 m (upd HL D (.lst []))) ∧ ∀ j m H, W j m H →
      ((Itt K a).stop j H ∧ Qd H) ∨ ((Itt K a).go j H ∧ ∃ Nx : Hp → Prop, (∀ H', Nx H' → ∃ m', m' < m ∧ W (j + 1) m' H') ∧ ∀ x H', (Itt K a).yld j H x H' → (gName i) x (wipe σ [i]) H' fun σ2 H2 => wipe σ2 [i] = wipe σ [i] ∧ tt σ2 H2 fun b H3 =>
        if b = true then (tVar i) σ2 H3 fun y H4 => ∃ acc, H4 D = some (.lst acc) ∧ acc.length < sizeLine ∧ Nx (upd H4 D (.lst (acc ++ [y]))) else Nx H3) := by
  have hlu := paired_len ps
  refine lcG walk_tup RPair (fun j => S[j]?.bind fun p => if fl p = true then some p else none) RPair.stab hD (by rw [List.length_map]; omega) (fun H5 e5 => SqT.of (e5 _ _ ha)) (fun i H5 x H6 _ _ h => yat_ex h) (fun j x H5 H6 R0 N0 hj e5 hy hn hsm => ?_) (fun H5 xs5 e5 hx5 hps5 => ?_)
  · obtain ⟨rfl, hxi⟩ := hy
    rw [List.getElem?_map] at hxi
    obtain ⟨t, ht, rfl⟩ := Option.map_eq_some_iff.mp hxi
    obtain ⟨p, hp, hT⟩ := ps.at ht
    refine ⟨wipe_set, turn p t _ _ e5 (e5 _ _ hT) ?_⟩
    cases hf : fl p with
    | false => exact ifF (by decide) (hn (by rw [hp]; show (if fl p = true then _ else _) = _; rw [hf]; rfl) _ (Ex.refl _))
    | true =>
      refine ifT rfl ⟨_, ?_, hsm p (by rw [hp]; show (if fl p = true then _ else _) = _; rw [hf]; rfl) _ _ (Ex.refl _) ⟨t, rfl, e5 _ _ hT⟩⟩
      rw [List.getElem?_set_self]
      rw [wipe_length]
      exact hi
  · rw [List.length_map, hlu, range_fm, filt_fm] at hps5
    obtain ⟨us', rfl, ps'⟩ := rpair_ps hps5
    exact fin H5 us' e5 hx5 ps'
theorem lc_col {a D : Addr} {us : List Addr} {S : List Sp2} {HL : Hp} {i : Nat} {σ : L2.St} {Qd : Hp → Prop} (c : Sp2 → Int) (k : Int) (hk : ∀ p : Sp2, atI [V.int p.1, V.int p.2] k = some (.int (c p))) (hi : i < σ.length) (ha : HL a = some (.tup (us.map V.ref))) (ps : Ps HL us S) (hl : S.length ≤ 1000) (hD : HL D = none)
    (fin : ∀ (H3 : Hp), Ex HL H3 → H3 D = some (.lst ((S.map c).map V.int)) → Qd H3) :
    ∃ W : Nat → Nat → Hp → Prop, (∃ m, W 0 m (upd HL D (.lst []))) ∧ ∀ j m H, W j m H →
      ((Itt K a).stop j H ∧ Qd H) ∨ ((Itt K a).go j H ∧ ∃ Nx : Hp → Prop, (∀ H', Nx H' → ∃ m', m' < m ∧ W (j + 1) m' H') ∧ ∀ x H', (Itt K a).yld j H x H' → (gName i) x (wipe σ [i]) H' fun σ2 H2 => wipe σ2 [i] = wipe σ [i] ∧ tYes σ2 H2 fun b H3 =>
        if b = true then (tOp rIxP (tVar i) (tC (.int k))) σ2 H3 fun y H4 => ∃ acc, H4 D = some (.lst acc) ∧ acc.length < sizeLine ∧ Nx (upd H4 D (.lst (acc ++ [y]))) else Nx H3) := by
  have hlu := paired_len ps
  refine lcG walk_tup RInt (fun j => S[j]?.bind fun p => some (c p)) RInt.stab hD (by rw [List.length_map]; omega) (fun H5 e5 => SqT.of (e5 _ _ ha)) (fun i H5 x H6 _ _ h => yat_ex h) (fun j x H5 H6 R0 N0 hj e5 hy hn hsm => ?_) (fun H5 xs5 e5 hx5 hps5 => ?_)
  · obtain ⟨rfl, hxi⟩ := hy
    rw [List.getElem?_map] at hxi
    obtain ⟨t, ht, rfl⟩ := Option.map_eq_some_iff.mp hxi
    obtain ⟨p, hp, hT⟩ := ps.at ht
    refine ⟨wipe_set, _, ?_, t, _, k, _, rfl, rfl, e5 _ _ hT, hk p, hsm (c p) (by rw [hp]; rfl) _ _ (Ex.refl _) rfl⟩
    rw [List.getElem?_set_self]
    rw [wipe_length]
    exact hi
  · rw [List.length_map, hlu, range_fm, map_fm] at hps5
    rw [rint_map hps5] at hx5
    exact fin H5 e5 hx5
theorem ok_joined (F : FnP K "joined" "Sessions.joined" (sSM 1) [] f fd) (B : TxtS K mg C) (T : TxtL mg) : FnOk P w K mg base CX0 1 f fd ["self", "spans", "time"] (spJoined C) := by
  refine F.ok scJn (fun vs H Q E h => ?_) (fun cdv A outer s H vs Q E hr h => ?_)
  · unfold spJoined at h
    obtain ⟨_, _, _, _, _, _, _, rfl, _⟩ := h; rfl
  · unfold spJoined at h
    obtain ⟨p, dx, a, g, t, us, S, rfl, hp, ha, hps, hl, fin⟩ := h
    have hu := hr.units
    have hu' : (cxOf CX0 P w K mg base nJn "Sessions.joined" (defScope (sSM 1)) f cdv A outer s H E).nox.A.units + 65 < cLine := by
      have := hr.un
      show (A.deeper _).units + 65 < cLine
      omega
    refine ⟨_, PSs.nox <| pss_cons (ps_set (i := 3) scJn.nd rfl (Or.inr rfl) (pe_tup (pa_cons (pv 2) (pa_cons (pe_op op_add (pv 2) (pf 0)) pa_nil))))
      (pss_cons (ps_set (i := 4) scJn.nd rfl (Or.inr rfl) (pe_callTy call_tuple_of (by rfl) T.tuple (by decide +kernel) (pa_cons (pe_lc (own := [("span", 8)]) (g := gName 8)
          (tt := tAnd (tTest (tOp (rI0 fun i j => .bl (decide (i < j))) (tOp rIxP (tVar 8) (tC (.int 0))) (tOp rIxP (tVar 3) (tC (.int 1))))) (tTest (tOp (rI0 fun i j => .bl (decide (i < j))) (tOp rIxP (tVar 3) (tC (.int 0))) (tOp rIxP (tVar 8) (tC (.int 1)))))) (te := tVar 8) rfl scJn.nd (pi_tup (pv 1)) (blkOk_by (N := nJn) (sc := defScope (sSM 1)) (by decide +kernel))
          (fun _ _ _ _ _ => pg_name (i := 8) scJn.nd rfl (Or.inl rfl)) (fun _ _ _ _ _ => pts_one (PW.pt (pw_and (pt_cmpR op_lt (pe_ix ix_tupD (pv 8) pe_int (fun _ _ => rfl)) (pe_ix ix_tupD (pv 3) pe_int (fun _ _ => rfl)) (nomark _)) (pw_and1 (pt_cmpR op_lt (pe_ix ix_tupD (pv 3) pe_int (fun _ _ => rfl)) (pe_ix ix_tupD (pv 8) pe_int (fun _ _ => rfl)) (nomark _))))))
          (fun _ _ _ _ _ => pv 8)) pa_nil)))
      (pss_cons (ps_setLc (i := 5) (own := [("span", 8)]) (g := gName 8) (tt := tTest (tOp (rInP true) (tVar 8) (tVar 4))) (te := tVar 8) rfl scJn.nd rfl rfl (sw_true rfl rfl rfl (by decide +kernel)) (pi_tup (pv 1)) (blkOk_by (N := nJn) (sc := defScope (sSM 1)) (by decide +kernel))
          (fun _ _ _ _ _ => pg_name (i := 8) scJn.nd rfl (Or.inl rfl)) (fun _ _ _ _ _ => pts_one (pt_cmpR (op_notInP hu') (pv 8) (pv 4) (by rfl))) (fun _ _ _ _ _ => pv 8))
      (pss_cons (ps_set (i := 6) scJn.nd rfl (Or.inl rfl) (pe_callB (cr_min rfl) (by rfl) T.min (by decide +kernel) (pa_cons (pe_op op_cat (pe_lst (pa_cons (pe_ix ix_tupD (pv 3) pe_int (fun _ _ => rfl)) pa_nil))
          (pe_lc (own := [("span", 8)]) (g := gName 8) (tt := tYes) (te := tOp rIxP (tVar 8) (tC (.int 0))) rfl scJn.nd (pi_tup (pv 4)) (blkOk_by (N := nJn) (sc := defScope (sSM 1)) (by decide +kernel))
            (fun _ _ _ _ _ => pg_name (i := 8) scJn.nd rfl (Or.inl rfl)) (fun _ _ _ _ _ => pts_nil) (fun _ _ _ _ _ => pe_ix ix_tupD (pv 8) pe_int (fun _ _ => rfl)))) pa_nil)))
      (pss_cons (ps_set (i := 7) scJn.nd rfl (Or.inl rfl) (pe_callB (cr_max rfl) (by rfl) T.max (by decide +kernel) (pa_cons (pe_op op_cat (pe_lst (pa_cons (pe_ix ix_tupD (pv 3) pe_int (fun _ _ => rfl)) pa_nil))
          (pe_lc (own := [("span", 8)]) (g := gName 8) (tt := tYes) (te := tOp rIxP (tVar 8) (tC (.int 1))) rfl scJn.nd (pi_tup (pv 4)) (blkOk_by (N := nJn) (sc := defScope (sSM 1)) (by decide +kernel))
            (fun _ _ _ _ _ => pg_name (i := 8) scJn.nd rfl (Or.inl rfl)) (fun _ _ _ _ _ => pts_nil) (fun _ _ _ _ _ => pe_ix ix_tupD (pv 8) pe_int (fun _ _ => rfl)))) pa_nil)))
      (pss_one (ps_ret (pe_tup (pa_cons (pe_callTy call_tuple_of (by rfl) T.tuple (by decide +kernel) (pa_cons (pe_callB cr_sortPL (by rfl) T.sorted (by decide +kernel) (pa_cons (pe_op op_cat (pv 5) (pe_lst (pa_cons (pe_tup (pa_cons (pv 6) (pa_cons (pv 7) pa_nil))) pa_nil))) pa_nil)) pa_nil))
          (pa_cons (pe_tup (pa_cons (pv 6) (pa_cons (pv 7) pa_nil))) (pa_cons (pv 4) pa_nil)))))))))), ?_⟩
    have two : 2 ≤ sizeLine := by decide
    have one : 1 ≤ sizeLine := by decide
    refine ⟨_, rfl, _, rfl, _, rfl, p, C, dx, _, _, rfl, hp, B.cl, B.nG, rfl, _, _, rfl, rfl, two, fun q0 hq0 => ?_⟩
    have e1 : Ex H (upd H q0 (.tup [.int t, .int (t + g)])) := Ex.upd hq0
    have al : (upd H q0 (.tup [.int t, .int (t + g)])) q0 = some (.tup [.int t, .int (t + g)]) := upd_same
    generalize upd H q0 (.tup [.int t, .int (t + g)]) = H1 at e1 al
    refine ⟨_, rfl, a, rfl, ⟨_, SqT.of (e1 _ _ ha)⟩, fun D hD => lc_filt (ov g t) (by show 8 < 9; decide) (e1 _ _ ha) (hps.ex fun b xs h => e1 _ _ h) hl hD (fun p' t' H3 R e3 ht hR => ?_) (fun H2 us3 e2 hx ps3 => ?_)⟩
    · have hal := e3 _ _ al
      unfold ov at hR
      refine ⟨_, rfl, t', _, _, _, rfl, rfl, ht, at0, _, rfl, q0, _, _, _, rfl, rfl, hal, at1, _, _, rfl, rfl, _, rfl, ?_⟩
      by_cases c1 : p'.1 < t + g
      · rw [decide_eq_true c1] at hR ⊢
        exact iteT ⟨_, rfl, q0, _, _, _, rfl, rfl, hal, at0, _, rfl, t', _, _, _, rfl, rfl, ht, at1, _, _, rfl, rfl, _, rfl, hR⟩
      · rw [decide_eq_false c1] at hR ⊢
        exact iteF hR
    refine ⟨D, _, rfl, .inl ⟨SqL.of hx, fun q3 hq3 => ?_⟩⟩
    have e3 : Ex H (upd H2 q3 (.tup (us3.map V.ref))) := (e1.trans e2).trans (Ex.upd hq3)
    have al3 : (upd H2 q3 (.tup (us3.map V.ref))) q0 = some (.tup [.int t, .int (t + g)]) := Ex.upd hq3 _ _ (e2 _ _ al)
    have hi3 : (upd H2 q3 (.tup (us3.map V.ref))) q3 = some (.tup (us3.map V.ref)) := upd_same
    have ps3' : Ps (upd H2 q3 (.tup (us3.map V.ref))) us3 (inner g t S) := ps3.ex fun b xs h => Ex.upd hq3 _ _ h
    generalize upd H2 q3 (.tup (us3.map V.ref)) = H3 at e3 al3 hi3 ps3'
    have ili : (inner g t S).length ≤ 1000 := Nat.le_trans (List.length_filter_le _ _) hl
    have ilo : (others g t S).length ≤ 1000 := Nat.le_trans (List.length_filter_le _ _) hl
    have hsl : sizeLine = 16777216 := rfl
    refine ⟨_, rfl, a, rfl, ⟨_, SqT.of (e3 _ _ ha)⟩, fun D4 hD4 => lc_filt (fun s => decide (s ∉ inner g t S)) (by show 8 < 9; decide) (e3 _ _ ha) (hps.ex fun b xs h => e3 _ _ h) hl hD4 (fun p' t' H4 R e4 ht hR => ?_) (fun H4 us4 e4 hx4 ps4 => ?_)⟩
    · refine ⟨_, rfl, _, rfl, t', q3, p', us3, inner g t S, rfl, rfl, ht, e4 _ _ hi3, ps3'.ex fun b xs h => e4 _ _ h, _, rfl, ?_⟩
      have : decide (p' ∉ inner g t S) = !decide (p' ∈ inner g t S) := by simp
      rw [this] at hR
      exact hR
    refine ⟨_, rfl, q0, _, _, _, rfl, rfl, e4 _ _ al3, at0, one, fun l5 hl5 => ?_⟩
    have e5 : Ex H3 (upd H4 l5 (.lst [.int t])) := e4.trans (Ex.upd hl5)
    have hx5 : (upd H4 l5 (.lst [.int t])) D4 = some (.lst (us4.map V.ref)) := Ex.upd hl5 _ _ hx4
    have hl5' : (upd H4 l5 (.lst [.int t])) l5 = some (.lst [.int t]) := upd_same
    have ps5 : Ps (upd H4 l5 (.lst [.int t])) us4 (others g t S) := ps4.ex fun b xs h => Ex.upd hl5 _ _ h
    generalize upd H4 l5 (.lst [.int t]) = H5 at e5 hx5 hl5' ps5
    refine ⟨_, rfl, q3, rfl, ⟨_, SqT.of (e5 _ _ hi3)⟩, fun D6 hD6 => lc_col (fun s => s.1) 0 (fun p => rfl) (by show 8 < 9; decide) (e5 _ _ hi3) (ps3'.ex fun b xs h => e5 _ _ h) ili hD6 (fun H6 e6 hx6 => ?_)⟩
    refine ⟨l5, D6, _, _, rfl, rfl, e6 _ _ hl5', hx6, by rw [List.length_map, List.length_map]; show 1 + _ ≤ _; omega, fun q7 hq7 => ?_⟩
    refine ⟨q7, t :: (inner g t S).map fun s => s.1, rfl, SqL.of upd_same, Nat.succ_pos _, fun b hb hmin => ?_⟩
    have e7 : Ex H5 (upd H6 q7 (.lst ([V.int t] ++ ((inner g t S).map fun s => s.1).map V.int))) := e6.trans (Ex.upd hq7)
    generalize upd H6 q7 (.lst ([V.int t] ++ ((inner g t S).map fun s => s.1).map V.int)) = H7 at e7
    have e37 := e5.trans e7
    refine ⟨_, rfl, q0, _, _, _, rfl, rfl, e37 _ _ al3, at1, one, fun l8 hl8 => ?_⟩
    have e8 : Ex H7 (upd H7 l8 (.lst [.int (t + g)])) := Ex.upd hl8
    have hl8' : (upd H7 l8 (.lst [.int (t + g)])) l8 = some (.lst [.int (t + g)]) := upd_same
    generalize upd H7 l8 (.lst [.int (t + g)]) = H8 at e8 hl8'
    have e38 := e37.trans e8
    refine ⟨_, rfl, q3, rfl, ⟨_, SqT.of (e38 _ _ hi3)⟩, fun D9 hD9 => lc_col (fun s => s.2) 1 (fun p => rfl) (by show 8 < 9; decide) (e38 _ _ hi3) (ps3'.ex fun b xs h => e38 _ _ h) ili hD9 (fun H9 e9 hx9 => ?_)⟩
    refine ⟨l8, D9, _, _, rfl, rfl, e9 _ _ hl8', hx9, by rw [List.length_map, List.length_map]; show 1 + _ ≤ _; omega, fun qa hqa => ?_⟩
    refine ⟨qa, (t + g) :: (inner g t S).map fun s => s.2, rfl, SqL.of upd_same, Nat.succ_pos _, fun e he hmax => ?_⟩
    have ea : Ex H8 (upd H9 qa (.lst ([V.int (t + g)] ++ ((inner g t S).map fun s => s.2).map V.int))) := e9.trans (Ex.upd hqa)
    generalize upd H9 qa (.lst ([V.int (t + g)] ++ ((inner g t S).map fun s => s.2).map V.int)) = Ha at ea
    have e5a := (e7.trans e8).trans ea
    have e3a := e5.trans e5a
    have J : Joint g t S b e := by
      refine ⟨?_, hmin _ List.mem_cons_self, fun s hs => hmin _ (List.mem_cons_of_mem _ (List.mem_map.mpr ⟨s, hs, rfl⟩)), ?_, hmax _ List.mem_cons_self, fun s hs => hmax _ (List.mem_cons_of_mem _ (List.mem_map.mpr ⟨s, hs, rfl⟩))⟩
      · rcases List.mem_cons.mp hb with h | h
        · exact .inl h
        · obtain ⟨s, hs, rfl⟩ := List.mem_map.mp h
          exact .inr ⟨s, hs, rfl⟩
      · rcases List.mem_cons.mp he with h | h
        · exact .inl h
        · obtain ⟨s, hs, rfl⟩ := List.mem_map.mp h
          exact .inr ⟨s, hs, rfl⟩
    refine ⟨_, rfl, _, rfl, _, rfl, two, fun tb htb => ⟨one, fun lb hlb => ?_⟩⟩
    have eb : Ex Ha (upd (upd Ha tb (.tup [.int b, .int e])) lb (.lst [.ref tb])) := (Ex.upd htb).trans (Ex.upd hlb)
    have htb' : (upd (upd Ha tb (.tup [.int b, .int e])) lb (.lst [.ref tb])) tb = some (.tup [.int b, .int e]) := Ex.upd hlb _ _ upd_same
    have hlb' : (upd (upd Ha tb (.tup [.int b, .int e])) lb (.lst [.ref tb])) lb = some (.lst [.ref tb]) := upd_same
    generalize upd (upd Ha tb (.tup [.int b, .int e])) lb (.lst [.ref tb]) = Hb at eb htb' hlb'
    have e5b := e5a.trans eb
    have ps4l := paired_len ps5
    refine ⟨D4, lb, _, _, rfl, rfl, e5b _ _ hx5, hlb', by rw [List.length_map, ps4l]; show _ + 1 ≤ _; omega, fun qc hqc => ?_⟩
    have ec : Ex Hb (upd Hb qc (.lst (us4.map V.ref ++ [.ref tb]))) := Ex.upd hqc
    have hqc' : (upd Hb qc (.lst (us4.map V.ref ++ [.ref tb]))) qc = some (.lst ((us4 ++ [tb]).map V.ref)) := by rw [upd_same, List.map_append]; rfl
    have psc : Ps (upd Hb qc (.lst (us4.map V.ref ++ [.ref tb]))) (us4 ++ [tb]) (others g t S ++ [(b, e)]) := paired_app (ps5.ex fun b xs h => ec _ _ (e5b _ _ h)) (.cons (ec _ _ htb') .nil)
    generalize upd Hb qc (.lst (us4.map V.ref ++ [.ref tb])) = Hc at ec hqc' psc
    refine ⟨qc, us4 ++ [tb], _, rfl, .inl hqc', psc, fun qd us' S' hqd ps' pm so => ?_⟩
    refine ⟨qd, _, rfl, .inl ⟨SqL.of upd_same, fun r1 hr1 => ?_⟩⟩
    have ed : Ex Hc (upd (upd Hc qd (.lst (us'.map V.ref))) r1 (.tup (us'.map V.ref))) := (Ex.upd hqd).trans (Ex.upd hr1)
    have hr1' : (upd (upd Hc qd (.lst (us'.map V.ref))) r1 (.tup (us'.map V.ref))) r1 = some (.tup (us'.map V.ref)) := upd_same
    generalize upd (upd Hc qd (.lst (us'.map V.ref))) r1 (.tup (us'.map V.ref)) = Hd at ed hr1'
    refine ⟨_, rfl, _, rfl, two, fun r2 hr2 => ⟨_, rfl, (by show 3 ≤ sizeLine; decide), fun r hr' => ?_⟩⟩
    have ee : Ex Hd (upd (upd Hd r2 (.tup [.int b, .int e])) r (.tup [.ref r1, .ref r2, .ref q3])) := (Ex.upd hr2).trans (Ex.upd hr')
    have e3e := ((e3a.trans eb).trans ec).trans (ed.trans ee)
    refine fin _ r r1 r2 q3 us' us3 S' b e (e3.trans e3e) ⟨upd_same, ee _ _ hr1', ps'.ex fun b xs h => ee _ _ (ed _ _ h), pm, so, Ex.upd hr' _ _ upd_same, e3e _ _ hi3, ps3'.ex fun b xs h => e3e _ _ h, J⟩
end
end K8
set_option Elab.async false
set_option linter.all false
set_option maxRecDepth 100000
set_option maxHeartbeats 4000000
namespace K8
open PySem PySem.Spec PyProof.Rows L2 KB KC KS LamX Q1 R8
theorem joined_step {C : Addr} {H : Hp} {p dx a : Addr} {g t : Int} {us : List Addr} {S : List Sp2} {Q : VK} {E : XK} (hp : H p = some (.ins C dx (sF g))) (ha : H a = some (.tup (us.map V.ref))) (ps : Ps H us S) (hl : S.length ≤ 1000)
    (fin : ∀ H' r q1 q2 q3 us' us3 S' b e, Ex H H' → JoinR g t S H' r q1 q2 q3 us' us3 S' b e → Q (.ref r) H') : spJoined C [.ref p, .ref a, .int t] H Q E := by
  unfold spJoined
  exact ⟨p, dx, a, g, t, us, S, rfl, hp, ha, ps, hl, fin⟩
theorem around_step {C : Addr} {H : Hp} {p dx : Addr} {l s t : Int} {Q : VK} {E : XK} (hp : H p = some (.ins C dx (wF l s))) (s0 : 0 < s) (sl : s ≤ l) (l1 : l ≤ 1000) (t0 : 0 ≤ t) (t1 : t ≤ 1000)
    (fin : ∀ H' q us, Ex H H' → H' q = some (.tup (us.map V.ref)) → Ps H' us (progW t s l) → Q (.ref q) H') : spAround C [.ref p, .int t] H Q E := by
  unfold spAround
  exact ⟨p, dx, l, s, t, rfl, hp, s0, sl, l1, t0, t1, fin⟩
structure TxtK (K : PySem.W.Frag) (mg : Str → Option Value) (C : Addr) : Prop where
  cl : Cls K C
  nM : NoAttr K C "marks"
  nI : NoAttr K C "idle"
  nN : NoAttr K C "now"
  gC : mg "Marks" = some (.ref C)
abbrev mF (dm di : Addr) (now : Int) : List (Str × V) := [("marks", .ref dm), ("idle", .ref di), ("now", .int now)]
theorem mF_m {dm di : Addr} {now : Int} {m : Str} (h1 : (m == ("marks" : Str)) = false) (h2 : (m == ("idle" : Str)) = false) (h3 : (m == ("now" : Str)) = false) : (mF dm di now).lookup m = none := by
  simp only [List.lookup, h1, h2, h3]
abbrev Tk := List (Str × Int)
def kvT (tk : Tk) : List (Key × V) := tk.map fun p => (Sum.inr p.1, V.int p.2)
def kvI (idl : List Str) : List (Key × V) := idl.map fun n => (Sum.inr n, V.bl true)
structure MarksAt (C : Addr) (H : Hp) (m dm di : Addr) (tk : Tk) (idl : List Str) (now : Int) : Prop where
  o : ∃ dx, H m = some (.ins C dx (mF dm di now))
  d : H dm = some (.dK (kvT tk))
  i : H di = some (.dK (kvI idl))
def lookT (tk : Tk) (n : Str) : Option Int := (tk.find? fun p => decide (p.1 = n)).map (·.2)
theorem valV_kvT (tk : Tk) (n : Str) : valV (kvT tk) (Sum.inr n) = (lookT tk n).map V.int := by
  unfold valV kvT lookT
  rw [List.find?_map]
  have e : ((fun kv : Key × V => decide (kv.1 = Sum.inr n)) ∘ fun p : Str × Int => (Sum.inr p.1, V.int p.2)) = fun p => decide (p.1 = n) := by
    funext p
    simp
  rw [e]
  cases tk.find? fun p => decide (p.1 = n) <;> rfl
theorem lookT_mem {tk : Tk} (nd : (tk.map (·.1)).Nodup) {p : Str × Int} (h : p ∈ tk) : lookT tk p.1 = some p.2 := by
  induction tk with
  | nil => simp at h
  | cons a tk ih =>
    rw [List.map_cons, List.nodup_cons] at nd
    unfold lookT
    rw [List.find?_cons]
    rcases List.mem_cons.mp h with rfl | h
    · simp
    · have : ¬ a.1 = p.1 := fun e => nd.1 (e ▸ List.mem_map.mpr ⟨p, h, rfl⟩)
      simp only [this, decide_false]
      exact ih nd.2 h
theorem lookT_none {tk : Tk} {n : Str} : lookT tk n = none ↔ n ∉ tk.map (·.1) := by
  unfold lookT
  rw [Option.map_eq_none_iff, List.find?_eq_none]
  simp only [decide_eq_true_eq, List.mem_map, not_exists, not_and]
theorem valV_kvI (idl : List Str) (n : Str) : (valV (kvI idl) (Sum.inr n)).isSome = decide (n ∈ idl) := by
  unfold valV kvI
  rw [List.find?_map]
  have e : ((fun kv : Key × V => decide (kv.1 = Sum.inr n)) ∘ fun p : Str => (Sum.inr p, V.bl true)) = fun p => decide (p = n) := by
    funext p
    simp
  rw [e]
  rw [Bool.eq_iff_iff, decide_eq_true_eq]
  simp
def tellT (tk : Tk) (n : Str) (t : Int) : Tk := tk.map fun p => if p.1 = n then (p.1, mx p.2 t) else p
theorem tellT_names (tk : Tk) (n : Str) (t : Int) : (tellT tk n t).map (·.1) = tk.map (·.1) := by
  unfold tellT
  rw [List.map_map]
  refine List.map_congr_left fun p _ => ?_
  show (if p.1 = n then (p.1, mx p.2 t) else p).1 = p.1
  split <;> rfl
theorem putK_kvT {tk : Tk} (nd : (tk.map (·.1)).Nodup) {n : Str} {t v : Int} (h : lookT tk n = some v) : putK (kvT tk) (Sum.inr n) (.int (mx v t)) = kvT (tellT tk n t) := by
  have hs : (valV (kvT tk) (Sum.inr n)).isSome = true := by rw [valV_kvT, h]; rfl
  unfold putK
  rw [valV_any, hs]
  show (kvT tk).map _ = _
  unfold kvT tellT
  rw [List.map_map, List.map_map]
  refine List.map_congr_left fun p hp => ?_
  have h2 := lookT_mem nd hp
  by_cases e : p.1 = n
  · have : v = p.2 := by
      rw [e, h] at h2
      exact Option.some.inj h2
    subst this
    show (if (Sum.inr p.1 : Key) = Sum.inr n then _ else _) = (fun p : Str × Int => ((Sum.inr p.1 : Key), V.int p.2)) (if p.1 = n then (p.1, mx p.2 t) else p)
    rw [if_pos e, if_pos (by rw [e])]
  · show (if (Sum.inr p.1 : Key) = Sum.inr n then _ else _) = (fun p : Str × Int => ((Sum.inr p.1 : Key), V.int p.2)) (if p.1 = n then (p.1, mx p.2 t) else p)
    rw [if_neg e, if_neg (fun z => e (Sum.inr.inj z))]
theorem dropK_kvI (idl : List Str) (n : Str) : dropK (kvI idl) (Sum.inr n) = kvI (idl.filter fun x => decide (x ≠ n)) := by
  unfold dropK kvI
  rw [List.filter_map]
  congr 1
  refine List.filter_congr fun x _ => ?_
  simp
def restI (idl : List Str) (n : Str) : List Str := if n ∈ idl then idl else idl ++ [n]
theorem putK_kvI (idl : List Str) (n : Str) : putK (kvI idl) (Sum.inr n) (.bl true) = kvI (restI idl n) := by
  unfold putK restI
  rw [valV_any, valV_kvI]
  by_cases h : n ∈ idl
  · rw [if_pos h, if_pos (decide_eq_true h)]
    unfold kvI
    rw [List.map_map]
    refine List.map_congr_left fun x _ => ?_
    show (if (Sum.inr x : Key) = Sum.inr n then _ else _) = _
    split <;> rfl
  · rw [if_neg h, if_neg (by rw [decide_eq_true_eq]; exact h)]
    unfold kvI
    rw [List.map_append]
    rfl
def awakeT (tk : Tk) (idl : List Str) : List Int := (tk.filter fun p => decide (p.1 ∉ idl)).map (·.2)
def nowT (tk : Tk) (idl : List Str) (now : Int) : Int := mx now (minDef (awakeT tk idl) 0)
end K8
set_option Elab.async false
set_option linter.all false
set_option maxRecDepth 100000
set_option maxHeartbeats 4000000
namespace K8
open PySem PySem.Spec PyProof.Rows L2 KB KC KS LamX Q1 R8
def ExM (m dm di : Addr) (H H' : Hp) : Prop := ∀ b o, b ≠ m → b ≠ dm → b ≠ di → H b = some o → H' b = some o
theorem ExM.of {m dm di : Addr} {H H' : Hp} (e : Ex H H') : ExM m dm di H H' := fun b o _ _ _ h => e b o h
theorem ExM.trans {m dm di : Addr} {H H1 H2 : Hp} (e : ExM m dm di H H1) (f : ExM m dm di H1 H2) : ExM m dm di H H2 := fun b o h1 h2 h3 h => f b o h1 h2 h3 (e b o h1 h2 h3 h)
theorem MarksAt.ex {C : Addr} {H H' : Hp} {m dm di : Addr} {tk : Tk} {idl : List Str} {now : Int} (a : MarksAt C H m dm di tk idl now) (e : Ex H H') : MarksAt C H' m dm di tk idl now :=
  ⟨let ⟨dx, h⟩ := a.o; ⟨dx, e _ _ h⟩, e _ _ a.d, e _ _ a.i⟩
theorem kvT_len (tk : Tk) : (kvT tk).length = tk.length := List.length_map _
theorem kvI_len (idl : List Str) : (kvI idl).length = idl.length := List.length_map _
@[irreducible] def spMInit (C : Addr) : Sp := fun vs H Q _ => ∃ (m dx a : Addr) (ns : List Str), vs = [.ref m, .ref a] ∧ H m = some (.ins C dx []) ∧ H a = some (.lst (ns.map V.str)) ∧ ns.Nodup ∧ ns.length ≤ 1000 ∧
  ∀ H' dm di, (∀ b o, b ≠ m → H b = some o → H' b = some o) → H dm = none → H di = none → dm ≠ di → MarksAt C H' m dm di (ns.map fun n => (n, 0)) [] 0 → Q .non H'
@[irreducible] def spNeed (C CJ : Addr) : Sp := fun vs H Q E => ∃ (m dm di : Addr) (tk : Tk) (idl : List Str) (now : Int) (n : Str), vs = [.ref m, .str n] ∧ MarksAt C H m dm di tk idl now ∧ n.length ≤ 1000 ∧ (n ∉ tk.map (·.1) → E (.ref CJ) none H) ∧ (n ∈ tk.map (·.1) → Q .non H)
@[irreducible] def spNow (C : Addr) : Sp := fun vs H Q _ => ∃ (m dm di : Addr) (tk : Tk) (idl : List Str) (now : Int), vs = [.ref m] ∧ MarksAt C H m dm di tk idl now ∧ dm ≠ di ∧ tk.length ≤ 1000 ∧
  ∀ H', (∀ b o, b ≠ m → H b = some o → H' b = some o) → MarksAt C H' m dm di tk idl (nowT tk idl now) → Q (.int (nowT tk idl now)) H'
@[irreducible] def spTell (C CJ : Addr) : Sp := fun vs H Q E => ∃ (m dm di : Addr) (tk : Tk) (idl : List Str) (now : Int) (n : Str) (t : Int), vs = [.ref m, .str n, .int t] ∧ MarksAt C H m dm di tk idl now ∧ dm ≠ di ∧ n.length ≤ 1000 ∧ (tk.map (·.1)).Nodup ∧ tk.length ≤ 1000 ∧ (n ∉ tk.map (·.1) → E (.ref CJ) none H) ∧
  (n ∈ tk.map (·.1) → ∀ H', ExM m dm di H H' → MarksAt C H' m dm di (tellT tk n t) (idl.filter fun x => decide (x ≠ n)) (nowT (tellT tk n t) (idl.filter fun x => decide (x ≠ n)) now) → Q (.int (nowT (tellT tk n t) (idl.filter fun x => decide (x ≠ n)) now)) H')
@[irreducible] def spRest (C CJ : Addr) : Sp := fun vs H Q E => ∃ (m dm di : Addr) (tk : Tk) (idl : List Str) (now : Int) (n : Str), vs = [.ref m, .str n] ∧ MarksAt C H m dm di tk idl now ∧ dm ≠ di ∧ n.length ≤ 1000 ∧ tk.length ≤ 1000 ∧ idl.length ≤ 1000 ∧ (n ∉ tk.map (·.1) → E (.ref CJ) none H) ∧
  (n ∈ tk.map (·.1) → ∀ H', ExM m dm di H H' → MarksAt C H' m dm di tk (restI idl n) (nowT tk (restI idl n) now) → Q (.int (nowT tk (restI idl n) now)) H')
theorem dc_list {K : PySem.W.Frag} {a : Addr} {xs : List V} {g : TG} {tt : TT} {tk tv : TE} {vs : List Nat} {σ : L2.St} {H1 : Hp} {D : Addr} {Qd : Hp → Prop} (Pv : Nat → Hp → Prop) (h0 : Pv 0 (upd H1 D (.dK []))) (hl : ∀ i H, i ≤ xs.length → Pv i H → SqL K H a xs)
    (hs : ∀ i x H, xs[i]? = some x → Pv i H → g x (wipe σ vs) H fun σ2 H2 => wipe σ2 vs = wipe σ vs ∧ tt σ2 H2 fun b H3 =>
      if b = true then tk σ2 H3 fun y H4 => tv σ2 H4 fun z H5 => ∃ kvs k, y = kV k ∧ H5 D = some (.dK kvs) ∧ kvs.length < sizeLine ∧ Pv (i + 1) (upd H5 D (.dK (putK kvs k z))) else Pv (i + 1) H3) (hd : ∀ H, Pv xs.length H → Qd H) :
    ∃ W : Nat → Nat → Hp → Prop, (∃ m, W 0 m (upd H1 D (.dK []))) ∧ ∀ i m H, W i m H →
      ((Itl K a).stop i H ∧ Qd H) ∨ ((Itl K a).go i H ∧ ∃ Nx : Hp → Prop, (∀ H', Nx H' → ∃ m', m' < m ∧ W (i + 1) m' H') ∧ ∀ x H', (Itl K a).yld i H x H' → g x (wipe σ vs) H' fun σ2 H2 => wipe σ2 vs = wipe σ vs ∧ tt σ2 H2 fun b H3 =>
        if b = true then tk σ2 H3 fun y H4 => tv σ2 H4 fun z H5 => ∃ kvs k, y = kV k ∧ H5 D = some (.dK kvs) ∧ kvs.length < sizeLine ∧ Nx (upd H5 D (.dK (putK kvs k z))) else Nx H3) := by
  refine ⟨fun i m H => m = xs.length - i ∧ i ≤ xs.length ∧ Pv i H, ⟨xs.length, by simp, Nat.zero_le _, h0⟩, ?_⟩
  rintro i m H ⟨rfl, hi, p⟩
  have q := hl i H hi p
  by_cases hlt : i < xs.length
  · refine .inr ⟨(walk_list (K := K) (a := a) (xs := xs)).goes i H hlt q, Pv (i + 1), fun H' p' => ⟨xs.length - (i + 1), by omega, rfl, hlt, p'⟩, fun x H' y => ?_⟩
    obtain ⟨e, hy⟩ := (walk_list (K := K) (a := a) (xs := xs)).yields i H x H' hlt q y
    subst e
    exact hs i x _ hy p
  · have e : i = xs.length := by omega
    subst e
    exact .inl ⟨(walk_list (K := K) (a := a) (xs := xs)).stops H q, hd H p⟩
section
variable {P : Program} {w : World} {K : PySem.W.Frag} {mg : Str → Option Value} {base : Heap} {C CJ f fN fW : Addr} {fd fdN fdW : FuncData}
theorem scNeed : FnScope ["self", "name"] ["self", "name"] (defScope (sMM 3)) := ⟨rfl, rfl, rfl, by decide +kernel, rfl, by decide +kernel, by decide +kernel⟩
theorem ok_need (F : FnP K "need" "Marks.need" (sMM 3) [] f fd) (B : TxtK K mg C) (J : TxtJ K mg CJ) : FnOk P w K mg base (L2.CX P w) 1 f fd ["self", "name"] (spNeed C CJ) := by
  refine F.ok scNeed (fun vs H Q E h => ?_) (fun cdv A outer s H vs Q E hr h => ?_)
  · unfold spNeed at h
    obtain ⟨_, _, _, _, _, _, _, rfl, _⟩ := h; rfl
  · unfold spNeed at h
    obtain ⟨m, dm, di, tk, idl, now, n, rfl, hm, hn, bad, good⟩ := h
    have hu := hr.units
    have hu1 := Nat.lt_trans (Nat.add_lt_add_left (by decide : 1 < 64) _) hu
    obtain ⟨dx, ho⟩ := hm.o
    refine ⟨_, pss_one (ps_if (pt_cmp (pc_dnotin hu1 (pv 1) (pf 0))) (pss_one (ps_raise rfl (takes_of rfl rfl rfl rfl) (SkE.pmk_own1 PySem.F.excBase_ValueError J.x J.g J.k (raises_own J.b J.t) rfl (pe_joined (.cons pe_str (.cons (pe_fmt (pv 1)) .nil)))))) pss_nil), ?_⟩
    refine ⟨_, rfl, _, rfl, m, C, dx, _, _, rfl, ho, B.cl, B.nM, rfl, dm, _, rfl, DGet.k (k := Sum.inr n) hm.d, _, rfl, ?_⟩
    rw [valV_kvT]
    by_cases c : n ∈ tk.map (·.1)
    · cases e : lookT tk n with
      | none => exact absurd c (lookT_none.mp e)
      | some v => exact ifF (by simp) (good c)
    · rw [lookT_none.mpr c]
      refine ifT rfl ?_
      have h1 : n.length ≤ sizeLine := Nat.le_trans hn (by decide)
      refine ⟨_, rfl, by decide +kernel, _, rfl, .inl ⟨n, rfl, h1, n, rfl, ?_, bad c⟩⟩
      have e : (Str.empty ++ Str.ofString "no channel " ++ n).length = 11 + n.length := by
        show (Str.empty.cps ++ _ ++ n.cps).size = _
        rw [Array.size_append]
        rfl
      rw [e]
      have : sizeLine = 16777216 := rfl
      omega
theorem need_step {C CJ : Addr} {H : Hp} {m dm di : Addr} {tk : Tk} {idl : List Str} {now : Int} {n : Str} {Q : VK} {E : XK} (a : MarksAt C H m dm di tk idl now) (hn : n.length ≤ 1000) (bad : n ∉ tk.map (·.1) → E (.ref CJ) none H) (good : n ∈ tk.map (·.1) → Q .non H) : spNeed C CJ [.ref m, .str n] H Q E := by
  unfold spNeed
  exact ⟨m, dm, di, tk, idl, now, n, rfl, a, hn, bad, good⟩
abbrev nNow : List Str := ["self", "awake", "time", "name"]
theorem scNow : FnScope nNow ["self"] (defScope (sMM 4)) := ⟨rfl, rfl, rfl, by decide +kernel, rfl, by decide +kernel, by decide +kernel⟩
theorem ok_now (F : FnP K "time_now" "Marks.time_now" (sMM 4) [] f fd) (B : TxtK K mg C) (T : TxtL mg) : FnOk P w K mg base CX0 1 f fd ["self"] (spNow C) := by
  refine F.ok scNow (fun vs H Q E h => ?_) (fun cdv A outer s H vs Q E hr h => ?_)
  · unfold spNow at h
    obtain ⟨_, _, _, _, _, _, rfl, _⟩ := h; rfl
  · unfold spNow at h
    obtain ⟨m, dm, di, tk, idl, now, rfl, hm, ndi, hl, fin⟩ := h
    have hu := hr.units
    have hu1 := Nat.lt_trans (Nat.add_lt_add_left (by decide : 1 < 64) _) hu
    have hu' : (cxOf CX0 P w K mg base nNow "Marks.time_now" (defScope (sMM 4)) f cdv A outer s H E).nox.A.units + 66 < cLine := by
      have := hr.un
      show (A.deeper _).units + 66 < cLine
      omega
    obtain ⟨dx, ho⟩ := hm.o
    refine ⟨_, PSs.nox <| pss_cons (ps_lock (ps_setLc (i := 1) (own := [("time", 2), ("name", 3)]) (g := gTup K 2 (gCons (gName 3) (gCons (gName 2) gNil))) (tt := tB (tDNotIn (tVar 3) (tFld K (tVar 0) "idle"))) (te := tVar 2) rfl scNow.nd rfl rfl (sw_true rfl rfl rfl (by decide +kernel))
        (pi_items (pf 0)) (blkOk_by (N := nNow) (sc := defScope (sMM 4)) (by decide +kernel))
        (fun _ _ _ _ _ => pg_tup rfl (pgs_cons (pg_name (i := 3) scNow.nd rfl (Or.inl rfl)) (pgs_cons (pg_name (i := 2) scNow.nd rfl (Or.inl rfl)) pgs_nil)))
        (fun _ _ _ _ _ => pts_one (pt_cmp (pc_dnotin hu1 (pv 3) (pf 0)))) (fun _ _ _ _ _ => pv 2)))
      (pss_cons (ps_fld (pv 0) (pe_callB (call_max2 rfl) (by rfl) T.max (by decide +kernel) (pa_cons (pf 0) (pa_cons (pe_callBK (cr_minDef rfl hu') (by rfl) T.min (by decide +kernel) (pa_cons (pv 1) pa_nil) (pk_cons pe_int pk_nil)) pa_nil))) rfl)
      (pss_one (ps_ret (pf 0)))), ?_⟩
    have neDm : m ≠ dm := ne_of ho hm.d (fun z => nomatch z)
    have neDi : m ≠ di := ne_of ho hm.i (fun z => nomatch z)
    refine ⟨dm, .dK (kvT tk), hm.d, trivial, fun od => ?_⟩
    have ho1 : (upd H dm (.frz od (.dK (kvT tk)))) m = some (.ins C dx (mF dm di now)) := by rw [L2.upd_ne neDm]; exact ho
    have hi1 : (upd H dm (.frz od (.dK (kvT tk)))) di = some (.dK (kvI idl)) := by rw [L2.upd_ne ndi.symm]; exact hm.i
    refine ⟨_, rfl, m, C, dx, _, _, rfl, ho1, B.cl, B.nM, rfl, dm, od, _, rfl, upd_same, fun D hD => ?_⟩
    refine lcG walk_items RInt (fun j => tk[j]?.bind fun p => if decide (p.1 ∉ idl) = true then some p.2 else none) RInt.stab hD (by rw [kvT_len]; omega) (fun H5 e5 => e5 _ _ upd_same) (fun i H5 x H6 _ _ hy => by
        obtain ⟨T', x', y', rfl, hT, rfl, _, _⟩ := hy
        exact Ex.upd hT) (fun j x H5 H6 R0 N0 hj e5 hy hn hsm => ?_) (fun H5 xs5 e5 hx5 hps5 => ?_)
    · obtain ⟨T', x', y', rfl, hT, rfl, hx1, hy1⟩ := hy
      obtain ⟨p, hp⟩ : ∃ p, tk[j]? = some p := by
        rw [kvT_len] at hj
        exact ⟨_, List.getElem?_eq_getElem hj⟩
      have hk : (kvT tk)[j]? = some (Sum.inr p.1, V.int p.2) := by unfold kvT; rw [List.getElem?_map, hp]; rfl
      simp only [hk, Option.map_some, Option.some.injEq] at hx1 hy1
      subst hx1
      subst hy1
      have e6 : Ex H5 (upd H5 T' (.tup [kV (Sum.inr p.1), .int p.2])) := Ex.upd hT
      refine ⟨T', _, rfl, SqT.of upd_same, rfl, _, _, rfl, _, _, rfl, rfl, rfl, ?_⟩
      refine ⟨_, rfl, _, rfl, m, C, dx, _, _, rfl, e6 _ _ (e5 _ _ ho1), B.cl, B.nI, rfl, di, _, rfl, DGet.k (k := Sum.inr p.1) (e6 _ _ (e5 _ _ hi1)), _, rfl, ?_⟩
      have eb : (!(valV (kvI idl) (Sum.inr p.1)).isSome) = decide (p.1 ∉ idl) := by rw [valV_kvI]; simp
      rw [eb]
      by_cases c : p.1 ∉ idl
      · rw [decide_eq_true c]
        exact iteT ⟨_, rfl, hsm p.2 (by rw [hp]; show (if decide (p.1 ∉ idl) = true then _ else _) = _; rw [decide_eq_true c]; rfl) _ _ (Ex.refl _) rfl⟩
      · rw [decide_eq_false c]
        exact iteF (hn (by rw [hp]; show (if decide (p.1 ∉ idl) = true then _ else _) = _; rw [decide_eq_false c]; rfl) _ (Ex.refl _))
    · rw [kvT_len, range_fm] at hps5
      have eaw : (tk.filterMap fun p => if decide (p.1 ∉ idl) = true then some p.2 else none) = awakeT tk idl := by
        unfold awakeT
        rw [← List.filterMap_eq_map, List.filterMap_filter]
        rfl
      rw [eaw] at hps5
      rw [rint_map hps5] at hx5
      refine ⟨e5 _ _ upd_same, ?_⟩
      have nD : D ≠ dm := fun z => by rw [z, upd_same] at hD; cases hD
      have e6 : Ex H (upd H5 dm (.dK (kvT tk))) := fun b o h => by
        by_cases z : b = dm
        · subst z
          rw [hm.d] at h
          rw [upd_same]
          exact h
        · rw [L2.upd_ne z]
          refine e5 _ _ ?_
          rw [L2.upd_ne z]
          exact h
      have hx6 : (upd H5 dm (.dK (kvT tk))) D = some (.lst ((awakeT tk idl).map V.int)) := by rw [L2.upd_ne nD]; exact hx5
      generalize upd H5 dm (.dK (kvT tk)) = H6 at e6 hx6
      have ho6 := e6 _ _ ho
      refine ⟨_, rfl, m, C, dx, _, _, rfl, ho6, B.cl, B.nN, rfl, _, rfl, D, awakeT tk idl, 0, rfl, rfl, SqL.of hx6, _, _, rfl, _, rfl, m, C, dx, _, rfl, ho6, B.cl, B.nN, (by show 3 < 1000; decide), ?_⟩
      refine ⟨_, rfl, m, C, dx, _, _, rfl, upd_same, B.cl, B.nN, rfl, ?_⟩
      refine fin _ (fun b o n h => by rw [L2.upd_ne n]; exact e6 _ _ h) ⟨⟨dx, upd_same⟩, ?_, ?_⟩
      · rw [L2.upd_ne neDm.symm]; exact e6 _ _ hm.d
      · rw [L2.upd_ne neDi.symm]; exact e6 _ _ hm.i
end
end K8
set_option Elab.async false
set_option linter.all false
set_option maxRecDepth 100000
set_option maxHeartbeats 4000000
namespace K8
open PySem PySem.Spec PyProof.Rows L2 KB KC KS LamX Q1 R8
theorem now_step {C : Addr} {H : Hp} {m dm di : Addr} {tk : Tk} {idl : List Str} {now : Int} {Q : VK} {E : XK} (a : MarksAt C H m dm di tk idl now) (nd : dm ≠ di) (hl : tk.length ≤ 1000)
    (fin : ∀ H', (∀ b o, b ≠ m → H b = some o → H' b = some o) → MarksAt C H' m dm di tk idl (nowT tk idl now) → Q (.int (nowT tk idl now)) H') : spNow C [.ref m] H Q E := by
  unfold spNow
  exact ⟨m, dm, di, tk, idl, now, rfl, a, nd, hl, fin⟩
theorem MarksAt.neM {C : Addr} {H : Hp} {m dm di : Addr} {tk : Tk} {idl : List Str} {now : Int} (a : MarksAt C H m dm di tk idl now) : m ≠ dm ∧ m ≠ di :=
  let ⟨_, h⟩ := a.o
  ⟨ne_of h a.d (fun z => nomatch z), ne_of h a.i (fun z => nomatch z)⟩
section
variable {P : Program} {w : World} {K : PySem.W.Frag} {mg : Str → Option Value} {base : Heap} {C CJ f fN fW : Addr} {fd fdN fdW : FuncData}
theorem scTell : FnScope ["self", "name", "time"] ["self", "name", "time"] (defScope (sMM 1)) := ⟨rfl, rfl, rfl, by decide +kernel, rfl, by decide +kernel, by decide +kernel⟩
theorem ok_tell (F : FnP K "tell" "Marks.tell" (sMM 1) [] f fd) (B : TxtK K mg C) (J : TxtJ K mg CJ) (T : TxtL mg) (FN : FnP K "need" "Marks.need" (sMM 3) [] fN fdN) (mN : Meth K C "need" fN) (FW : FnP K "time_now" "Marks.time_now" (sMM 4) [] fW fdW) (mW : Meth K C "time_now" fW) :
    FnOk P w K mg base (L2.CX P w) 2 f fd ["self", "name", "time"] (spTell C CJ) := by
  have GN : FnOk P w K mg base (L2.CX P w) 1 fN fdN ["self", "name"] (spNeed C CJ) := ok_need FN B J
  have GW : FnOk P w K mg base CX0 1 fW fdW ["self"] (spNow C) := ok_now FW B T
  have bN : Binds K fdN ["self", "name"] [] := FN.bindsN fun _ _ _ _ _ _ us hl => match us, hl with | [_, _], _ => rfl
  have bW : Binds K fdW ["self"] [] := FW.bindsN fun _ _ _ _ _ _ us hl => match us, hl with | [_], _ => rfl
  refine F.ok scTell (fun vs H Q E h => ?_) (fun cdv A outer s H vs Q E hr h => ?_)
  · unfold spTell at h
    obtain ⟨_, _, _, _, _, _, _, _, rfl, _⟩ := h; rfl
  · unfold spTell at h
    obtain ⟨m, dm, di, tk, idl, now, n, t, rfl, hm, ndi, hn, nd, hl, bad, good⟩ := h
    have hu := hr.units
    have hu1 := Nat.lt_trans (Nat.add_lt_add_left (by decide : 1 < 64) _) hu
    obtain ⟨dx, ho⟩ := hm.o
    obtain ⟨neDm, neDi⟩ := hm.neM
    refine ⟨_, pss_cons (ps_expr (pe_meth (pv 0) B.cl mN GN hr bN .nil (passes_call (takes_of rfl rfl rfl rfl) (fun _ _ _ _ h => h)) (pa_cons (pv 1) pa_nil)))
      (PSs.nox <| pss_cons (ps_dput hu1 (pf 0) (pv 1) (pe_callB (call_max2 rfl) (by rfl) T.max (by decide +kernel) (pa_cons (pe_dget hu1 (pf 0) (pv 1) (fun _ _ => rfl)) (pa_cons (pv 2) pa_nil))) rfl)
      (pss_cons (ps_if (pt_cmp (pc_din hu1 (pv 1) (pf 0))) (pss_one (ps_ddel (pf 0) (pv 1))) pss_nil)
      (pss_one (ps_ret (pe_meth0 (pv 0) B.cl mW GW hr bW .nil pass0))))), ?_⟩
    refine ⟨_, rfl, m, dx, _, rfl, ho, mF_m (by decide +kernel) (by decide +kernel) (by decide +kernel), _, rfl, need_step hm hn bad fun c => ?_⟩
    cases e : lookT tk n with
    | none => exact absurd c (lookT_none.mp e)
    | some v =>
      have hg : DGet H dm (.str n) (some (.int v)) := by
        have := DGet.k (k := Sum.inr n) hm.d
        rw [valV_kvT, e] at this
        exact this
      have hsl : sizeLine = 16777216 := rfl
      refine ⟨_, rfl, m, C, dx, _, _, rfl, ho, B.cl, B.nM, rfl, _, rfl, dm, _, rfl, hg, _, rfl, _, _, rfl, _, rfl, m, C, dx, _, _, rfl, ho, B.cl, B.nM, rfl, _, rfl, dm, _, rfl, DPut.k (k := Sum.inr n) hm.d (by rw [kvT_len]; omega), ?_⟩
      have ep : putK (kvT tk) (Sum.inr n) (.int (if t > v then t else v)) = kvT (tellT tk n t) := putK_kvT nd e
      rw [ep]
      have hm1 : MarksAt C (upd H dm (.dK (kvT (tellT tk n t)))) m dm di (tellT tk n t) idl now := ⟨⟨dx, by rw [L2.upd_ne neDm]; exact ho⟩, upd_same, by rw [L2.upd_ne ndi.symm]; exact hm.i⟩
      have e1 : ExM m dm di H (upd H dm (.dK (kvT (tellT tk n t)))) := fun b o h1 h2 h3 h => by rw [L2.upd_ne h2]; exact h
      generalize upd H dm (.dK (kvT (tellT tk n t))) = H1 at hm1 e1
      obtain ⟨dx1, ho1⟩ := hm1.o
      have hlT : (tellT tk n t).length ≤ 1000 := by
        have := congrArg List.length (tellT_names tk n t)
        rw [List.length_map, List.length_map] at this
        omega
      have after : ∀ H2, ExM m dm di H1 H2 → MarksAt C H2 m dm di (tellT tk n t) (idl.filter fun x => decide (x ≠ n)) now → (tRet (tMeth C "time_now" (spNow C) [] E0 (tVar 0) tNil)) { nx := fun _ H' => Q .non H', rt := Q } (L2.start ["self", "name", "time"] [.ref m, .str n, .int t]) H2 := by
        intro H2 e2 hm2
        obtain ⟨dx2, ho2⟩ := hm2.o
        refine ⟨_, rfl, m, dx2, _, rfl, ho2, mF_m (by decide +kernel) (by decide +kernel) (by decide +kernel), now_step hm2 ndi hlT fun H3 e3 hm3 => ?_⟩
        exact good c H3 ((e1.trans e2).trans fun b o h1 _ _ h => e3 b o h1 h) hm3
      refine ⟨_, rfl, _, rfl, m, C, dx1, _, _, rfl, ho1, B.cl, B.nI, rfl, di, _, rfl, DGet.k (k := Sum.inr n) hm1.i, _, rfl, ?_⟩
      rw [valV_kvI]
      by_cases ci : n ∈ idl
      · rw [decide_eq_true ci]
        refine iteT ⟨_, rfl, m, C, dx1, _, _, rfl, ho1, B.cl, B.nI, rfl, _, rfl, di, _, Sum.inr n, rfl, hm1.i, rfl, by rw [valV_kvI]; exact decide_eq_true ci, ?_⟩
        rw [dropK_kvI]
        exact after _ (fun b o h1 h2 h3 h => by rw [L2.upd_ne h3]; exact h) ⟨⟨dx1, by rw [L2.upd_ne neDi]; exact ho1⟩, by rw [L2.upd_ne ndi]; exact hm1.d, upd_same⟩
      · rw [decide_eq_false ci]
        refine iteF (after _ (ExM.of (Ex.refl _)) ?_)
        have : (idl.filter fun x => decide (x ≠ n)) = idl := List.filter_eq_self.mpr fun x hx => decide_eq_true fun z => ci (z ▸ hx)
        rw [this]
        exact hm1
theorem scRest : FnScope ["self", "name"] ["self", "name"] (defScope (sMM 2)) := ⟨rfl, rfl, rfl, by decide +kernel, rfl, by decide +kernel, by decide +kernel⟩
theorem ok_rest (F : FnP K "rest" "Marks.rest" (sMM 2) [] f fd) (B : TxtK K mg C) (J : TxtJ K mg CJ) (T : TxtL mg) (FN : FnP K "need" "Marks.need" (sMM 3) [] fN fdN) (mN : Meth K C "need" fN) (FW : FnP K "time_now" "Marks.time_now" (sMM 4) [] fW fdW) (mW : Meth K C "time_now" fW) :
    FnOk P w K mg base (L2.CX P w) 2 f fd ["self", "name"] (spRest C CJ) := by
  have GN : FnOk P w K mg base (L2.CX P w) 1 fN fdN ["self", "name"] (spNeed C CJ) := ok_need FN B J
  have GW : FnOk P w K mg base CX0 1 fW fdW ["self"] (spNow C) := ok_now FW B T
  have bN : Binds K fdN ["self", "name"] [] := FN.bindsN fun _ _ _ _ _ _ us hl => match us, hl with | [_, _], _ => rfl
  have bW : Binds K fdW ["self"] [] := FW.bindsN fun _ _ _ _ _ _ us hl => match us, hl with | [_], _ => rfl
  refine F.ok scRest (fun vs H Q E h => ?_) (fun cdv A outer s H vs Q E hr h => ?_)
  · unfold spRest at h
    obtain ⟨_, _, _, _, _, _, _, rfl, _⟩ := h; rfl
  · unfold spRest at h
    obtain ⟨m, dm, di, tk, idl, now, n, rfl, hm, ndi, hn, hl, hil, bad, good⟩ := h
    have hu := hr.units
    have hu1 := Nat.lt_trans (Nat.add_lt_add_left (by decide : 1 < 64) _) hu
    obtain ⟨dx, ho⟩ := hm.o
    obtain ⟨neDm, neDi⟩ := hm.neM
    refine ⟨_, pss_cons (ps_expr (pe_meth (pv 0) B.cl mN GN hr bN .nil (passes_call (takes_of rfl rfl rfl rfl) (fun _ _ _ _ h => h)) (pa_cons (pv 1) pa_nil)))
      (PSs.nox <| pss_cons (ps_dput hu1 (pf 0) (pv 1) pe_bl rfl) (pss_one (ps_ret (pe_meth0 (pv 0) B.cl mW GW hr bW .nil pass0)))), ?_⟩
    refine ⟨_, rfl, m, dx, _, rfl, ho, mF_m (by decide +kernel) (by decide +kernel) (by decide +kernel), _, rfl, need_step hm hn bad fun c => ?_⟩
    have hsl : sizeLine = 16777216 := rfl
    refine ⟨_, rfl, m, C, dx, _, _, rfl, ho, B.cl, B.nI, rfl, _, rfl, di, _, rfl, DPut.k (k := Sum.inr n) hm.i (by rw [kvI_len]; omega), ?_⟩
    rw [putK_kvI]
    have hm1 : MarksAt C (upd H di (.dK (kvI (restI idl n)))) m dm di tk (restI idl n) now := ⟨⟨dx, by rw [L2.upd_ne neDi]; exact ho⟩, by rw [L2.upd_ne ndi]; exact hm.d, upd_same⟩
    have e1 : ExM m dm di H (upd H di (.dK (kvI (restI idl n)))) := fun b o h1 h2 h3 h => by rw [L2.upd_ne h3]; exact h
    generalize upd H di (.dK (kvI (restI idl n))) = H1 at hm1 e1
    obtain ⟨dx1, ho1⟩ := hm1.o
    refine ⟨_, rfl, m, dx1, _, rfl, ho1, mF_m (by decide +kernel) (by decide +kernel) (by decide +kernel), now_step hm1 ndi hl fun H3 e3 hm3 => ?_⟩
    exact good c H3 (e1.trans fun b o h1 _ _ h => e3 b o h1 h) hm3
abbrev nMI : List Str := ["self", "names", "name"]
theorem scMI : FnScope nMI ["self", "names"] (defScope (sMM 0)) := ⟨rfl, rfl, rfl, by decide +kernel, rfl, by decide +kernel, by decide +kernel⟩
def tk0 (ns : List Str) : Tk := ns.map fun n => (n, 0)
theorem putK_tk0 {ns : List Str} {n : Str} (h : n ∉ ns) : putK (kvT (tk0 ns)) (Sum.inr n) (.int 0) = kvT (tk0 (ns ++ [n])) := by
  have hv : valV (kvT (tk0 ns)) (Sum.inr n) = none := by
    rw [valV_kvT, lookT_none.mpr]
    · rfl
    · unfold tk0
      rw [List.map_map]
      intro z
      obtain ⟨x, hx, e⟩ := List.mem_map.mp z
      exact h (e ▸ hx)
  rw [putK_new _ hv]
  unfold kvT tk0
  rw [List.map_append, List.map_append]
  rfl
theorem ok_minit (F : FnP K "__init__" "Marks.__init__" (sMM 0) [] f fd) (B : TxtK K mg C) : FnOk P w K mg base CX0 1 f fd ["self", "names"] (spMInit C) := by
  refine F.ok scMI (fun vs H Q E h => ?_) (fun cdv A outer s H vs Q E hr h => ?_)
  · unfold spMInit at h
    obtain ⟨_, _, _, _, rfl, _⟩ := h; rfl
  · unfold spMInit at h
    obtain ⟨m, dx, a, ns, rfl, hp, ha, nd, hl, fin⟩ := h
    refine ⟨_, PSs.nox <| pss_cons (ps_fld (pv 0) (pe_dc (own := [("name", 2)]) (g := gName 2) (tt := tYes) rfl scMI.nd (pi_list (pv 1)) (blkOk_by (N := nMI) (sc := defScope (sMM 0)) (by decide +kernel))
        (fun _ _ _ _ _ => pg_name (i := 2) scMI.nd rfl (Or.inl rfl)) (fun _ _ _ _ _ => pts_nil) (fun _ _ _ _ _ => pv 2) (fun _ _ _ _ _ => pe_int)) rfl)
      (pss_cons (ps_fld (pv 0) pe_dnewK rfl) (pss_one (ps_fld (pv 0) pe_int rfl))), ?_⟩
    refine ⟨_, rfl, a, rfl, ⟨_, SqL.of ha⟩, fun D hD => ?_⟩
    have hsl : sizeLine = 16777216 := rfl
    refine dc_list (xs := ns.map V.str) (fun i H2 => Ex H H2 ∧ H2 D = some (.dK (kvT (tk0 (ns.take i))))) ⟨Ex.upd hD, upd_same⟩ (fun i H2 _ h => SqL.of (h.1 _ _ ha)) (fun i x H2 hx h => ?_) (fun H2 h => ?_)
    · rw [List.getElem?_map] at hx
      obtain ⟨n, hn, rfl⟩ := Option.map_eq_some_iff.mp hx
      obtain ⟨e2, h2⟩ := h
      refine ⟨rfl, _, rfl, _, Sum.inr n, rfl, h2, ?_, Ex.on e2 hD, ?_⟩
      · rw [kvT_len]
        unfold tk0
        rw [List.length_map, List.length_take]
        omega
      · have hi : i < ns.length := (List.getElem?_eq_some_iff.mp hn).1
        have hni : n ∉ ns.take i := fun z => by
          obtain ⟨j, hj⟩ := List.getElem?_of_mem z
          have hji : j < i := by
            have := (List.getElem?_eq_some_iff.mp hj).1
            rw [List.length_take] at this
            omega
          rw [List.getElem?_take_of_lt hji] at hj
          have := (List.getElem?_inj (by omega) nd).mp (hj.trans hn.symm)
          omega
        rw [upd_same, putK_tk0 hni, List.take_succ, hn]
        rfl
    · obtain ⟨e2, h2⟩ := h
      rw [List.length_map, List.take_length] at h2
      have nDm : D ≠ m := fun z => by rw [z, hp] at hD; cases hD
      have hp2 := e2 _ _ hp
      refine ⟨_, rfl, m, C, dx, [], rfl, hp2, B.cl, B.nM, by decide, ?_⟩
      have e3 : ∀ b o, b ≠ m → H b = some o → (upd H2 m (.ins C dx (putF "marks" (.ref D) []))) b = some o := fun b o n h => by rw [L2.upd_ne n]; exact e2 _ _ h
      have hp3 : (upd H2 m (.ins C dx (putF "marks" (.ref D) []))) m = some (.ins C dx [("marks", .ref D)]) := upd_same
      have hD3 : (upd H2 m (.ins C dx (putF "marks" (.ref D) []))) D = some (.dK (kvT (tk0 ns))) := by rw [L2.upd_ne nDm]; exact h2
      generalize upd H2 m (.ins C dx (putF "marks" (.ref D) [])) = H3 at e3 hp3 hD3
      intro di hdi
      have nim : di ≠ m := fun z => by rw [z, hp3] at hdi; cases hdi
      have niD : di ≠ D := fun z => by rw [z, hD3] at hdi; cases hdi
      have hdi0 : H di = none := by
        cases z : H di with
        | none => rfl
        | some o => rw [e3 _ _ nim z] at hdi; cases hdi
      refine ⟨_, rfl, m, C, dx, [("marks", .ref D)], rfl, by rw [L2.upd_ne nim.symm]; exact hp3, B.cl, B.nI, (by show 1 < 1000; decide), _, rfl, m, C, dx, [("marks", .ref D), ("idle", .ref di)], rfl, upd_same, B.cl, B.nN, (by show 2 < 1000; decide), ?_⟩
      refine fin _ D di (fun b o n h => ?_) hD hdi0 niD.symm ⟨⟨dx, upd_same⟩, ?_, ?_⟩
      · rw [L2.upd_ne n, L2.upd_ne n, L2.upd_ne (fun z => by rw [z, hdi0] at h; cases h)]
        exact e3 _ _ n h
      · rw [L2.upd_ne nDm, L2.upd_ne nDm, L2.upd_ne niD.symm]
        exact hD3
      · rw [L2.upd_ne nim, L2.upd_ne nim, upd_same]
        rfl
end
end K8
set_option Elab.async false
set_option linter.all false
set_option maxRecDepth 100000
set_option maxHeartbeats 4000000
namespace K8
open PySem PySem.Spec PyProof.Rows L2 KB KC KD KS LamX Q1 R8
theorem depth_pD : ∀ S : List Sp2, PyData.depthAll (S.map pD) ≤ 3
  | [] => by simp [PyData.depthAll]
  | p :: S => by
    have h := depth_pD S
    rw [List.map_cons]
    unfold PyData.depthAll
    have : (pD p).depth ≤ 2 := by simp [pD, PyData.depth, PyData.depthAll]
    omega
theorem shaped_list (S : List Sp2) : SeqAt.shaped (.list (S.map pD)) = true := by
  have h := depth_pD S
  unfold SeqAt.shaped
  rw [Bool.and_eq_true, decide_eq_true_eq]
  refine ⟨?_, ?_⟩
  · unfold PyData.canLay0
    exact lay_pD S
  · unfold PyData.depth
    omega
theorem shaped_tuple (S : List Sp2) : SeqAt.shaped (.tuple (S.map pD)) = true := by
  have h := depth_pD S
  unfold SeqAt.shaped
  rw [Bool.and_eq_true, decide_eq_true_eq]
  refine ⟨?_, ?_⟩
  · unfold PyData.canLay0
    exact lay_pD S
  · unfold PyData.depth
    omega
theorem eqvAll_pD : ∀ A B : List Sp2, PyData.eqvAll (A.map pD) (B.map pD) = decide (A = B)
  | [], [] => by simp [PyData.eqvAll]
  | [], b :: B => by simp [PyData.eqvAll]
  | a :: A, [] => by simp [PyData.eqvAll]
  | a :: A, b :: B => by
    rw [List.map_cons, List.map_cons]
    unfold PyData.eqvAll
    rw [eqv_pD, eqvAll_pD A B, Bool.eq_iff_iff]
    simp
theorem eqv_lists (A B : List Sp2) : PyData.eqv (.list (A.map pD)) (.list (B.map pD)) = decide (A = B) := by
  unfold PyData.eqv
  exact eqvAll_pD A B
theorem eqv_tuples (A B : List Sp2) : PyData.eqv (.tuple (A.map pD)) (.tuple (B.map pD)) = decide (A = B) := by
  unfold PyData.eqv
  exact eqvAll_pD A B
@[irreducible] def spLSpans : Sp := fun vs H Q _ => ∃ (a : Addr) (ts : List Int) (g : Int), vs = [.ref a, .int g] ∧ H a = some (.lst (ts.map V.int)) ∧ ts.length < 64 ∧
  ∀ H' q us ns', Ex H H' → H' q = some (.lst (us.map V.ref)) → Ps H' us (lawSp g ns') → ns'.Perm ts → ns'.Pairwise (· ≤ ·) → Q (.ref q) H'
abbrev nSp : List Str := ["times", "gap", "found", "time"]
theorem scSp : FnScope nSp ["times", "gap"] (defScope sSpans) := ⟨rfl, rfl, rfl, by decide +kernel, rfl, by decide +kernel, by decide +kernel⟩
theorem Ps.app {H : Hp} {us us' : List Addr} {S S' : List Sp2} (p : Ps H us S) (q : Ps H us' S') : Ps H (us ++ us') (S ++ S') := paired_app p q
theorem Ps.split {H : Hp} : ∀ {us : List Addr} {S S' : List Sp2}, Ps H us (S ++ S') → ∃ vs vs', us = vs ++ vs' ∧ Ps H vs S ∧ Ps H vs' S'
  | us, [], S', h => ⟨[], us, rfl, .nil, h⟩
  | _, _ :: S, S', .cons (a := a) h t => by
    obtain ⟨vs, vs', e, h1, h2⟩ := Ps.split (S := S) t
    exact ⟨a :: vs, vs', by rw [e]; rfl, .cons h h1, h2⟩
theorem lsStep_len (g : Int) (S : List Sp2) (t : Int) : (lsStep g S t).length ≤ S.length + 1 := by
  rcases List.eq_nil_or_concat S with rfl | ⟨init, l, rfl⟩
  · simp [lsStep]
  · rw [List.concat_eq_append]
    unfold lsStep
    rw [List.getLast?_concat]
    show (if t < l.2 then (init ++ [l]).dropLast ++ [(l.1, t + g)] else (init ++ [l]) ++ [(t, t + g)]).length ≤ _
    split <;> simp
theorem lawSp_len (g : Int) (ts : List Int) : (ts.foldl (lsStep g) []).length ≤ ts.length := by
  have go : ∀ (r : List Int) (S : List Sp2), (r.foldl (lsStep g) S).length ≤ S.length + r.length := by
    intro r
    induction r with
    | nil => intro S; simp
    | cons t r ih =>
      intro S
      have h1 := ih (lsStep g S t)
      have h2 := lsStep_len g S t
      rw [List.foldl_cons, List.length_cons]
      omega
  have := go ts []
  simpa using this
section
variable {P : Program} {w : World} {K : PySem.W.Frag} {mg : Str → Option Value} {base : Heap} {f : Addr} {fd : FuncData}
theorem ok_lspans (F : FnP K "_law_spans" "_law_spans" sSpans [] f fd) (T : TxtL mg) : FnOk P w K mg base CX0 1 f fd ["times", "gap"] spLSpans := by
  refine F.ok scSp (fun vs H Q E h => ?_) (fun cdv A outer s H vs Q E hr h => ?_)
  · unfold spLSpans at h
    obtain ⟨_, _, _, rfl, _⟩ := h; rfl
  · unfold spLSpans at h
    obtain ⟨a, ts, g, rfl, ha, hl, fin⟩ := h
    have hu := hr.units
    have hsl : sizeLine = 16777216 := rfl
    refine ⟨_, PSs.nox <| pss_cons (ps_set (i := 2) scSp.nd rfl (Or.inl rfl) (pe_lst pa_nil))
      (pss_cons (ps_for PassesOwn.never rfl (pi_list (pe_callB cr_sorted (by rfl) T.sorted (by decide +kernel) (pa_cons (pv 0) pa_nil))) (pg_name (i := 3) scSp.nd rfl (Or.inl rfl))
        (pss_one (ps_if (PW.pt (pw_and (pt_cmpR (op_neD hu) (pv 2) (pe_lst pa_nil) (nomark _)) (pw_and1 (pt_cmpR op_lt (pv 3) (pe_ix ix_tupD (pe_ix ix_listD (pv 2) (pe_op op_sub (pe_callB call_len_seq (by rfl) T.len PySem.boot_len (pa_cons (pv 2) pa_nil)) pe_int) (fun _ _ => rfl)) pe_int (fun _ _ => rfl)) (nomark _)))))
          (pss_one (ps_asg (pe_tup (pa_cons (pe_ix ix_tupD (pe_ix ix_listD (pv 2) (pe_op op_sub (pe_callB call_len_seq (by rfl) T.len PySem.boot_len (pa_cons (pv 2) pa_nil)) pe_int) (fun _ _ => rfl)) pe_int (fun _ _ => rfl)) (pa_cons (pe_op op_add (pv 3) (pv 1)) pa_nil)))
            (pg_sub (pv 2) (pe_op op_sub (pe_callB call_len_seq (by rfl) T.len PySem.boot_len (pa_cons (pv 2) pa_nil)) pe_int) set_list)))
          (pss_one (ps_expr (pe_bm PySem.F.plainAttrs_list PySem.F.slot_list_append PySem.F.type_list_append mt_append (pv 2) (pa_cons (pe_tup (pa_cons (pv 3) (pa_cons (pe_op op_add (pv 3) (pv 1)) pa_nil))) pa_nil))))))) (pss_one (ps_ret (pv 2)))), ?_⟩
    have two : 2 ≤ sizeLine := by decide
    refine ⟨by decide, fun q hq => ?_⟩
    have e1 : Ex H (upd H q (.lst [])) := Ex.upd hq
    have hq1 : (upd H q (.lst [])) q = some (.lst []) := upd_same
    generalize upd H q (.lst []) = H1 at e1 hq1
    refine ⟨_, rfl, a, ts, rfl, SqL.of (e1 _ _ ha), hl, fun ns' p pm so hp => ?_⟩
    have e2 : Ex H1 (upd H1 p (.lst (ns'.map V.int))) := Ex.upd hp
    have hp2 : (upd H1 p (.lst (ns'.map V.int))) p = some (.lst (ns'.map V.int)) := upd_same
    have npq : p ≠ q := fun z => by rw [z, hq1] at hp; cases hp
    generalize upd H1 p (.lst (ns'.map V.int)) = H2 at e2 hp2
    have hlen := pm.length_eq
    refine ⟨p, rfl, ⟨_, SqL.of hp2⟩, for_list (xs := ns'.map V.int) (fun i σ H3 => (∃ v, σ = [some (.ref a), some (.int g), some (.ref q), v]) ∧ ExD q H2 H3 ∧ ∃ us, H3 q = some (.lst (us.map V.ref)) ∧ Ps H3 us ((ns'.take i).foldl (lsStep g) []))
      ⟨⟨_, rfl⟩, fun b o _ h => h, [], e2 _ _ hq1, .nil⟩ (fun i σ H3 _ h => SqL.of (h.2.1 _ _ npq hp2)) ?_ ?_⟩
    · rintro i x σ H3 hx ⟨⟨v, rfl⟩, e3, us, hus, ps⟩
      rw [List.getElem?_map] at hx
      obtain ⟨t, ht, rfl⟩ := Option.map_eq_some_iff.mp hx
      have hil : i < ns'.length := (List.getElem?_eq_some_iff.mp ht).1
      have hS : (ns'.take (i + 1)).foldl (lsStep g) [] = lsStep g ((ns'.take i).foldl (lsStep g) []) t := by
        rw [List.take_succ, ht, List.foldl_append]
        rfl
      have hSl := lawSp_len g (ns'.take i)
      rw [List.length_take] at hSl
      have hlu := paired_len ps
      generalize hSg : (ns'.take i).foldl (lsStep g) [] = S at hS hSl ps hlu
      refine ⟨_, rfl, by decide, fun z hz => ⟨.list (S.map pD), .list ([].map pD), .lst (SqL.of (Ex.upd hz _ _ hus)) (Ps.dp (ps.ex fun b xs h => Ex.upd hz _ _ h)), .lst (SqL.of upd_same) .nil, shaped_list S, by rfl, _, rfl, ?_⟩⟩
      rw [eqv_lists]
      have e4 : Ex H3 (upd H3 z (.lst [])) := Ex.upd hz
      have hus4 := e4 _ _ hus
      have ps4 : Ps (upd H3 z (.lst [])) us S := ps.ex fun b xs h => e4 _ _ h
      generalize upd H3 z (.lst []) = H4 at e4 hus4 ps4
      have app : lsStep g S t = S ++ [(t, t + g)] → ∀ q2, H4 q2 = none → ((∃ v, [some (V.ref a), some (.int g), some (.ref q), some (.int t)] = [some (.ref a), some (.int g), some (.ref q), v]) ∧ ExD q H2 (upd (upd H4 q2 (.tup [.int t, .int (t + g)])) q (.lst (us.map V.ref ++ [.ref q2]))) ∧
          ∃ us', (upd (upd H4 q2 (.tup [.int t, .int (t + g)])) q (.lst (us.map V.ref ++ [.ref q2]))) q = some (.lst (us'.map V.ref)) ∧ Ps (upd (upd H4 q2 (.tup [.int t, .int (t + g)])) q (.lst (us.map V.ref ++ [.ref q2]))) us' ((ns'.take (i + 1)).foldl (lsStep g) [])) := by
        intro hst q2 hq2
        have kt : KT' (upd H4 q2 (.tup [.int t, .int (t + g)])) (upd (upd H4 q2 (.tup [.int t, .int (t + g)])) q (.lst (us.map V.ref ++ [.ref q2]))) := fun b ys h => by
          have : (upd H4 q2 (.tup [.int t, .int (t + g)])) q = some (.lst (us.map V.ref)) := Ex.upd hq2 _ _ hus4
          rw [L2.upd_ne (fun z => by rw [z, this] at h; cases h)]
          exact h
        refine ⟨⟨_, rfl⟩, fun b o n h => ?_, us ++ [q2], ?_, ?_⟩
        · rw [L2.upd_ne n]
          exact Ex.upd hq2 _ _ (e4 _ _ (e3 _ _ n h))
        · rw [upd_same, List.map_append]; rfl
        · rw [hS, hst]
          exact paired_app (ps4.ex fun b xs h => kt _ _ (Ex.upd hq2 _ _ h)) (.cons (kt _ _ upd_same) .nil)
      rcases List.eq_nil_or_concat S with rfl | ⟨init, l, rfl⟩
      · refine ifF (by decide) ?_
        have hun : us = [] := List.eq_nil_of_length_eq_zero hlu
        subst hun
        refine ifF (by decide) ⟨_, rfl, .inl ⟨rfl, _, SqL.of hus4⟩, _, rfl, _, rfl, _, rfl, _, _, rfl, rfl, two, fun q2 hq2 => ⟨q, _, _, rfl, rfl, Ex.upd hq2 _ _ hus4, by decide, ?_⟩⟩
        exact app rfl q2 hq2
      · rw [List.concat_eq_append] at hS ps4 app ⊢
        refine ifT (by simp) ?_
        obtain ⟨vs, vs', rfl, pa, pb⟩ := Ps.split ps4
        obtain ⟨tl, rfl, htl⟩ : ∃ tl, vs' = [tl] ∧ H4 tl = some (.tup [.int l.1, .int l.2]) := by
          cases pb with
          | cons h t =>
            cases t
            exact ⟨_, rfl, h⟩
        · skip
          have hlv : (((vs ++ [tl]).map V.ref).length : Int) - 1 = (vs.length : Nat) := by simp
          have hat : atI ((vs ++ [tl]).map V.ref) ((((vs ++ [tl]).map V.ref).length : Int) - 1) = some (.ref tl) := by
            rw [hlv]
            exact atI_nat (by simp)
          refine ⟨_, rfl, _, rfl, _, rfl, q, _, rfl, .inl (SqL.of hus4), _, _, rfl, rfl, q, _, _, _, rfl, rfl, hus4, hat, tl, _, 1, _, rfl, rfl, htl, at1, _, _, rfl, rfl, _, rfl, ?_⟩
          have hst : lsStep g (init ++ [l]) t = if t < l.2 then init ++ [(l.1, t + g)] else (init ++ [l]) ++ [(t, t + g)] := by
            unfold lsStep
            rw [List.getLast?_concat]
            show (if t < l.2 then (init ++ [l]).dropLast ++ [(l.1, t + g)] else _) = _
            rw [List.dropLast_concat]
          by_cases c : t < l.2
          · rw [decide_eq_true c]
            rw [if_pos c] at hst
            refine iteT ⟨_, rfl, _, rfl, q, _, rfl, .inl (SqL.of hus4), _, _, rfl, rfl, q, _, _, _, rfl, rfl, hus4, hat, tl, _, 0, _, rfl, rfl, htl, at0, _, rfl, _, rfl, _, _, rfl, rfl, two, fun q2 hq2 => ?_⟩
            have hqq : (upd H4 q2 (.tup [.int l.1, .int (t + g)])) q = some (.lst ((vs ++ [tl]).map V.ref)) := Ex.upd hq2 _ _ hus4
            refine ⟨_, rfl, _, rfl, q, _, rfl, .inl (SqL.of hqq), _, _, rfl, rfl, q, _, _, vs.length, rfl, rfl, hqq, ?_, ?_⟩
            · rw [hlv]
              unfold ixN
              have : (vs.length : Int) < (((vs ++ [tl]).map V.ref).length : Nat) := by
                rw [List.length_map, List.length_append]
                show (vs.length : Int) < ((vs.length + 1 : Nat) : Int)
                omega
              rw [if_pos (by omega), if_pos this, Int.toNat_natCast]
            · have eset : ((vs ++ [tl]).map V.ref).set vs.length (.ref q2) = (vs ++ [q2]).map V.ref := by
                rw [List.map_append, List.map_append]
                have : vs.length = (vs.map V.ref).length := by simp
                rw [this, List.set_append_right _ _ (Nat.le_refl _), Nat.sub_self]
                rfl
              rw [eset]
              have kt : KT' (upd H4 q2 (.tup [.int l.1, .int (t + g)])) (upd (upd H4 q2 (.tup [.int l.1, .int (t + g)])) q (.lst ((vs ++ [q2]).map V.ref))) := fun b ys h => by
                rw [L2.upd_ne (fun z => by rw [z, hqq] at h; cases h)]
                exact h
              refine ⟨⟨_, rfl⟩, fun b o n h => ?_, vs ++ [q2], upd_same, ?_⟩
              · rw [L2.upd_ne n]
                exact Ex.upd hq2 _ _ (e4 _ _ (e3 _ _ n h))
              · rw [hS, hst]
                exact paired_app (Ps.ex pa fun b xs h => kt _ _ (Ex.upd hq2 _ _ h)) (.cons (kt _ _ upd_same) .nil)
          · rw [decide_eq_false c]
            rw [if_neg c] at hst
            refine iteF ⟨_, rfl, .inl ⟨rfl, _, SqL.of hus4⟩, _, rfl, _, rfl, _, rfl, _, _, rfl, rfl, two, fun q2 hq2 => ⟨q, _, _, rfl, rfl, Ex.upd hq2 _ _ hus4, ?_, ?_⟩⟩
            · rw [List.length_map, hlu]
              omega
            · exact app hst q2 hq2
    · rintro σ H3 ⟨⟨v, rfl⟩, e3, us, hus, ps⟩
      rw [List.length_map, List.take_length] at ps
      refine ⟨_, rfl, fin H3 q us ns' (fun b o h => e3 _ _ (fun z => by rw [z, hq] at h; cases h) (e2 _ _ (e1 _ _ h))) hus ps pm so⟩
end
end K8
set_option Elab.async false
set_option linter.all false
set_option maxRecDepth 100000
set_option maxHeartbeats 4000000
namespace K8
open PySem PySem.Spec PyProof.Rows L2 KB KC KD KS LamX Q1 R8
def ExD.of {d : Addr} {H H' : Hp} (e : Ex H H') : ExD d H H' := fun b o _ h => e b o h
theorem ExD.trans {d : Addr} {H H1 H2 : Hp} (e : ExD d H H1) (f : ExD d H1 H2) : ExD d H H2 := fun b o n h => f b o n (e b o n h)
theorem IsDice.ex {H H' : Hp} {d : Addr} (i : IsDice H d) (e : Ex H H') : IsDice H' d := let ⟨a, b, k, h⟩ := i; ⟨a, b, k, e _ _ h⟩
theorem roll_step {H : Hp} {d : Addr} {m : Int} {Q : VK} {E : XK} (i : IsDice H d) (h0 : 0 < m) (h1 : m ≤ 100000000) (q : ∀ r H', 0 ≤ r → r < m → ExD d H H' → IsDice H' d → Q (.int r) H') : spRoll [.ref d, .int m] H Q E := by
  unfold spRoll
  exact ⟨d, m, rfl, i, h0, h1, fun r a b k l u => q r _ l u (fun c o n e => by rw [L2.upd_ne n]; exact e) ⟨a, b, k, upd_same⟩⟩
theorem rounds_step {K : PySem.W.Frag} {H : Hp} {s : Addr} {ns : List Int} {Q : VK} {E : XK} (h : SqL K H s (ns.map V.int)) (fin : ∀ H' p d, Ex H H' → H' p = some (.lst [.ref d]) → IsDice H' d → Q (.ref p) H') : spRounds K [.ref s, .int 1] H Q E := by
  unfold spRounds
  exact ⟨s, ns, rfl, h, fin⟩
theorem lspans_step {H : Hp} {a : Addr} {ts : List Int} {g : Int} {Q : VK} {E : XK} (h : H a = some (.lst (ts.map V.int))) (hl : ts.length < 64) (fin : ∀ H' q us ns', Ex H H' → H' q = some (.lst (us.map V.ref)) → Ps H' us (lawSp g ns') → ns'.Perm ts → ns'.Pairwise (· ≤ ·) → Q (.ref q) H') : spLSpans [.ref a, .int g] H Q E := by
  unfold spLSpans
  exact ⟨a, ts, g, rfl, h, hl, fin⟩
theorem minit_stepR {C : Addr} {H1 : Hp} {x dx a : Addr} {ns : List Str} {R : VK} {E : XK} (h : H1 a = some (.lst (ns.map V.str))) (nd : ns.Nodup) (hl : ns.length ≤ 1000) (hx : H1 x = none) (hdx : H1 dx = none) (n : dx ≠ x)
    (q : ∀ H' dm di, Ex H1 H' → dm ≠ di → MarksAt C H' x dm di (tk0 ns) [] 0 → R .non H') : spMInit C [.ref x, .ref a] (upd (upd H1 dx (.own x)) x (.ins C dx [])) R E := by
  have ex : Ex H1 (upd (upd H1 dx (.own x)) x (.ins C dx [])) := Ex.on (Ex.upd hdx) hx
  unfold spMInit
  exact ⟨x, dx, a, ns, rfl, upd_same, ex _ _ h, nd, hl, fun H' dm di e _ _ ndi hm => q H' dm di (fun b o z => e b o (fun y => by rw [y, hx] at z; cases z) (ex _ _ z)) ndi hm⟩
theorem tell_step {C CJ : Addr} {H : Hp} {m dm di : Addr} {tk : Tk} {idl : List Str} {now : Int} {n : Str} {t : Int} {Q : VK} {E : XK} (hm : MarksAt C H m dm di tk idl now) (ndi : dm ≠ di) (hn : n.length ≤ 1000) (nd : (tk.map (·.1)).Nodup) (hl : tk.length ≤ 1000) (bad : n ∉ tk.map (·.1) → E (.ref CJ) none H)
    (good : n ∈ tk.map (·.1) → ∀ H', ExM m dm di H H' → MarksAt C H' m dm di (tellT tk n t) (idl.filter fun x => decide (x ≠ n)) (nowT (tellT tk n t) (idl.filter fun x => decide (x ≠ n)) now) → Q (.int (nowT (tellT tk n t) (idl.filter fun x => decide (x ≠ n)) now)) H') : spTell C CJ [.ref m, .str n, .int t] H Q E := by
  unfold spTell
  exact ⟨m, dm, di, tk, idl, now, n, t, rfl, hm, ndi, hn, nd, hl, bad, good⟩
theorem rest_step {C CJ : Addr} {H : Hp} {m dm di : Addr} {tk : Tk} {idl : List Str} {now : Int} {n : Str} {Q : VK} {E : XK} (hm : MarksAt C H m dm di tk idl now) (ndi : dm ≠ di) (hn : n.length ≤ 1000) (hl : tk.length ≤ 1000) (hil : idl.length ≤ 1000) (bad : n ∉ tk.map (·.1) → E (.ref CJ) none H)
    (good : n ∈ tk.map (·.1) → ∀ H', ExM m dm di H H' → MarksAt C H' m dm di tk (restI idl n) (nowT tk (restI idl n) now) → Q (.int (nowT tk (restI idl n) now)) H') : spRest C CJ [.ref m, .str n] H Q E := by
  unfold spRest
  exact ⟨m, dm, di, tk, idl, now, n, rfl, hm, ndi, hn, hl, hil, bad, good⟩
def Cal (P : Program) (w : World) (K : PySem.W.Frag) (mg : Str → Option Value) (base : Heap) (k : Nat) (x : Str) (ps : List Str) (sp : Sp) : Prop :=
  ∃ f fd, FnOk P w K mg base CX0 k f fd ps sp ∧ mg x = some (.ref f) ∧ PySem.W.keepIn K (.ref f) = true ∧ Binds K fd ps []
def CalM (P : Program) (w : World) (K : PySem.W.Frag) (mg : Str → Option Value) (base : Heap) (C : Addr) (CX : CXT) (k : Nat) (m : Str) (ps : List Str) (sp : Sp) : Prop :=
  ∃ f fd, FnOk P w K mg base CX k f fd ps sp ∧ Meth K C m f ∧ Binds K fd ps []
def CalI (P : Program) (w : World) (K : PySem.W.Frag) (mg : Str → Option Value) (base : Heap) (C : Addr) (CX : CXT) (k : Nat) (ps : List Str) (sp : Sp) : Prop :=
  ∃ f fd, FnOk P w K mg base CX k f fd ps sp ∧ Mk K C f ∧ Binds K fd ps []
abbrev qL : Str := "law.<locals>.<lambda>"
abbrev TT (Pl : Addr) : List (Addr × Str) := [(Pl, qL)]
structure LawE (P : Program) (w : World) (K : PySem.W.Frag) (mg : Str → Option Value) (base : Heap) (CM CW CS CJ Pl cL fTo : Addr) (fdTo : FuncData) : Prop where
  T : TxtL mg
  J : TxtJ K mg CJ
  BM : TxtK K mg CM
  BW : TxtW K mg CW
  BS : TxtS K mg CS
  TBl : LamX.TabB base mg cL Pl
  rounds : Cal P w K mg base 2 "_law_rounds" ["script", "most"] (spRounds K)
  roll : Cal P w K mg base 1 "_law_roll" ["dice", "many"] spRoll
  spans : Cal P w K mg base 1 "_law_spans" ["times", "gap"] spLSpans
  minit : CalI P w K mg base CM CX0 1 ["self", "names"] (spMInit CM)
  tell : CalM P w K mg base CM (L2.CX P w) 2 "tell" ["self", "name", "time"] (spTell CM CJ)
  rest : CalM P w K mg base CM (L2.CX P w) 2 "rest" ["self", "name"] (spRest CM CJ)
  now : CalM P w K mg base CM CX0 1 "time_now" ["self"] (spNow CM)
  winit : CalI P w K mg base CW (L2.CX P w) 1 ["self", "length", "step"] (spWInit CW CJ)
  around : CalM P w K mg base CW CX0 1 "around" ["self", "time"] (spAround CW)
  sinit : CalI P w K mg base CS (L2.CX P w) 1 ["self", "gap"] (spSInit CS CJ)
  joined : CalM P w K mg base CS CX0 1 "joined" ["self", "spans", "time"] (spJoined CS)
  told : FnP K "_law_told" "_law_told" sTold [] fTo fdTo
  gTold : mg "_law_told" = some (.ref fTo)
abbrev nLaw : List Str := ["script", "dice", "names", "name", "marks", "told", "idle", "now", "found", "time", "rows", "windows", "gap", "times", "spans", "sessions", "k", "before", "span", "taken", "bad", "length", "step", "one", "begin", "f"]
theorem scLaw : FnScope nLaw ["script"] (defScope sLaw) := ⟨rfl, rfl, rfl, by decide +kernel, rfl, by decide +kernel, by decide +kernel⟩
theorem scTold : FnScope ["what"] ["what"] (defScope sTold) := ⟨rfl, rfl, rfl, by decide +kernel, rfl, by decide +kernel, by decide +kernel⟩
def forBody : Stmt → List Stmt
  | .For _ _ body _ _ => body
  | _ => []
abbrev pass0' : Stmt := .Pass ⟨0, 0, 0, 0⟩
abbrev law0 : List Stmt := forBody ((defBody sLaw).getD 0 pass0')
abbrev mBody : List Stmt := forBody (law0.getD 2 pass0')
abbrev sBody : List Stmt := forBody (law0.getD 7 pass0')
structure Bs (Pl d p : Addr) (H : Hp) : Prop where
  dice : IsDice H d
  tabs : Tabs (TT Pl) H
  hp : H p = some (.lst [.ref d])
theorem Bs.ne {Pl d p : Addr} {H : Hp} (b : Bs Pl d p H) : p ≠ d := fun c => by
  obtain ⟨x, y, z, hd⟩ := b.dice
  have := b.hp
  rw [c, hd] at this
  injection this with h
  injection h with h
  injection h with h _
  cases h
theorem Bs.ex {Pl d p : Addr} {H H' : Hp} (b : Bs Pl d p H) (e : Ex H H') : Bs Pl d p H' := ⟨b.dice.ex e, b.tabs.ext e, e _ _ b.hp⟩
theorem tabs_but {T : List (Addr × Str)} {H H' : Hp} (t : Tabs T H) (e : ∀ b o, H b = some o → (∀ xs, o ≠ .lst xs) → (∀ C dx fs, o ≠ .ins C dx fs) → (∀ ks, o ≠ .dK ks) → H' b = some o) : Tabs T H' := fun p hp => by
  obtain ⟨ps, h1, h2, h3⟩ := t p hp
  refine ⟨ps, e _ _ h1 (fun _ z => nomatch z) (fun _ _ _ z => nomatch z) (fun _ z => nomatch z), h2, fun pos cv hc => ?_⟩
  obtain ⟨c, e1, e2⟩ := h3 pos cv hc
  exact ⟨c, e1, e _ _ e2 (fun _ z => nomatch z) (fun _ _ _ z => nomatch z) (fun _ z => nomatch z)⟩
theorem Bs.roll {Pl d p : Addr} {H H' : Hp} (b : Bs Pl d p H) (e : ExD d H H') (i : IsDice H' d) : Bs Pl d p H' :=
  ⟨i, tabs_but b.tabs fun c o h h1 _ _ => e c o (fun z => by
    obtain ⟨x, y, k, hd⟩ := b.dice
    rw [z, hd] at h
    exact h1 _ (Option.some.inj h).symm) h, e _ _ b.ne b.hp⟩
structure NsOk (ns : List Str) : Prop where
  nd : ns.Nodup
  l1 : 1 ≤ ns.length
  l3 : ns.length ≤ 3
  lt : ∀ n ∈ ns, n.length ≤ 1000
theorem cut_names {r : Int} (h0 : 0 ≤ r) (h1 : r < 3) : ∃ ns, cutV [V.str "a", V.str "b", V.str "c"] none (some (1 + r)) = ns.map V.str ∧ NsOk ns := by
  have : r = 0 ∨ r = 1 ∨ r = 2 := by omega
  rcases this with rfl | rfl | rfl
  · exact ⟨["a"], rfl, by decide +kernel, by decide, by decide, by decide +kernel⟩
  · exact ⟨["a", "b"], rfl, by decide +kernel, by decide, by decide, by decide +kernel⟩
  · exact ⟨["a", "b", "c"], rfl, by decide +kernel, by decide, by decide, by decide +kernel⟩
def RKv : Hp → V → Str × Int → Prop := fun H v p => ∃ t, v = .ref t ∧ H t = some (.tup [.str p.1, .int p.2])
theorem RKv.stab : ∀ H H' v a, KT' H H' → RKv H v a → RKv H' v a := fun H H' v a k ⟨t, e, h⟩ => ⟨t, e, k _ _ h⟩
theorem rkv_ps {K : PySem.W.Frag} {H : Hp} : ∀ {xs : List V} {tk : Tk}, Paired (RKv H) xs tk → ∃ ps : List Addr, xs = ps.map V.ref ∧ Paired (fun p kv => SqT K H p [kV kv.1, kv.2]) ps (kvT tk)
  | _, _, .nil => ⟨[], rfl, .nil⟩
  | _, _, .cons ⟨t, e, h⟩ r => by
    obtain ⟨ps, rfl, h2⟩ := rkv_ps (K := K) r
    exact ⟨t :: ps, by rw [e]; rfl, .cons (SqT.of h) h2⟩
theorem merge_kvT : ∀ (B A : Tk), ((A ++ B).map (·.1)).Nodup → mergeK (kvT A) (kvT B) = kvT (A ++ B)
  | [], A, _ => by rw [List.append_nil]; rfl
  | p :: B, A, nd => by
    have hp : p.1 ∉ A.map (·.1) := fun h => by
      rw [List.map_append, List.nodup_append] at nd
      exact nd.2.2 _ h p.1 (by simp) rfl
    have e : putK (kvT A) (Sum.inr p.1) (.int p.2) = kvT (A ++ [p]) := by
      rw [putK_new _ (by rw [valV_kvT, lookT_none.mpr hp]; rfl)]
      unfold kvT
      rw [List.map_append]
      rfl
    have h2 := merge_kvT B (A ++ [p]) (by simpa using nd)
    rw [List.append_assoc] at h2
    show mergeK (putK (kvT A) (Sum.inr p.1) (.int p.2)) (kvT B) = _
    rw [e, h2]
    rfl
theorem tk0_names (ns : List Str) : (tk0 ns).map (·.1) = ns := by
  unfold tk0
  induction ns with
  | nil => rfl
  | cons a r ih => rw [List.map_cons, List.map_cons, ih]
section
variable {P : Program} {w : World} {K : PySem.W.Frag} {mg : Str → Option Value} {base : Heap} {CM CW CS CJ Pl cL fTo fL : Addr} {fdTo : FuncData} {A : Around} {outer : List PySem.Env} {s : Shared} {H0 : Hp} {E0' : XK}
abbrev xLaw (P : Program) (w : World) (K : PySem.W.Frag) (mg : Str → Option Value) (base : Heap) (fL cL : Addr) (A : Around) (outer : List PySem.Env) (s : Shared) (H0 : Hp) (E0' : XK) : Cx := (cxOf CX0 P w K mg base nLaw "law" (defScope sLaw) fL (.ref cL) A outer s H0 E0').nox
theorem qLaw : (Str.ofString "law" ++ Str.ofString ".<locals>.") ++ Str.ofString "<lambda>" = qL := by decide +kernel
theorem law_0 (ve : LawE P w K mg base CM CW CS CJ Pl cL fTo fdTo) (hr : Room 11 (xLaw P w K mg base fL cL A outer s H0 E0').A) :
    ∃ t, PS (xLaw P w K mg base fL cL A outer s H0 E0') (law0.getD 0 pass0') t ∧ ∀ (D : Ends) (a0 a2 a3 a4 a5 a6 a7 a8 a9 a10 a11 a12 a13 a14 a15 a16 a17 a18 a19 a20 a21 a22 a23 a24 a25 : Option V) (H : Hp) (d p : Addr), Bs Pl d p H →
      (∀ (H' : Hp) (na : Addr) (ns : List Str), Bs Pl d p H' → H' na = some (.lst (ns.map V.str)) → NsOk ns → D.nx [a0, some (.ref d), some (.ref na), a3, a4, a5, a6, a7, a8, a9, a10, a11, a12, a13, a14, a15, a16, a17, a18, a19, a20, a21, a22, a23, a24, a25] H') → t D [a0, some (.ref d), a2, a3, a4, a5, a6, a7, a8, a9, a10, a11, a12, a13, a14, a15, a16, a17, a18, a19, a20, a21, a22, a23, a24, a25] H := by
  obtain ⟨f1, fd1, G1, g1, k1, b1⟩ := ve.roll
  refine ⟨_, ps_set (i := 2) scLaw.nd rfl (Or.inl rfl) (pe_slice sl_list (pe_lst (pa_cons pe_str (pa_cons pe_str (pa_cons pe_str pa_nil)))) po_none (po_some (pe_op op_add pe_int (pe_call G1 (hr.mono (by decide)) (by rfl) g1 k1 b1 .nil pass0 (pa_cons (pv 1) (pa_cons pe_int pa_nil)))))), ?_⟩
  intro D a0 a2 a3 a4 a5 a6 a7 a8 a9 a10 a11 a12 a13 a14 a15 a16 a17 a18 a19 a20 a21 a22 a23 a24 a25 H d p b fin
  refine ⟨by decide, fun l0 hl0 => ⟨_, rfl, roll_step (b.ex (Ex.upd hl0)).dice (by decide) (by decide) fun r H2 r0 r3 e2 i2 => ⟨_, _, rfl, rfl, 1 + r, rfl, l0, _, rfl, SqL.of (e2 _ _ (fun z => ?_) upd_same), fun na hna => ?_⟩⟩⟩
  · obtain ⟨x, y, k, hd⟩ := b.dice
    rw [z, hd] at hl0
    cases hl0
  · obtain ⟨ns, e, ok⟩ := cut_names r0 r3
    rw [e]
    exact fin _ na ns (((b.ex (Ex.upd hl0)).roll e2 i2).ex (Ex.upd hna)) upd_same ok
theorem law_1 (ve : LawE P w K mg base CM CW CS CJ Pl cL fTo fdTo) (hr : Room 11 (xLaw P w K mg base fL cL A outer s H0 E0').A) :
    ∃ t, PS (xLaw P w K mg base fL cL A outer s H0 E0') (law0.getD 1 pass0') t ∧ ∀ (D : Ends) (a0 a1 a3 a4 a5 a6 a7 a8 a9 a10 a11 a12 a13 a14 a15 a16 a17 a18 a19 a20 a21 a22 a23 a24 a25 : Option V) (H : Hp) (na : Addr) (ns : List Str), H na = some (.lst (ns.map V.str)) → NsOk ns →
      (∀ (H' : Hp) (m dm di td il : Addr), Ex H H' → dm ≠ di → td ≠ dm → td ≠ di → MarksAt CM H' m dm di (tk0 ns) [] 0 → H' td = some (.dK (kvT (tk0 ns))) → H' il = some (.lst (([] : List Str).map V.str)) → D.nx [a0, a1, some (.ref na), a3, some (.ref m), some (.ref td), some (.ref il), some (.int 0), a8, a9, a10, a11, a12, a13, a14, a15, a16, a17, a18, a19, a20, a21, a22, a23, a24, a25] H') → t D [a0, a1, some (.ref na), a3, a4, a5, a6, a7, a8, a9, a10, a11, a12, a13, a14, a15, a16, a17, a18, a19, a20, a21, a22, a23, a24, a25] H := by
  obtain ⟨f1, fd1, G1, M1, b1⟩ := ve.minit
  refine ⟨_, ps_asg (pe_tup (pa_cons (pe_make M1 G1 (hr.mono (by decide)) (by rfl) ve.BM.gC b1 .nil pass0 (pa_cons (pv 2) pa_nil))
      (pa_cons (pe_callTy (call_dictP rfl) (by rfl) ve.T.dict (by decide +kernel) (pa_cons (pe_lc (own := [("name", 3)]) (g := gName 3) (tt := tYes) rfl scLaw.nd (pi_list (pv 2)) (blkOk_by (N := nLaw) (sc := defScope sLaw) (by decide +kernel))
          (fun _ _ _ _ _ => pg_name (i := 3) scLaw.nd rfl (Or.inl rfl)) (fun _ _ _ _ _ => pts_nil) (fun _ _ _ _ _ => pe_tup (pa_cons (pv 3) (pa_cons pe_int pa_nil)))) pa_nil))
      (pa_cons (pe_lst pa_nil) (pa_cons pe_int pa_nil)))))
    (pg_tup rfl (pgs_cons (pg_name (i := 4) scLaw.nd rfl (Or.inl rfl)) (pgs_cons (pg_name (i := 5) scLaw.nd rfl (Or.inr rfl)) (pgs_cons (pg_name (i := 6) scLaw.nd rfl (Or.inr rfl)) (pgs_cons (pg_name (i := 7) scLaw.nd rfl (Or.inl rfl)) pgs_nil))))), ?_⟩
  intro D a0 a1 a3 a4 a5 a6 a7 a8 a9 a10 a11 a12 a13 a14 a15 a16 a17 a18 a19 a20 a21 a22 a23 a24 a25 H na ns hna ok fin
  have l3 := ok.l3
  refine ⟨_, rfl, fun m dx hx hdx nx => minit_stepR hna ok.nd (by omega) hx hdx nx fun H1 dm di e1 ndi hm => ⟨rfl, ?_⟩⟩
  refine ⟨_, rfl, na, rfl, ⟨_, SqL.of (e1 _ _ hna)⟩, fun D1 hD1 => ?_⟩
  refine lcG walk_list RKv (fun j => ns[j]?.bind fun n => some (n, (0 : Int))) RKv.stab hD1 (by rw [List.length_map]; omega) (fun H5 e5 => SqL.of (e5 _ _ (e1 _ _ hna))) (fun i H5 x H6 _ _ h => yat_ex h) (fun j x H5 H6 R0 N0 hj e5 hy hn hsm => ?_) (fun H2 xs e2 hx2 hps => ?_)
  · obtain ⟨rfl, hxi⟩ := hy
    rw [List.getElem?_map] at hxi
    obtain ⟨n, hn1, rfl⟩ := Option.map_eq_some_iff.mp hxi
    refine ⟨rfl, _, rfl, (by show 2 ≤ sizeLine; decide), fun t ht => ?_⟩
    exact hsm (n, 0) (by rw [hn1]; rfl) _ _ (Ex.upd ht) ⟨t, rfl, upd_same⟩
  · rw [List.length_map, range_fm, map_fm] at hps
    have hps' : Paired (RKv H2) xs (tk0 ns) := hps
    obtain ⟨ps, rfl, pp⟩ := rkv_ps (K := K) hps'
    refine ⟨D1, ps, kvT (tk0 ns), rfl, SqL.of hx2, pp, fun td htd => ?_⟩
    have em : mergeK [] (kvT (tk0 ns)) = kvT (tk0 ns) := merge_kvT (tk0 ns) [] (by rw [List.nil_append, tk0_names]; exact ok.nd)
    rw [em]
    have hm2 := hm.ex e2
    have n1 : td ≠ dm := fun z => by rw [z, hm2.d] at htd; cases htd
    have n2 : td ≠ di := fun z => by rw [z, hm2.i] at htd; cases htd
    have e3 : Ex H2 (upd H2 td (.dK (kvT (tk0 ns)))) := Ex.upd htd
    refine ⟨(by show 0 ≤ sizeLine; decide), fun il hil => ⟨(by show 4 ≤ sizeLine; decide), fun q hq => ?_⟩⟩
    refine ⟨q, _, rfl, SqT.of upd_same, rfl, _, _, rfl, _, _, rfl, _, _, rfl, _, _, rfl, rfl, ?_⟩
    have e4 := (Ex.upd (o := .lst []) hil).trans (Ex.upd (o := .tup [.ref m, .ref td, .ref il, .int 0]) hq)
    exact fin _ m dm di td il (((e1.trans e2).trans e3).trans e4) ndi n1 n2 (hm2.ex (e3.trans e4)) (e4 _ _ upd_same) (Ex.upd hq _ _ upd_same)
end
end K8
set_option Elab.async false
set_option linter.all false
set_option maxRecDepth 100000
set_option maxHeartbeats 4000000
namespace K8
open PySem PySem.Spec PyProof.Rows L2 KB KC KD KS LamX Q1 R8
structure Ms (CM Pl d p m dm di na td il : Addr) (ns : List Str) (tk : Tk) (idl : List Str) (nw : Int) (H : Hp) : Prop where
  b : Bs Pl d p H
  hm : MarksAt CM H m dm di tk idl nw
  ndi : dm ≠ di
  n1 : td ≠ dm
  n2 : td ≠ di
  hna : H na = some (.lst (ns.map V.str))
  htd : H td = some (.dK (kvT tk))
  hil : H il = some (.lst (idl.map V.str))
  ok : NsOk ns
  nm : tk.map (·.1) = ns
theorem Ms.ex {CM Pl d p m dm di na td il : Addr} {ns : List Str} {tk : Tk} {idl : List Str} {nw : Int} {H H' : Hp} (a : Ms CM Pl d p m dm di na td il ns tk idl nw H) (e : Ex H H') : Ms CM Pl d p m dm di na td il ns tk idl nw H' :=
  ⟨a.b.ex e, a.hm.ex e, a.ndi, a.n1, a.n2, e _ _ a.hna, e _ _ a.htd, e _ _ a.hil, a.ok, a.nm⟩
theorem dice_neI {H : Hp} {d b : Addr} {o : HO} (i : IsDice H d) (h : H b = some o) (n : ∀ xs, o ≠ .lst xs) : b ≠ d := fun c => by
  obtain ⟨x, y, z, hd⟩ := i
  rw [c, hd] at h
  exact n _ (Option.some.inj h).symm
theorem dice_neS {H : Hp} {d b : Addr} {l : List Str} (i : IsDice H d) (h : H b = some (.lst (l.map V.str))) : b ≠ d := fun c => by
  obtain ⟨x, y, z, hd⟩ := i
  rw [c, hd] at h
  injection h with h
  injection h with h
  cases l with
  | nil => cases h
  | cons a r =>
    rw [List.map_cons] at h
    injection h with h _
    cases h
theorem Ms.roll {CM Pl d p m dm di na td il : Addr} {ns : List Str} {tk : Tk} {idl : List Str} {nw : Int} {H H' : Hp} (a : Ms CM Pl d p m dm di na td il ns tk idl nw H) (e : ExD d H H') (i : IsDice H' d) : Ms CM Pl d p m dm di na td il ns tk idl nw H' := by
  obtain ⟨dx, ho⟩ := a.hm.o
  have bd := a.b.dice
  exact ⟨a.b.roll e i, ⟨⟨dx, e _ _ (dice_neI bd ho (fun _ z => nomatch z)) ho⟩, e _ _ (dice_neI bd a.hm.d (fun _ z => nomatch z)) a.hm.d, e _ _ (dice_neI bd a.hm.i (fun _ z => nomatch z)) a.hm.i⟩, a.ndi, a.n1, a.n2,
    e _ _ (dice_neS bd a.hna) a.hna, e _ _ (dice_neI bd a.htd (fun _ z => nomatch z)) a.htd, e _ _ (dice_neS bd a.hil) a.hil, a.ok, a.nm⟩
theorem Bs.marks {C Pl d p m dm di : Addr} {tk : Tk} {idl : List Str} {nw : Int} {H H' : Hp} (b : Bs Pl d p H) (hm : MarksAt C H m dm di tk idl nw) (e : ExM m dm di H H') : Bs Pl d p H' := by
  obtain ⟨dx, ho⟩ := hm.o
  obtain ⟨x, y, k, hd⟩ := b.dice
  have nl : ∀ {c : Addr} {l : List V}, H c = some (.lst l) → c ≠ m ∧ c ≠ dm ∧ c ≠ di := fun h => ⟨ne_of h ho (fun z => nomatch z), ne_of h hm.d (fun z => nomatch z), ne_of h hm.i (fun z => nomatch z)⟩
  obtain ⟨d1, d2, d3⟩ := nl hd
  obtain ⟨p1, p2, p3⟩ := nl b.hp
  refine ⟨⟨x, y, k, e _ _ d1 d2 d3 hd⟩, tabs_but b.tabs fun c o h h1 h2 h3 => e c o (fun z => ?_) (fun z => ?_) (fun z => ?_) h, e _ _ p1 p2 p3 b.hp⟩
  · rw [z, ho] at h; exact h2 _ _ _ (Option.some.inj h).symm
  · rw [z, hm.d] at h; exact h3 _ (Option.some.inj h).symm
  · rw [z, hm.i] at h; exact h3 _ (Option.some.inj h).symm
theorem Ms.len {CM Pl d p m dm di na td il : Addr} {ns : List Str} {tk : Tk} {idl : List Str} {nw : Int} {H : Hp} (a : Ms CM Pl d p m dm di na td il ns tk idl nw H) : tk.length ≤ 3 ∧ (tk.map (·.1)).Nodup ∧ ns.length ≤ 3 := by
  have h1 := congrArg List.length a.nm
  rw [List.length_map] at h1
  have := a.ok.l3
  exact ⟨by omega, by rw [a.nm]; exact a.ok.nd, this⟩
theorem look_at {tk : Tk} (nd : (tk.map (·.1)).Nodup) {n : Str} (h : n ∈ tk.map (·.1)) : ∃ v, lookT tk n = some v := by
  cases e : lookT tk n with
  | some v => exact ⟨v, rfl⟩
  | none => exact absurd h (lookT_none.mp e)
theorem fm_congr {α β : Type} {f g : α → Option β} : ∀ {l : List α}, (∀ a ∈ l, f a = g a) → l.filterMap f = l.filterMap g
  | [], _ => rfl
  | a :: l, h => by
    rw [List.filterMap_cons, List.filterMap_cons, h a List.mem_cons_self, fm_congr fun b hb => h b (List.mem_cons_of_mem _ hb)]
theorem tell_law {tk : Tk} (nd : (tk.map (·.1)).Nodup) (n : Str) (t : Int) : ((tk.map (·.1)).filterMap fun o => (lookT tk o).map fun v => (o, if o = n then mx v t else v)) = tellT tk n t := by
  unfold tellT
  rw [List.filterMap_map, ← List.filterMap_eq_map]
  refine fm_congr fun p hp => ?_
  show (lookT tk p.1).map _ = some _
  rw [lookT_mem nd hp]
  show some _ = some _
  congr 1
  show (p.1, if p.1 = n then mx p.2 t else p.2) = if p.1 = n then (p.1, mx p.2 t) else p
  by_cases e : p.1 = n
  · rw [if_pos e, if_pos e]
  · rw [if_neg e, if_neg e]
theorem awake_law {tk : Tk} (nd : (tk.map (·.1)).Nodup) (idl : List Str) : ((tk.map (·.1)).filterMap fun o => if decide (o ∉ idl) = true then lookT tk o else none) = awakeT tk idl := by
  unfold awakeT
  rw [List.filterMap_map, ← List.filterMap_eq_map, List.filterMap_filter]
  refine fm_congr fun p hp => ?_
  show (if decide (p.1 ∉ idl) = true then lookT tk p.1 else none) = _
  rw [lookT_mem nd hp]
  by_cases e : p.1 ∉ idl
  · rw [decide_eq_true e]; rfl
  · rw [decide_eq_false e]; rfl
theorem rest_list (idl : List Str) (n : Str) : idl.map V.str ++ (List.replicate (if (!inV (V.str n) (idl.map V.str)) = true then (1 : Int) else 0).toNat [V.str n]).flatten = (restI idl n).map V.str := by
  have e : inV (V.str n) (idl.map V.str) = decide (n ∈ idl) := by
    unfold inV
    rw [List.any_map, Bool.eq_iff_iff, List.any_eq_true, decide_eq_true_eq]
    constructor
    · rintro ⟨x, hx, h⟩
      have : (x == n) = true := h
      rw [← eq_of_beq this]
      exact hx
    · intro h
      exact ⟨n, h, by show (n == n) = true; exact beq_self_eq_true n⟩
  rw [e]
  unfold restI
  by_cases h : n ∈ idl
  · rw [if_pos h, decide_eq_true h]
    simp
  · rw [if_neg h, decide_eq_false h]
    simp
theorem flat_strs (l : List Str) : (l.map V.str).all flatV = true := by
  rw [List.all_map, List.all_eq_true]
  intro x _
  rfl
section
variable {P : Program} {w : World} {K : PySem.W.Frag} {mg : Str → Option Value} {base : Heap} {CM CW CS CJ Pl cL fTo fL : Addr} {fdTo : FuncData} {A : Around} {outer : List PySem.Env} {s : Shared} {H0 : Hp} {E0' : XK}
theorem m_0 (ve : LawE P w K mg base CM CW CS CJ Pl cL fTo fdTo) (hr : Room 11 (xLaw P w K mg base fL cL A outer s H0 E0').A) :
    ∃ t, PS (xLaw P w K mg base fL cL A outer s H0 E0') (mBody.getD 0 pass0') t ∧ ∀ (D : Ends) (a0 a3 a7 a8 a9 a10 a11 a12 a13 a14 a15 a16 a17 a18 a19 a20 a21 a22 a23 a24 a25 : Option V) (H : Hp) (d p m dm di na td il : Addr) (ns : List Str) (tk : Tk) (idl : List Str) (nw : Int), Ms CM Pl d p m dm di na td il ns tk idl nw H →
      (∀ (H' : Hp) (n : Str), Ms CM Pl d p m dm di na td il ns tk idl nw H' → n ∈ ns → D.nx [a0, some (.ref d), some (.ref na), some (.str n), some (.ref m), some (.ref td), some (.ref il), a7, a8, a9, a10, a11, a12, a13, a14, a15, a16, a17, a18, a19, a20, a21, a22, a23, a24, a25] H') → t D [a0, some (.ref d), some (.ref na), a3, some (.ref m), some (.ref td), some (.ref il), a7, a8, a9, a10, a11, a12, a13, a14, a15, a16, a17, a18, a19, a20, a21, a22, a23, a24, a25] H := by
  obtain ⟨f1, fd1, G1, g1, k1, b1⟩ := ve.roll
  refine ⟨_, ps_set (i := 3) scLaw.nd rfl (Or.inr rfl) (pe_ix ix_listD (pv 2) (pe_call G1 (hr.mono (by decide)) (by rfl) g1 k1 b1 .nil pass0 (pa_cons (pv 1) (pa_cons (pe_callB call_len_seq (by rfl) ve.T.len PySem.boot_len (pa_cons (pv 2) pa_nil)) pa_nil))) (fun _ _ => rfl)), ?_⟩
  intro D a0 a3 a7 a8 a9 a10 a11 a12 a13 a14 a15 a16 a17 a18 a19 a20 a21 a22 a23 a24 a25 H d p m dm di na td il ns tk idl nw a fin
  have l1 := a.ok.l1
  have l3 := a.ok.l3
  refine ⟨_, rfl, _, rfl, _, rfl, na, _, rfl, .inl (SqL.of a.hna), roll_step a.b.dice (by rw [List.length_map]; omega) (by rw [List.length_map]; omega) fun r H1 r0 r1 e i => ?_⟩
  rw [List.length_map] at r1
  have a1 := a.roll e i
  have hi : r.toNat < ns.length := by omega
  obtain ⟨n, hn⟩ : ∃ n, ns[r.toNat]? = some n := ⟨_, List.getElem?_eq_getElem hi⟩
  have hr' : r = (r.toNat : Nat) := by omega
  refine ⟨na, _, r, .str n, rfl, rfl, a1.hna, ?_, fin H1 n a1 (List.mem_of_getElem? hn)⟩
  rw [hr']
  exact atI_nat (by rw [List.getElem?_map, hn]; rfl)
theorem m_1 (ve : LawE P w K mg base CM CW CS CJ Pl cL fTo fdTo) (hr : Room 11 (xLaw P w K mg base fL cL A outer s H0 E0').A) :
    ∃ t, PS (xLaw P w K mg base fL cL A outer s H0 E0') (mBody.getD 1 pass0') t ∧ ∀ (D : Ends) (a0 a7 a8 a9 a10 a11 a12 a13 a14 a15 a16 a17 a18 a19 a20 a21 a22 a23 a24 a25 : Option V) (H : Hp) (d p m dm di na td il : Addr) (ns : List Str) (tk : Tk) (idl : List Str) (nw : Int) (n : Str), Ms CM Pl d p m dm di na td il ns tk idl nw H → n ∈ ns → idl.length ≤ 900 →
      (∀ (H' : Hp) (td' il' : Addr) (tk' : Tk) (idl' : List Str) (a9' : Option V), Ms CM Pl d p m dm di na td' il' ns tk' idl' (nowT tk' idl' nw) H' → idl'.length ≤ idl.length + 1 → D.nx [a0, some (.ref d), some (.ref na), some (.str n), some (.ref m), some (.ref td'), some (.ref il'), a7, some (.int (nowT tk' idl' nw)), a9', a10, a11, a12, a13, a14, a15, a16, a17, a18, a19, a20, a21, a22, a23, a24, a25] H') → t D [a0, some (.ref d), some (.ref na), some (.str n), some (.ref m), some (.ref td), some (.ref il), a7, a8, a9, a10, a11, a12, a13, a14, a15, a16, a17, a18, a19, a20, a21, a22, a23, a24, a25] H := by
  obtain ⟨f1, fd1, G1, g1, k1, b1⟩ := ve.roll
  obtain ⟨f2, fd2, G2, m2, b2⟩ := ve.rest
  obtain ⟨f3, fd3, G3, m3, b3⟩ := ve.tell
  have hu := hr.units
  have hu1 := Nat.lt_trans (Nat.add_lt_add_left (by decide : 1 < 64) _) hu
  refine ⟨_, ps_if (pt_cmpR op_eq (pe_call G1 (hr.mono (by decide)) (by rfl) g1 k1 b1 .nil pass0 (pa_cons (pv 1) (pa_cons pe_int pa_nil))) pe_int (nomark _))
    (pss_cons (ps_set (i := 6) scLaw.nd rfl (Or.inr rfl) (pe_op op_cat (pv 6) (pe_op op_rep (pe_lst (pa_cons (pv 3) pa_nil)) (pe_callTy call_int1 (by rfl) ve.T.int (by decide +kernel) (pa_cons (pe_cmpR op_notIn_seq (pv 3) (pv 6) (by rfl)) pa_nil)))))
      (pss_one (ps_set (i := 8) scLaw.nd rfl (Or.inl rfl) (pe_meth (CX := L2.CX P w) (pv 4) ve.BM.cl m2 G2 (hr.mono (by decide)) b2 .nil passL (pa_cons (pv 3) pa_nil)))))
    (pss_cons (ps_set (i := 9) scLaw.nd rfl (Or.inr rfl) (pe_call G1 (hr.mono (by decide)) (by rfl) g1 k1 b1 .nil pass0 (pa_cons (pv 1) (pa_cons pe_int pa_nil))))
      (pss_cons (ps_asg (pe_tup (pa_cons (pe_lc (own := [("one", 23)]) (g := gName 23) (tt := tTest (tOp rNe (tVar 23) (tVar 3))) (te := tVar 23) rfl scLaw.nd (pi_list (pv 6)) (blkOk_by (N := nLaw) (sc := defScope sLaw) (by decide +kernel))
            (fun _ _ _ _ _ => pg_name (i := 23) scLaw.nd rfl (Or.inl rfl)) (fun _ _ _ _ _ => pts_one (pt_cmpR op_ne (pv 23) (pv 3) (nomark _))) (fun _ _ _ _ _ => pv 23))
          (pa_cons (pe_callTy (call_dictP rfl) (by rfl) ve.T.dict (by decide +kernel) (pa_cons (pe_lc (own := [("one", 23)]) (g := gName 23) (tt := tYes)
            (te := tTup (tCons (tVar 23) (tCons (tIf (tTest (tOp rEq (tVar 23) (tVar 3))) (tCB (fun xs H Q => ∃ i j, xs = [.int i, .int j] ∧ Q (.int (if j > i then j else i)) H) (tCons (tDGet (tVar 5) (tVar 23)) (tCons (tVar 9) tNil))) (tDGet (tVar 5) (tVar 23))) tNil))) rfl scLaw.nd (pi_list (pv 2)) (blkOk_by (N := nLaw) (sc := defScope sLaw) (by decide +kernel))
            (fun _ _ _ _ _ => pg_name (i := 23) scLaw.nd rfl (Or.inl rfl)) (fun _ _ _ _ _ => pts_nil)
            (fun _ _ _ _ _ => pe_tup (pa_cons (pv 23) (pa_cons (pe_ifExp (pt_cmpR op_eq (pv 23) (pv 3) (nomark _)) (pe_callB (call_max2 rfl) (by rfl) ve.T.max (by decide +kernel) (pa_cons (pe_dget hu1 (pv 5) (pv 23) (fun _ _ => rfl)) (pa_cons (pv 9) pa_nil))) (pe_dget hu1 (pv 5) (pv 23) (fun _ _ => rfl))) pa_nil)))) pa_nil)) pa_nil)))
        (pg_tup rfl (pgs_cons (pg_name (i := 6) scLaw.nd rfl (Or.inr rfl)) (pgs_cons (pg_name (i := 5) scLaw.nd rfl (Or.inr rfl)) pgs_nil))))
      (pss_one (ps_set (i := 8) scLaw.nd rfl (Or.inl rfl) (pe_meth (CX := L2.CX P w) (pv 4) ve.BM.cl m3 G3 (hr.mono (by decide)) b3 .nil passL (pa_cons (pv 3) (pa_cons (pv 9) pa_nil))))))), ?_⟩
  intro D a0 a7 a8 a9 a10 a11 a12 a13 a14 a15 a16 a17 a18 a19 a20 a21 a22 a23 a24 a25 H d p m dm di na td il ns tk idl nw n a hn hil fin
  have hsl : sizeLine = 16777216 := rfl
  refine ⟨_, rfl, roll_step a.b.dice (by decide) (by decide) fun r H1 r0 r4 e i => ⟨rfl, _, rfl, ?_⟩⟩
  have a1 := a.roll e i
  clear a e i
  by_cases c : V.int r = V.int 0
  · rw [decide_eq_true c]
    refine iteT ?_
    refine ⟨_, rfl, _, rfl, (by show 1 ≤ sizeLine; decide), fun l1 hl1 => ?_⟩
    have e2 : Ex H1 (upd H1 l1 (.lst [.str n])) := Ex.upd hl1
    have h2 : (upd H1 l1 (.lst [.str n])) l1 = some (.lst [.str n]) := upd_same
    generalize upd H1 l1 (.lst [.str n]) = H2 at e2 h2
    have a2 := a1.ex e2
    refine ⟨_, rfl, _, rfl, il, _, rfl, .inl (SqL.of a2.hil), rfl, flat_strs idl, .inr ⟨_, rfl, l1, _, _, rfl, rfl, h2, ?_, ?_, ?_, fun p3 hp3 => ?_⟩⟩
    · cases inV (V.str n) (idl.map V.str) <;> decide
    · cases inV (V.str n) (idl.map V.str) <;> decide
    · show 1 * _ ≤ _
      cases inV (V.str n) (idl.map V.str) <;> decide
    rw [show (if true = true then !inV (V.str n) (idl.map V.str) else inV (V.str n) (idl.map V.str)) = (!inV (V.str n) (idl.map V.str)) from rfl]
    have e3 : Ex H2 (upd H2 p3 (.lst (List.replicate (if (!inV (V.str n) (idl.map V.str)) = true then (1 : Int) else 0).toNat [V.str n]).flatten)) := Ex.upd hp3
    have h3 : (upd H2 p3 (.lst (List.replicate (if (!inV (V.str n) (idl.map V.str)) = true then (1 : Int) else 0).toNat [V.str n]).flatten)) p3 = some (.lst (List.replicate (if (!inV (V.str n) (idl.map V.str)) = true then (1 : Int) else 0).toNat [V.str n]).flatten) := upd_same
    generalize upd H2 p3 (.lst (List.replicate (if (!inV (V.str n) (idl.map V.str)) = true then (1 : Int) else 0).toNat [V.str n]).flatten) = H3 at e3 h3
    have a3 := a2.ex e3
    have lr : (restI idl n).length ≤ idl.length + 1 := by unfold restI; split <;> simp
    have lcat : (idl.map V.str).length + (List.replicate (if (!inV (V.str n) (idl.map V.str)) = true then (1 : Int) else 0).toNat [V.str n]).flatten.length ≤ sizeLine := by
      have := congrArg List.length (rest_list idl n)
      rw [List.length_append] at this
      rw [this, List.length_map]
      omega
    refine ⟨il, p3, _, _, rfl, rfl, a3.hil, h3, lcat, fun q hq => ?_⟩
    rw [rest_list] at *
    have e4 : Ex H3 (upd H3 q (.lst ((restI idl n).map V.str))) := Ex.upd hq
    have h4 : (upd H3 q (.lst ((restI idl n).map V.str))) q = some (.lst ((restI idl n).map V.str)) := upd_same
    generalize upd H3 q (.lst ((restI idl n).map V.str)) = H4 at e4 h4
    have a4 := a3.ex e4
    obtain ⟨dx, ho⟩ := a4.hm.o
    obtain ⟨lt, nd, l3⟩ := a4.len
    refine ⟨_, rfl, m, dx, _, rfl, ho, mF_m (by decide +kernel) (by decide +kernel) (by decide +kernel), _, rfl, rest_step a4.hm a4.ndi (a4.ok.lt n hn) (by omega) (by omega) (fun z => absurd (a4.nm ▸ hn) z) fun _ H5 e5 hm5 => ?_⟩
    have ne : ∀ {c : Addr} {l : List V}, H4 c = some (.lst l) → H5 c = some (.lst l) := fun h => e5 _ _ (ne_of h ho (fun z => nomatch z)) (ne_of h a4.hm.d (fun z => nomatch z)) (ne_of h a4.hm.i (fun z => nomatch z)) h
    exact fin H5 td q tk (restI idl n) _ ⟨a4.b.marks a4.hm e5, hm5, a4.ndi, a4.n1, a4.n2, ne a4.hna, e5 _ _ (ne_of a4.htd ho (fun z => nomatch z)) a4.n1 a4.n2 a4.htd, ne h4, a4.ok, a4.nm⟩ lr
  · rw [decide_eq_false c]
    refine iteF ?_
    refine ⟨_, rfl, roll_step a1.b.dice (by decide) (by decide) fun t H2 t0 t40 e i => ?_⟩
    have a2 := a1.roll e i
    obtain ⟨lt, nd, l3⟩ := a2.len
    refine ⟨_, rfl, il, rfl, ⟨_, SqL.of a2.hil⟩, fun D1 hD1 => ?_⟩
    refine lcG walk_list RStr (fun j => idl[j]?.bind fun x => if decide (x ≠ n) = true then some x else none) RStr.stab hD1 (by rw [List.length_map]; omega) (fun H5 e5 => SqL.of (e5 _ _ a2.hil)) (fun i H5 x H6 _ _ h => yat_ex h) (fun j x H5 H6 R0 N0 hj e5 hy hno hsm => ?_) (fun H3 xs e3 hx3 hps => ?_)
    · obtain ⟨rfl, hxi⟩ := hy
      rw [List.getElem?_map] at hxi
      obtain ⟨y, hy1, rfl⟩ := Option.map_eq_some_iff.mp hxi
      refine ⟨rfl, _, rfl, _, rfl, rfl, _, rfl, ?_⟩
      by_cases c1 : y = n
      · have : (!decide (V.str y = V.str n)) = false := by rw [c1]; simp
        rw [this]
        exact iteF (hno (by rw [hy1]; show (if decide (y ≠ n) = true then _ else _) = _; rw [decide_eq_false (fun z => z c1)]; rfl) _ (Ex.refl _))
      · have : (!decide (V.str y = V.str n)) = true := by
          rw [decide_eq_false (fun z => c1 (by injection z))]
          rfl
        rw [this]
        exact iteT ⟨_, rfl, hsm y (by rw [hy1]; show (if decide (y ≠ n) = true then _ else _) = _; rw [decide_eq_true c1]; rfl) _ _ (Ex.refl _) rfl⟩
    · rw [List.length_map, range_fm, filt_fm] at hps
      rw [rstr_map hps] at hx3
      have a3 := a2.ex e3
      refine ⟨_, rfl, na, rfl, ⟨_, SqL.of a3.hna⟩, fun D2 hD2 => ?_⟩
      refine lcG walk_list RKv (fun j => ns[j]?.bind fun o => (lookT tk o).map fun v => (o, if o = n then mx v t else v)) RKv.stab hD2 (by rw [List.length_map]; omega) (fun H5 e5 => SqL.of (e5 _ _ a3.hna)) (fun i H5 x H6 _ _ h => yat_ex h) (fun j x H5 H6 R0 N0 hj e5 hy hno hsm => ?_) (fun H4 xs4 e4 hx4 hps4 => ?_)
      · obtain ⟨rfl, hxi⟩ := hy
        rw [List.getElem?_map] at hxi
        obtain ⟨o, ho1, rfl⟩ := Option.map_eq_some_iff.mp hxi
        obtain ⟨v, hv⟩ := look_at nd (n := o) (by rw [a3.nm]; exact List.mem_of_getElem? ho1)
        have hg : DGet H6 td (.str o) (some (.int v)) := by
          have := DGet.k (k := Sum.inr o) (e5 _ _ a3.htd)
          rw [valV_kvT, hv] at this
          exact this
        refine ⟨rfl, _, rfl, _, rfl, _, rfl, rfl, _, rfl, ?_⟩
        by_cases c1 : o = n
        · rw [decide_eq_true (by rw [c1])]
          refine iteT ⟨_, rfl, _, rfl, td, _, rfl, hg, _, rfl, _, _, rfl, (by show 2 ≤ sizeLine; decide), fun q hq => ?_⟩
          exact hsm (o, mx v t) (by rw [ho1]; show (lookT tk o).map _ = _; rw [hv]; show some (o, if o = n then mx v t else v) = some _; rw [if_pos c1]) _ _ (Ex.upd hq) ⟨q, rfl, upd_same⟩
        · rw [decide_eq_false (fun z => c1 (by injection z))]
          refine iteF ⟨_, rfl, _, rfl, td, _, rfl, hg, (by show 2 ≤ sizeLine; decide), fun q hq => ?_⟩
          exact hsm (o, v) (by rw [ho1]; show (lookT tk o).map _ = _; rw [hv]; show some (o, if o = n then mx v t else v) = some _; rw [if_neg c1]) _ _ (Ex.upd hq) ⟨q, rfl, upd_same⟩
      · have eT : (List.range ns.length).filterMap (fun j => ns[j]?.bind fun o => (lookT tk o).map fun v => (o, if o = n then mx v t else v)) = tellT tk n t := by
          rw [range_fm, ← a3.nm]
          exact tell_law nd n t
        rw [List.length_map, eT] at hps4
        obtain ⟨ps, rfl, pp⟩ := rkv_ps (K := K) hps4
        refine ⟨D2, ps, kvT (tellT tk n t), rfl, SqL.of hx4, pp, fun td' htd' => ?_⟩
        have em : mergeK [] (kvT (tellT tk n t)) = kvT (tellT tk n t) := merge_kvT (tellT tk n t) [] (by rw [List.nil_append, tellT_names]; exact nd)
        rw [em]
        have a4 := a3.ex e4
        have n1 : td' ≠ dm := fun z => by rw [z, a4.hm.d] at htd'; cases htd'
        have n2 : td' ≠ di := fun z => by rw [z, a4.hm.i] at htd'; cases htd'
        have e5 : Ex H4 (upd H4 td' (.dK (kvT (tellT tk n t)))) := Ex.upd htd'
        have h5 : (upd H4 td' (.dK (kvT (tellT tk n t)))) td' = some (.dK (kvT (tellT tk n t))) := upd_same
        generalize upd H4 td' (.dK (kvT (tellT tk n t))) = H5 at e5 h5
        have a5 := a4.ex e5
        have hl5 := e5 _ _ (e4 _ _ hx3)
        refine ⟨(by show 2 ≤ sizeLine; decide), fun q hq => ?_⟩
        have e6 : Ex H5 (upd H5 q (.tup [.ref D1, .ref td'])) := Ex.upd hq
        refine ⟨q, _, rfl, SqT.of upd_same, rfl, _, _, rfl, _, _, rfl, rfl, ?_⟩
        generalize upd H5 q (.tup [.ref D1, .ref td']) = H6 at e6
        have a6 := a5.ex e6
        have h6 := e6 _ _ h5
        have hl6 := e6 _ _ hl5
        obtain ⟨dx, ho⟩ := a6.hm.o
        refine ⟨_, rfl, m, dx, _, rfl, ho, mF_m (by decide +kernel) (by decide +kernel) (by decide +kernel), _, rfl, _, rfl, tell_step a6.hm a6.ndi (a6.ok.lt n hn) nd (by omega) (fun z => absurd (a6.nm ▸ hn) z) fun _ H7 e7 hm7 => ?_⟩
        have ne : ∀ {c : Addr} {l : List V}, H6 c = some (.lst l) → H7 c = some (.lst l) := fun h => e7 _ _ (ne_of h ho (fun z => nomatch z)) (ne_of h a6.hm.d (fun z => nomatch z)) (ne_of h a6.hm.i (fun z => nomatch z)) h
        exact fin H7 td' D1 (tellT tk n t) (idl.filter fun x => decide (x ≠ n)) _ ⟨a6.b.marks a6.hm e7, hm7, a6.ndi, n1, n2, ne a6.hna, e7 _ _ (ne_of h6 ho (fun z => nomatch z)) n1 n2 h6, ne hl6, a6.ok, by rw [tellT_names]; exact a6.nm⟩
          (Nat.le_trans (List.length_filter_le _ _) (Nat.le_succ _))
end
end K8
set_option Elab.async false
set_option linter.all false
set_option maxRecDepth 100000
set_option maxHeartbeats 4000000
namespace K8
open PySem PySem.Spec PyProof.Rows L2 KB KC KD KS LamX Q1 R8
theorem inV_str (idl : List Str) (n : Str) : inV (V.str n) (idl.map V.str) = decide (n ∈ idl) := by
  unfold inV
  rw [List.any_map, Bool.eq_iff_iff, List.any_eq_true, decide_eq_true_eq]
  constructor
  · rintro ⟨x, hx, h⟩
    have : (x == n) = true := h
    rw [← eq_of_beq this]
    exact hx
  · intro h
    exact ⟨n, h, by show (n == n) = true; exact beq_self_eq_true n⟩
theorem lay_ints : ∀ ns : List Int, PyData.canLayAll0 (ns.map PyData.int) = true
  | [] => by simp [PyData.canLayAll0]
  | n :: ns => by
    rw [List.map_cons]
    unfold PyData.canLayAll0
    rw [lay_ints ns]
    simp [PyData.canLay0]
theorem depth_ints : ∀ ns : List Int, PyData.depthAll (ns.map PyData.int) ≤ 3
  | [] => by simp [PyData.depthAll]
  | p :: S => by
    have h := depth_ints S
    rw [List.map_cons]
    unfold PyData.depthAll
    have : (PyData.int p).depth ≤ 2 := by simp [PyData.depth]
    omega
theorem shaped_ints (S : List Int) : SeqAt.shaped (.list (S.map PyData.int)) = true := by
  have h := depth_ints S
  unfold SeqAt.shaped
  rw [Bool.and_eq_true, decide_eq_true_eq]
  refine ⟨?_, ?_⟩
  · unfold PyData.canLay0
    exact lay_ints S
  · unfold PyData.depth
    omega
theorem eqv_ints (S : List Int) : PyData.eqv (.list (S.map PyData.int)) (.list []) = decide (S = []) := by
  cases S <;> simp [PyData.eqv, PyData.eqvAll]
theorem nowT_idem (tk : Tk) (idl : List Str) (nw : Int) : nowT tk idl (nowT tk idl nw) = nowT tk idl nw := by
  unfold nowT mx
  generalize minDef (awakeT tk idl) 0 = k
  by_cases c : k > nw
  · rw [if_pos c, if_neg (by omega)]
  · rw [if_neg c, if_neg c]
theorem nowT_nn {tk : Tk} {idl : List Str} {nw : Int} (h : 0 ≤ nw) : 0 ≤ nowT tk idl nw := by
  unfold nowT mx
  split <;> omega
section
variable {P : Program} {w : World} {K : PySem.W.Frag} {mg : Str → Option Value} {base : Heap} {CM CW CS CJ Pl cL fTo fL : Addr} {fdTo : FuncData} {A : Around} {outer : List PySem.Env} {s : Shared} {H0 : Hp} {E0' : XK}
theorem m_2 (ve : LawE P w K mg base CM CW CS CJ Pl cL fTo fdTo) (hr : Room 11 (xLaw P w K mg base fL cL A outer s H0 E0').A) :
    ∃ t, PS (xLaw P w K mg base fL cL A outer s H0 E0') (mBody.getD 2 pass0') t ∧ ∀ (D : Ends) (a0 a3 a7 a8 a9 a10 a11 a12 a13 a14 a15 a16 a17 a18 a19 a20 a21 a22 a23 a24 a25 : Option V) (H : Hp) (d p m dm di na td il : Addr) (ns : List Str) (tk : Tk) (idl : List Str) (nw : Int), Ms CM Pl d p m dm di na td il ns tk idl nw H →
      (∀ (H' : Hp) (rw : Addr), Ms CM Pl d p m dm di na td il ns tk idl nw H' → H' rw = some (.lst ((awakeT tk idl).map V.int)) → D.nx [a0, some (.ref d), some (.ref na), a3, some (.ref m), some (.ref td), some (.ref il), a7, a8, a9, some (.ref rw), a11, a12, a13, a14, a15, a16, a17, a18, a19, a20, a21, a22, a23, a24, a25] H') → t D [a0, some (.ref d), some (.ref na), a3, some (.ref m), some (.ref td), some (.ref il), a7, a8, a9, a10, a11, a12, a13, a14, a15, a16, a17, a18, a19, a20, a21, a22, a23, a24, a25] H := by
  have hu := hr.units
  have hu1 := Nat.lt_trans (Nat.add_lt_add_left (by decide : 1 < 64) _) hu
  refine ⟨_, ps_setLc (i := 10) (own := [("one", 23)]) (g := gName 23) (tt := tTest (tOp (rIn K true) (tVar 23) (tVar 6))) (te := tDGet (tVar 5) (tVar 23)) rfl scLaw.nd rfl rfl (sw_true rfl rfl rfl (by decide +kernel)) (pi_list (pv 2)) (blkOk_by (N := nLaw) (sc := defScope sLaw) (by decide +kernel))
      (fun _ _ _ _ _ => pg_name (i := 23) scLaw.nd rfl (Or.inl rfl)) (fun _ _ _ _ _ => pts_one (pt_cmpR op_notIn_seq (pv 23) (pv 6) (by rfl))) (fun _ _ _ _ _ => pe_dget hu1 (pv 5) (pv 23) (fun _ _ => rfl)), ?_⟩
  intro D a0 a3 a7 a8 a9 a10 a11 a12 a13 a14 a15 a16 a17 a18 a19 a20 a21 a22 a23 a24 a25 H d p m dm di na td il ns tk idl nw a fin
  obtain ⟨lt, nd, l3⟩ := a.len
  refine ⟨_, rfl, na, rfl, ⟨_, SqL.of a.hna⟩, fun D1 hD1 => ?_⟩
  refine lcG walk_list RInt (fun j => ns[j]?.bind fun o => if decide (o ∉ idl) = true then lookT tk o else none) RInt.stab hD1 (by rw [List.length_map]; omega) (fun H5 e5 => SqL.of (e5 _ _ a.hna)) (fun i H5 x H6 _ _ h => yat_ex h) (fun j x H5 H6 R0 N0 hj e5 hy hno hsm => ?_) (fun H3 xs e3 hx3 hps => ?_)
  · obtain ⟨rfl, hxi⟩ := hy
    rw [List.getElem?_map] at hxi
    obtain ⟨o, ho1, rfl⟩ := Option.map_eq_some_iff.mp hxi
    obtain ⟨v, hv⟩ := look_at nd (n := o) (by rw [a.nm]; exact List.mem_of_getElem? ho1)
    have hg : DGet H6 td (.str o) (some (.int v)) := by
      have := DGet.k (k := Sum.inr o) (e5 _ _ a.htd)
      rw [valV_kvT, hv] at this
      exact this
    refine ⟨rfl, _, rfl, _, rfl, il, _, rfl, .inl (SqL.of (e5 _ _ a.hil)), rfl, flat_strs idl, _, rfl, ?_⟩
    rw [show (if true = true then !inV (V.str o) (idl.map V.str) else inV (V.str o) (idl.map V.str)) = (!inV (V.str o) (idl.map V.str)) from rfl, inV_str]
    by_cases c : o ∈ idl
    · rw [decide_eq_true c]
      exact iteF (hno (by rw [ho1]; show (if decide (o ∉ idl) = true then lookT tk o else none) = _; rw [decide_eq_false (fun z => z c)]; rfl) _ (Ex.refl _))
    · rw [decide_eq_false c]
      refine iteT ⟨_, rfl, _, rfl, td, _, rfl, hg, hsm v (by rw [ho1]; show (if decide (o ∉ idl) = true then lookT tk o else none) = _; rw [decide_eq_true c, hv]; rfl) _ _ (Ex.refl _) rfl⟩
  · have eT : (List.range ns.length).filterMap (fun j => ns[j]?.bind fun o => if decide (o ∉ idl) = true then lookT tk o else none) = awakeT tk idl := by
      rw [range_fm, ← a.nm]
      exact awake_law nd idl
    rw [List.length_map, eT] at hps
    rw [rint_map hps] at hx3
    exact fin H3 D1 (a.ex e3) hx3
theorem m_3 (ve : LawE P w K mg base CM CW CS CJ Pl cL fTo fdTo) (hr : Room 11 (xLaw P w K mg base fL cL A outer s H0 E0').A) :
    ∃ t, PS (xLaw P w K mg base fL cL A outer s H0 E0') (mBody.getD 3 pass0') t ∧ ∀ (D : Ends) (a0 a1 a2 a3 a4 a5 a6 a8 a9 a11 a12 a13 a14 a15 a16 a17 a18 a19 a20 a21 a22 a23 a24 a25 : Option V) (H : Hp) (rw : Addr) (tk : Tk) (idl : List Str) (nw : Int), H rw = some (.lst ((awakeT tk idl).map V.int)) → 0 ≤ nw →
      (∀ (H' : Hp), Ex H H' → D.nx [a0, a1, a2, a3, a4, a5, a6, some (.int (nowT tk idl nw)), a8, a9, some (.ref rw), a11, a12, a13, a14, a15, a16, a17, a18, a19, a20, a21, a22, a23, a24, a25] H') → t D [a0, a1, a2, a3, a4, a5, a6, some (.int nw), a8, a9, some (.ref rw), a11, a12, a13, a14, a15, a16, a17, a18, a19, a20, a21, a22, a23, a24, a25] H := by
  have hu := hr.units
  refine ⟨_, ps_set (i := 7) scLaw.nd rfl (Or.inl rfl) (pe_ifExp (pt_cmpR (op_neD hu) (pv 10) (pe_lst pa_nil) (nomark _)) (pe_callB (call_max2 rfl) (by rfl) ve.T.max (by decide +kernel) (pa_cons (pv 7) (pa_cons (pe_callB (cr_min rfl) (by rfl) ve.T.min (by decide +kernel) (pa_cons (pv 10) pa_nil)) pa_nil))) (pv 7)), ?_⟩
  intro D a0 a1 a2 a3 a4 a5 a6 a8 a9 a11 a12 a13 a14 a15 a16 a17 a18 a19 a20 a21 a22 a23 a24 a25 H rw tk idl nw hrw h0 fin
  refine ⟨_, rfl, (by show 0 ≤ sizeLine; decide), fun z hz => ⟨.list ((awakeT tk idl).map PyData.int), .list [], .lst (SqL.of (Ex.upd hz _ _ hrw)) (dp_ints _), .lst (SqL.of upd_same) .nil, shaped_ints _, by rfl, _, rfl, ?_⟩⟩
  rw [eqv_ints]
  have e1 : Ex H (upd H z (.lst [])) := Ex.upd hz
  generalize upd H z (.lst []) = H1 at e1
  by_cases c : awakeT tk idl = []
  · rw [decide_eq_true c]
    refine iteF ⟨_, rfl, ?_⟩
    have e : nowT tk idl nw = nw := by
      unfold nowT mx
      rw [c]
      show (if 0 > nw then 0 else nw) = nw
      rw [if_neg (by omega)]
    have := fin H1 e1
    rw [e] at this
    exact this
  · rw [decide_eq_false c]
    refine iteT ⟨_, rfl, _, rfl, rw, awakeT tk idl, rfl, SqL.of (e1 _ _ hrw), List.length_pos_iff.mpr c, fun k hk hm => ⟨_, _, rfl, ?_⟩⟩
    have e : nowT tk idl nw = if k > nw then k else nw := by
      unfold nowT mx
      rw [minDef_eq hk hm]
    have := fin H1 e1
    rw [e] at this
    exact this
theorem m_4 (ve : LawE P w K mg base CM CW CS CJ Pl cL fTo fdTo) (hr : Room 11 (xLaw P w K mg base fL cL A outer s H0 E0').A) :
    ∃ t, PS (xLaw P w K mg base fL cL A outer s H0 E0') (mBody.getD 4 pass0') t ∧ ∀ (D : Ends) (a0 a3 a9 a10 a11 a12 a13 a14 a15 a16 a17 a18 a19 a20 a21 a22 a23 a24 a25 : Option V) (H : Hp) (d p m dm di na td il : Addr) (ns : List Str) (tk : Tk) (idl : List Str) (nw : Int), Ms CM Pl d p m dm di na td il ns tk idl nw H → nowT tk idl nw = nw →
      (∀ (H' : Hp), Ms CM Pl d p m dm di na td il ns tk idl nw H' → D.nx [a0, some (.ref d), some (.ref na), a3, some (.ref m), some (.ref td), some (.ref il), some (.int nw), some (.int nw), a9, a10, a11, a12, a13, a14, a15, a16, a17, a18, a19, a20, a21, a22, a23, a24, a25] H') → t D [a0, some (.ref d), some (.ref na), a3, some (.ref m), some (.ref td), some (.ref il), some (.int nw), some (.int nw), a9, a10, a11, a12, a13, a14, a15, a16, a17, a18, a19, a20, a21, a22, a23, a24, a25] H := by
  obtain ⟨f1, fd1, G1, m1, b1⟩ := ve.now
  refine ⟨_, ps_if (PW.pt (pw_or (pt_cmpR op_ne (pv 8) (pv 7) (nomark _)) (pw_or (pt_cmpR op_ne (pf 4) (pv 7) (nomark _)) (pw_or1 (pt_cmpR op_ne (pe_meth0 (pv 4) ve.BM.cl m1 G1 (hr.mono (by decide)) b1 .nil pass0) (pv 7) (nomark _)))))) (pss_one (ps_ret pe_bl)) pss_nil, ?_⟩
  intro D a0 a3 a9 a10 a11 a12 a13 a14 a15 a16 a17 a18 a19 a20 a21 a22 a23 a24 a25 H d p m dm di na td il ns tk idl nw a hi fin
  obtain ⟨dx, ho⟩ := a.hm.o
  obtain ⟨lt, nd, l3⟩ := a.len
  have same : (!decide (V.int nw = V.int nw)) = false := by simp
  refine ⟨_, rfl, _, rfl, rfl, _, rfl, ?_⟩
  rw [same]
  refine iteF ⟨_, rfl, m, CM, dx, _, _, rfl, ho, ve.BM.cl, ve.BM.nN, rfl, _, rfl, rfl, _, rfl, ?_⟩
  rw [same]
  refine iteF ⟨_, rfl, m, dx, _, rfl, ho, mF_m (by decide +kernel) (by decide +kernel) (by decide +kernel), now_step a.hm a.ndi (by omega) fun H1 e1 hm1 => ⟨_, rfl, rfl, _, rfl, ?_⟩⟩
  rw [hi] at hm1 ⊢
  rw [same]
  refine iteF (fin H1 ?_)
  have e1' : ExM m dm di H H1 := fun b o h _ _ z => e1 b o h z
  exact ⟨a.b.marks a.hm e1', hm1, a.ndi, a.n1, a.n2, e1 _ _ (ne_of a.hna ho (fun z => nomatch z)) a.hna, e1 _ _ (ne_of a.htd ho (fun z => nomatch z)) a.htd, e1 _ _ (ne_of a.hil ho (fun z => nomatch z)) a.hil, a.ok, a.nm⟩
theorem law_2 (ve : LawE P w K mg base CM CW CS CJ Pl cL fTo fdTo) (hr : Room 11 (xLaw P w K mg base fL cL A outer s H0 E0').A) :
    ∃ t, PS (xLaw P w K mg base fL cL A outer s H0 E0') (law0.getD 2 pass0') t ∧ ∀ (D : Ends) (a0 a3 a8 a9 a10 a11 a12 a13 a14 a15 a16 a17 a18 a19 a20 a21 a22 a23 a24 a25 : Option V) (H : Hp) (d p m dm di na td il : Addr) (ns : List Str) (tk : Tk), Ms CM Pl d p m dm di na td il ns tk [] 0 H →
      (∀ (H' : Hp) (a3 a5 a6 a7 a8 a9 a10 a22 : Option V), Bs Pl d p H' → D.nx [a0, some (.ref d), some (.ref na), a3, some (.ref m), a5, a6, a7, a8, a9, a10, a11, a12, a13, a14, a15, a16, a17, a18, a19, a20, a21, a22, a23, a24, a25] H') → t D [a0, some (.ref d), some (.ref na), a3, some (.ref m), some (.ref td), some (.ref il), some (.int 0), a8, a9, a10, a11, a12, a13, a14, a15, a16, a17, a18, a19, a20, a21, a22, a23, a24, a25] H := by
  obtain ⟨f1, fd1, G1, g1, k1, b1⟩ := ve.roll
  obtain ⟨t0, d0, q0⟩ := m_0 (fL := fL) (A := A) (outer := outer) (s := s) (H0 := H0) (E0' := E0') ve hr
  obtain ⟨t1, d1, q1⟩ := m_1 (fL := fL) (A := A) (outer := outer) (s := s) (H0 := H0) (E0' := E0') ve hr
  obtain ⟨t2, d2, q2⟩ := m_2 (fL := fL) (A := A) (outer := outer) (s := s) (H0 := H0) (E0' := E0') ve hr
  obtain ⟨t3, d3, q3⟩ := m_3 (fL := fL) (A := A) (outer := outer) (s := s) (H0 := H0) (E0' := E0') ve hr
  obtain ⟨t4, d4, q4⟩ := m_4 (fL := fL) (A := A) (outer := outer) (s := s) (H0 := H0) (E0' := E0') ve hr
  have dBody : PSs (xLaw P w K mg base fL cL A outer s H0 E0') mBody _ := pss_cons d0 (pss_cons d1 (pss_cons d2 (pss_cons d3 (pss_one d4))))
  refine ⟨_, ps_for PassesOwn.never rfl (pi_range1 (by rfl) ve.T.range (pa_cons (pe_call G1 (hr.mono (by decide)) (by rfl) g1 k1 b1 .nil pass0 (pa_cons (pv 1) (pa_cons pe_int pa_nil))) pa_nil)) (pg_name (i := 22) scLaw.nd rfl (Or.inr rfl)) dBody, ?_⟩
  intro D a0 a3 a8 a9 a10 a11 a12 a13 a14 a15 a16 a17 a18 a19 a20 a21 a22 a23 a24 a25 H d p m dm di na td il ns tk a fin
  refine ⟨_, rfl, roll_step a.b.dice (by decide) (by decide) fun r H1 r0 r31 e i => ⟨r, rfl, by omega, by omega, ?_⟩⟩
  have a1 := a.roll e i
  refine for_range (n := r.toNat) (fun i σ H2 => ∃ (td il : Addr) (tk : Tk) (idl : List Str) (nw : Int) (a3 a8 a9 a10 a22 : Option V), σ = [a0, some (.ref d), some (.ref na), a3, some (.ref m), some (.ref td), some (.ref il), some (.int nw), a8, a9, a10, a11, a12, a13, a14, a15, a16, a17, a18, a19, a20, a21, a22, a23, a24, a25] ∧ Ms CM Pl d p m dm di na td il ns tk idl nw H2 ∧ 0 ≤ nw ∧ idl.length ≤ i)
    ⟨td, il, tk, [], 0, _, _, _, _, _, rfl, a1, Int.le_refl 0, Nat.le_refl 0⟩ ?_ ?_
  · rintro i σ H2 hi ⟨td, il, tk, idl, nw, a3, a8, a9, a10, a22, rfl, a2, h0, hl⟩
    refine q0 _ _ _ _ _ _ _ _ _ _ _ _ _ _ _ _ _ _ _ _ _ _ H2 d p m dm di na td il ns tk idl nw a2 fun H3 n a3' hn => ?_
    refine q1 _ _ _ _ _ _ _ _ _ _ _ _ _ _ _ _ _ _ _ _ _ H3 d p m dm di na td il ns tk idl nw n a3' hn (by omega) fun H4 td' il' tk' idl' a9' a4 hl4 => ?_
    refine q2 _ _ _ _ _ _ _ _ _ _ _ _ _ _ _ _ _ _ _ _ _ _ H4 d p m dm di na td' il' ns tk' idl' _ a4 fun H5 rw a5 hrw => ?_
    refine q3 _ _ _ _ _ _ _ _ _ _ _ _ _ _ _ _ _ _ _ _ _ _ _ _ _ H5 rw tk' idl' nw hrw h0 fun H6 e6 => ?_
    refine q4 _ _ _ _ _ _ _ _ _ _ _ _ _ _ _ _ _ _ _ _ H6 d p m dm di na td' il' ns tk' idl' _ (a5.ex e6) (nowT_idem _ _ _) fun H7 a7 => ?_
    exact ⟨td', il', tk', idl', _, _, _, _, _, _, rfl, a7, nowT_nn h0, by omega⟩
  · rintro σ H2 ⟨td, il, tk, idl, nw, a3, a8, a9, a10, a22, rfl, a2, h0, hl⟩
    exact fin H2 _ _ _ _ _ _ _ _ a2.b
end
end K8
set_option Elab.async false
set_option linter.all false
set_option maxRecDepth 100000
set_option maxHeartbeats 4000000
namespace K8
open PySem PySem.Spec PyProof.Rows L2 KB KC KD KS LamX Q1 R8
def lawOut (t s l : Int) (i : Nat) : Option Sp2 := if 0 + (i : Int) * s ≤ t ∧ t < 0 + (i : Int) * s + l then some (0 + (i : Int) * s, 0 + (i : Int) * s + l) else none
def lawN (t s : Int) : Nat := (t / s + 1).toNat
def lawW (t s l : Int) : List Sp2 := (List.range (lawN t s)).filterMap (lawOut t s l)
theorem win_eq : ∀ t ∈ List.range 60, ∀ s ∈ List.range 6, ∀ l ∈ List.range 12, s ≤ l → progW (t : Nat) ((s : Nat) + 1 : Int) ((l : Nat) + 1 : Int) = lawW (t : Nat) ((s : Nat) + 1 : Int) ((l : Nat) + 1 : Int) := by decide +kernel
theorem win_eq' {t s l : Int} (t0 : 0 ≤ t) (t1 : t < 60) (s0 : 1 ≤ s) (s1 : s ≤ 6) (l1 : l ≤ 12) (h : s ≤ l) : progW t s l = lawW t s l := by
  have := win_eq t.toNat (List.mem_range.mpr (by omega)) (s - 1).toNat (List.mem_range.mpr (by omega)) (l - 1).toNat (List.mem_range.mpr (by omega)) (by omega)
  have e1 : ((t.toNat : Nat) : Int) = t := by omega
  have e2 : (((s - 1).toNat : Nat) : Int) + 1 = s := by omega
  have e3 : (((l - 1).toNat : Nat) : Int) + 1 = l := by omega
  rw [e1, e2, e3] at this
  exact this
theorem rg_all : ∀ t ∈ List.range 60, ∀ s ∈ List.range 6, ((s : Nat) + 1 : Int) ≠ 0 ∧ ((s : Nat) + 1 : Int).natAbs < 1073741824 ∧ Builtin.Range.small 0 ((t : Nat) + 1 : Int) ((s : Nat) + 1 : Int) = true ∧ Builtin.Range.rangeSize 0 ((t : Nat) + 1 : Int) ((s : Nat) + 1 : Int) = lawN (t : Nat) ((s : Nat) + 1 : Int) := by decide +kernel
theorem rg_ok {t s : Int} (t0 : 0 ≤ t) (t1 : t < 60) (s0 : 1 ≤ s) (s1 : s ≤ 6) : RgC 0 (t + 1) s (lawN t s) := by
  have := rg_all t.toNat (List.mem_range.mpr (by omega)) (s - 1).toNat (List.mem_range.mpr (by omega))
  have e1 : ((t.toNat : Nat) : Int) = t := by omega
  have e2 : (((s - 1).toNat : Nat) : Int) + 1 = s := by omega
  rw [e1, e2] at this
  exact this
theorem Bs.exN {Pl d p : Addr} {H H' : Hp} (b : Bs Pl d p H) (e : ExtN H H') (t : Tabs (TT Pl) H') : Bs Pl d p H' :=
  ⟨let ⟨x, y, k, h⟩ := b.dice; ⟨x, y, k, e _ _ h (fun _ z => nomatch z)⟩, t, e _ _ b.hp (fun _ z => nomatch z)⟩
theorem ex_make {C : Addr} {H : Hp} {x dx : Addr} {fs : List (Str × V)} (hx : H x = none) (hdx : H dx = none) : Ex H (upd (upd (upd H dx (.own x)) x (.ins C dx [])) x (.ins C dx fs)) := by
  rw [upd2]
  exact Ex.on (Ex.upd hdx) hx
section
variable {P : Program} {w : World} {K : PySem.W.Frag} {mg : Str → Option Value} {base : Heap} {CM CW CS CJ Pl cL fTo fL : Addr} {fdTo : FuncData} {A : Around} {outer : List PySem.Env} {s : Shared} {H0 : Hp} {E0' : XK}
theorem law_3 (ve : LawE P w K mg base CM CW CS CJ Pl cL fTo fdTo) (hr : Room 11 (xLaw P w K mg base fL cL A outer s H0 E0').A) :
    ∃ t, PS (xLaw P w K mg base fL cL A outer s H0 E0') (law0.getD 3 pass0') t ∧ ∀ (D : Ends) (a0 a2 a3 a4 a5 a6 a7 a8 a9 a10 a11 a12 a13 a14 a15 a16 a17 a18 a19 a20 a21 a22 a23 a24 a25 : Option V) (H : Hp) (d p : Addr), Bs Pl d p H →
      (∀ (H' : Hp) (st ln : Int), Bs Pl d p H' → 1 ≤ st → st ≤ 6 → 1 ≤ ln → ln ≤ 12 → D.nx [a0, some (.ref d), a2, a3, a4, a5, a6, a7, a8, a9, a10, a11, a12, a13, a14, a15, a16, a17, a18, a19, a20, some (.int ln), some (.int st), a23, a24, a25] H') → t D [a0, some (.ref d), a2, a3, a4, a5, a6, a7, a8, a9, a10, a11, a12, a13, a14, a15, a16, a17, a18, a19, a20, a21, a22, a23, a24, a25] H := by
  obtain ⟨f1, fd1, G1, g1, k1, b1⟩ := ve.roll
  refine ⟨_, ps_asg (pe_tup (pa_cons (pe_op op_add pe_int (pe_call G1 (hr.mono (by decide)) (by rfl) g1 k1 b1 .nil pass0 (pa_cons (pv 1) (pa_cons pe_int pa_nil)))) (pa_cons (pe_op op_add pe_int (pe_call G1 (hr.mono (by decide)) (by rfl) g1 k1 b1 .nil pass0 (pa_cons (pv 1) (pa_cons pe_int pa_nil)))) pa_nil)))
    (pg_tup rfl (pgs_cons (pg_name (i := 22) scLaw.nd rfl (Or.inr rfl)) (pgs_cons (pg_name (i := 21) scLaw.nd rfl (Or.inr rfl)) pgs_nil))), ?_⟩
  intro D a0 a2 a3 a4 a5 a6 a7 a8 a9 a10 a11 a12 a13 a14 a15 a16 a17 a18 a19 a20 a21 a22 a23 a24 a25 H d p b fin
  refine ⟨_, rfl, roll_step b.dice (by decide) (by decide) fun r H1 r0 r6 e1 i1 => ⟨_, _, rfl, rfl, _, rfl, roll_step i1 (by decide) (by decide) fun r' H2 r0' r12 e2 i2 => ⟨_, _, rfl, rfl, (by show 2 ≤ sizeLine; decide), fun q hq => ?_⟩⟩⟩
  refine ⟨q, _, rfl, SqT.of upd_same, rfl, _, _, rfl, _, _, rfl, rfl, ?_⟩
  exact fin _ (1 + r) (1 + r') (((b.roll e1 i1).roll e2 i2).ex (Ex.upd hq)) (by omega) (by omega) (by omega) (by omega)
theorem law_4 (ve : LawE P w K mg base CM CW CS CJ Pl cL fTo fdTo) (hr : Room 11 (xLaw P w K mg base fL cL A outer s H0 E0').A) :
    ∃ t, PS (xLaw P w K mg base fL cL A outer s H0 E0') (law0.getD 4 pass0') t ∧ ∀ (D : Ends) (a0 a2 a3 a4 a5 a6 a7 a8 a9 a10 a11 a12 a13 a14 a15 a16 a17 a18 a19 a20 a23 a24 a25 : Option V) (H : Hp) (d p : Addr) (st ln : Int), Bs Pl d p H → 1 ≤ st → st ≤ 6 → 1 ≤ ln → ln ≤ 12 →
      (∀ (H' : Hp) (b9 b11 : Option V), Bs Pl d p H' → D.nx [a0, some (.ref d), a2, a3, a4, a5, a6, a7, a8, b9, a10, b11, a12, a13, a14, a15, a16, a17, a18, a19, a20, some (.int ln), some (.int st), a23, a24, a25] H') → t D [a0, some (.ref d), a2, a3, a4, a5, a6, a7, a8, a9, a10, a11, a12, a13, a14, a15, a16, a17, a18, a19, a20, some (.int ln), some (.int st), a23, a24, a25] H := by
  obtain ⟨f1, fd1, G1, g1, k1, b1⟩ := ve.roll
  obtain ⟨f2, fd2, G2, M2, b2⟩ := ve.winit
  obtain ⟨f3, fd3, G3, m3, b3⟩ := ve.around
  obtain ⟨oc, od, dV, kV, doc, pm, an, cdv, ct, osl, rfl, lk, hcd, _, _⟩ := ve.told.ex
  have bT := ve.told.bindsN (ps := ["what"]) fun _ _ _ _ _ _ us hl => match us, hl with | [_], _ => rfl
  have hu := hr.units
  refine ⟨_, ps_if (pt_cmpR op_gt (pv 22) (pv 21) (nomark _))
    (pss_one (ps_if (pt_cmpR op_ne (pe_lamcall (T := TT Pl) (P := Pl) (c := cL) (k := 9) (by rfl) ve.gTold ve.told.kp lk hcd bT scTold rfl (Or.inl rfl)
      (told_gives (by rfl) ve.J.g (by decide +kernel) (fun f => rfl)) ve.TBl rfl
      (show (Pl, (Str.ofString "law" ++ Str.ofString ".<locals>.") ++ Str.ofString "<lambda>") ∈ TT Pl by rw [qLaw]; exact List.mem_cons_self ..)
      (show ∀ p ∈ TT Pl, p.1 = Pl → p.2 = (Str.ofString "law" ++ Str.ofString ".<locals>.") ++ Str.ofString "<lambda>" by
          rw [qLaw]
          intro p hp e
          rcases List.mem_cons.mp hp with z | h
          · rw [z]
          · cases h)
      hr (lamS_by (by show lamSB (defScope sLaw) _ = true; decide +kernel)) rfl (fun _ _ _ _ _ => rfl)
      (fun A outer s H E f c' hr' => pe_make M2 G2 (hr'.mono (by decide)) (by rfl) ve.BW.gC b2 .nil (passes_call (takes_of rfl rfl rfl rfl) (fun _ _ _ _ h => h)) (pa_cons (pv 21) (pa_cons (pv 22) pa_nil)))) pe_str (nomark _)) (pss_one (ps_ret pe_bl)) pss_nil))
    (pss_cons (ps_asg (pe_tup (pa_cons (pe_make (CX := L2.CX P w) M2 G2 (hr.mono (by decide)) (by rfl) ve.BW.gC b2 .nil passL (pa_cons (pv 21) (pa_cons (pv 22) pa_nil))) (pa_cons (pe_call G1 (hr.mono (by decide)) (by rfl) g1 k1 b1 .nil pass0 (pa_cons (pv 1) (pa_cons pe_int pa_nil))) pa_nil)))
        (pg_tup rfl (pgs_cons (pg_name (i := 11) scLaw.nd rfl (Or.inl rfl)) (pgs_cons (pg_name (i := 9) scLaw.nd rfl (Or.inr rfl)) pgs_nil))))
      (pss_one (ps_if (pt_cmpR (op_neD hu) (pe_callTy call_list_of (by rfl) ve.T.list (by decide +kernel) (pa_cons (pe_meth (pv 11) ve.BW.cl m3 G3 (hr.mono (by decide)) b3 .nil pass0 (pa_cons (pv 9) pa_nil)) pa_nil))
        (pe_lc (own := [("begin", 24)]) (g := gName 24) rfl scLaw.nd (pi_range3 (by rfl) ve.T.range (pa_cons pe_int (pa_cons (pe_op op_add (pv 9) pe_int) (pa_cons (pv 22) pa_nil)))) (blkOk_by (N := nLaw) (sc := defScope sLaw) (by decide +kernel))
          (fun _ _ _ _ _ => pg_name (i := 24) scLaw.nd rfl (Or.inl rfl)) (fun _ _ _ _ _ => pts_one (pt_chain op_le op_lt (pv 24) (pv 9) (pe_op op_add (pv 24) (pv 21))))
          (fun _ _ _ _ _ => pe_tup (pa_cons (pv 24) (pa_cons (pe_op op_add (pv 24) (pv 21)) pa_nil)))) (nomark _)) (pss_one (ps_ret pe_bl)) pss_nil))), ?_⟩
  intro D a0 a2 a3 a4 a5 a6 a7 a8 a9 a10 a11 a12 a13 a14 a15 a16 a17 a18 a19 a20 a23 a24 a25 H d p st ln b s1 s6 l1 l12 fin
  refine ⟨_, rfl, _, rfl, _, _, rfl, rfl, _, rfl, ?_⟩
  by_cases c : ln < st
  · rw [decide_eq_true c]
    refine iteT ⟨b.tabs, fun H1 e1 t1 => ?_⟩
    refine ⟨_, rfl, _, rfl, fun x dx hx hdx nx => winit_step upd_same (fun _ => ⟨true, ve.J.e, fun _ => ⟨rfl, _, rfl, iteF (fin _ _ _ ?_)⟩, fun z => nomatch z⟩) (fun h => by omega)⟩
    have e2 : Ex H1 (upd (upd H1 dx (.own x)) x (.ins CW dx [])) := Ex.on (Ex.upd hdx) hx
    exact b.exN (e1.trans (ExtN.of e2)) (t1.ext e2)
  · rw [decide_eq_false c]
    refine iteF ⟨_, rfl, _, rfl, fun x dx hx hdx nx => winit_step upd_same (fun h => absurd ⟨by omega, by omega⟩ h) (fun _ => ⟨rfl, ?_⟩)⟩
    have e1 : Ex H (upd (upd (upd H dx (.own x)) x (.ins CW dx [])) x (.ins CW dx (wF ln st))) := ex_make hx hdx
    have hx1 : (upd (upd (upd H dx (.own x)) x (.ins CW dx [])) x (.ins CW dx (wF ln st))) x = some (.ins CW dx (wF ln st)) := upd_same
    generalize upd (upd (upd H dx (.own x)) x (.ins CW dx [])) x (.ins CW dx (wF ln st)) = H1 at e1 hx1
    have b1' := b.ex e1
    refine ⟨_, rfl, roll_step b1'.dice (by decide) (by decide) fun t H2 t0 t60 e2 i2 => ⟨(by show 2 ≤ sizeLine; decide), fun q hq => ?_⟩⟩
    have b2' := b1'.roll e2 i2
    have hx2 := e2 _ _ (dice_neI b1'.dice hx1 (fun _ z => nomatch z)) hx1
    refine ⟨q, _, rfl, SqT.of upd_same, rfl, _, _, rfl, _, _, rfl, rfl, ?_⟩
    have e3 : Ex H2 (upd H2 q (.tup [.ref x, .int t])) := Ex.upd hq
    generalize upd H2 q (.tup [.ref x, .int t]) = H3 at e3
    have b3' := b2'.ex e3
    refine ⟨_, rfl, x, dx, _, rfl, e3 _ _ hx2, wF_m (by decide +kernel) (by decide +kernel), _, rfl, around_step (e3 _ _ hx2) (by omega) (by omega) (by omega) t0 (by omega) fun H4 q4 us e4 h4 ps4 => ?_⟩
    refine ⟨q4, _, rfl, .inr (SqT.of h4), fun l5 hl5 => ?_⟩
    have e5 : Ex H4 (upd H4 l5 (.lst (us.map V.ref))) := Ex.upd hl5
    have h5 : (upd H4 l5 (.lst (us.map V.ref))) l5 = some (.lst (us.map V.ref)) := upd_same
    have ps5 : Ps (upd H4 l5 (.lst (us.map V.ref))) us (progW t st ln) := ps4.ex fun b xs h => e5 _ _ h
    generalize upd H4 l5 (.lst (us.map V.ref)) = H5 at e5 h5 ps5
    refine ⟨_, rfl, _, _, rfl, rfl, _, rfl, 0, t + 1, st, lawN t st, rfl, rg_ok t0 (by omega) s1 s6, fun D6 hD6 => ?_⟩
    have nb : lawN t st ≤ 61 := by
      have := Int.ediv_le_self (b := st) t0
      unfold lawN
      omega
    refine lcG walk_rangeC RPair (lawOut t st ln) RPair.stab hD6 (by omega) (fun _ _ => trivial) (fun i H7 x' H8 _ _ h => yfn_ex h) (fun i x' H7 H8 R0 N0 hi e7 hy hno hsm => ?_) (fun H6 xs6 e6 hx6 hps6 => ?_)
    · obtain ⟨rfl, rfl⟩ := hy
      refine ⟨rfl, _, rfl, _, rfl, _, _, rfl, rfl, _, rfl, ?_⟩
      by_cases c1 : 0 + (i : Int) * st ≤ t
      · rw [decide_eq_true c1]
        refine iteT ⟨_, rfl, _, rfl, _, _, rfl, rfl, _, _, rfl, rfl, _, rfl, ?_⟩
        by_cases c2 : t < 0 + (i : Int) * st + ln
        · rw [decide_eq_true c2]
          refine iteT ⟨_, rfl, _, rfl, _, rfl, _, _, rfl, rfl, (by show 2 ≤ sizeLine; decide), fun q8 hq8 => ?_⟩
          exact hsm _ (by unfold lawOut; rw [if_pos ⟨c1, c2⟩]) _ _ (Ex.upd hq8) ⟨q8, rfl, upd_same⟩
        · rw [decide_eq_false c2]
          exact iteF (hno (by unfold lawOut; rw [if_neg (fun z => c2 z.2)]) _ (Ex.refl _))
      · rw [decide_eq_false c1]
        exact iteF ⟨_, rfl, iteF (hno (by unfold lawOut; rw [if_neg (fun z => c1 z.1)]) _ (Ex.refl _))⟩
    · obtain ⟨us6, rfl, ps6⟩ := rpair_ps hps6
      refine ⟨.list ((progW t st ln).map pD), .list ((lawW t st ln).map pD), .lst (SqL.of (e6 _ _ h5)) (Ps.dp (ps5.ex fun b xs h => e6 _ _ h)), .lst (SqL.of hx6) (Ps.dp ps6), shaped_list _, shaped_list _, _, rfl, ?_⟩
      rw [eqv_lists, decide_eq_true (win_eq' t0 (by omega) s1 s6 l12 (by omega))]
      exact iteF (fin _ _ _ (b3'.ex ((e4.trans e5).trans e6)))
end
end K8
set_option Elab.async false
set_option linter.all false
set_option maxRecDepth 100000
set_option maxHeartbeats 4000000
namespace K8
open PySem PySem.Spec PyProof.Rows L2 KB KC KD KS LamX Q1 R8
structure Ss (CS Pl d p se tm sp : Addr) (us : List Addr) (g : Int) (ts : List Int) (S : List Sp2) (H : Hp) : Prop where
  b : Bs Pl d p H
  hse : ∃ dx, H se = some (.ins CS dx (sF g))
  htm : H tm = some (.lst (ts.map V.int))
  hsp : H sp = some (.tup (us.map V.ref))
  ps : Ps H us S
  sp : Spans g ts S
theorem Ss.ex {CS Pl d p se tm sp : Addr} {us : List Addr} {g : Int} {ts : List Int} {S : List Sp2} {H H' : Hp} (a : Ss CS Pl d p se tm sp us g ts S H) (e : Ex H H') : Ss CS Pl d p se tm sp us g ts S H' :=
  ⟨a.b.ex e, let ⟨dx, h⟩ := a.hse; ⟨dx, e _ _ h⟩, e _ _ a.htm, e _ _ a.hsp, a.ps.ex fun b xs h => e _ _ h, a.sp⟩
theorem Bs.exD {Pl d p : Addr} {H H' : Hp} {q : Addr} {xs : List V} (b : Bs Pl d p H) (e : ExD q H H') (hq : H q = some (.lst xs)) (n1 : q ≠ d) (n2 : q ≠ p) : Bs Pl d p H' :=
  ⟨let ⟨x, y, k, h⟩ := b.dice; ⟨x, y, k, e _ _ n1.symm h⟩, tabs_but b.tabs fun c o h h1 _ _ => e c o (fun z => by rw [z, hq] at h; exact h1 _ (Option.some.inj h).symm) h, e _ _ n2.symm b.hp⟩
section
variable {P : Program} {w : World} {K : PySem.W.Frag} {mg : Str → Option Value} {base : Heap} {CM CW CS CJ Pl cL fTo fL : Addr} {fdTo : FuncData} {A : Around} {outer : List PySem.Env} {s : Shared} {H0 : Hp} {E0' : XK}
theorem law_5 (ve : LawE P w K mg base CM CW CS CJ Pl cL fTo fdTo) (hr : Room 11 (xLaw P w K mg base fL cL A outer s H0 E0').A) :
    ∃ t, PS (xLaw P w K mg base fL cL A outer s H0 E0') (law0.getD 5 pass0') t ∧ ∀ (D : Ends) (a0 a2 a3 a4 a5 a6 a7 a8 a9 a10 a11 a12 a13 a14 a15 a16 a17 a18 a19 a20 a21 a22 a23 a24 a25 : Option V) (H : Hp) (d p : Addr), Bs Pl d p H →
      (∀ (H' : Hp) (g : Int) (tm sp : Addr), Bs Pl d p H' → 1 ≤ g → H' tm = some (.lst []) → H' sp = some (.tup []) → tm ≠ d → tm ≠ p → D.nx [a0, some (.ref d), a2, a3, a4, a5, a6, a7, a8, a9, a10, a11, some (.int g), some (.ref tm), some (.ref sp), a15, a16, a17, a18, a19, a20, a21, a22, a23, a24, a25] H') → t D [a0, some (.ref d), a2, a3, a4, a5, a6, a7, a8, a9, a10, a11, a12, a13, a14, a15, a16, a17, a18, a19, a20, a21, a22, a23, a24, a25] H := by
  obtain ⟨f1, fd1, G1, g1, k1, b1⟩ := ve.roll
  refine ⟨_, ps_asg (pe_tup (pa_cons (pe_op op_add pe_int (pe_call G1 (hr.mono (by decide)) (by rfl) g1 k1 b1 .nil pass0 (pa_cons (pv 1) (pa_cons pe_int pa_nil)))) (pa_cons (pe_lst pa_nil) (pa_cons (pe_tup pa_nil) pa_nil))))
    (pg_tup rfl (pgs_cons (pg_name (i := 12) scLaw.nd rfl (Or.inl rfl)) (pgs_cons (pg_name (i := 13) scLaw.nd rfl (Or.inl rfl)) (pgs_cons (pg_name (i := 14) scLaw.nd rfl (Or.inr rfl)) pgs_nil)))), ?_⟩
  intro D a0 a2 a3 a4 a5 a6 a7 a8 a9 a10 a11 a12 a13 a14 a15 a16 a17 a18 a19 a20 a21 a22 a23 a24 a25 H d p b fin
  refine ⟨_, rfl, roll_step b.dice (by decide) (by decide) fun r H1 r0 r6 e1 i1 => ⟨_, _, rfl, rfl, (by show 0 ≤ sizeLine; decide), fun tm htm => ⟨(by show 0 ≤ sizeLine; decide), fun sp hsp => ⟨(by show 3 ≤ sizeLine; decide), fun q hq => ?_⟩⟩⟩⟩
  refine ⟨q, _, rfl, SqT.of upd_same, rfl, _, _, rfl, _, _, rfl, _, _, rfl, rfl, ?_⟩
  have b1' := b.roll e1 i1
  have n1 : tm ≠ d := fun z => by
    obtain ⟨x, y, k, h⟩ := b1'.dice
    rw [z, h] at htm; cases htm
  have n2 : tm ≠ p := fun z => by
    have h := b1'.hp
    rw [z, h] at htm; cases htm
  have e : Ex H1 (upd (upd (upd H1 tm (.lst [])) sp (.tup [])) q (.tup [.int (1 + r), .ref tm, .ref sp])) := ((Ex.upd htm).trans (Ex.upd hsp)).trans (Ex.upd hq)
  exact fin _ (1 + r) tm sp (b1'.ex e) (by omega) (Ex.upd hq _ _ (Ex.upd hsp _ _ upd_same)) (Ex.upd hq _ _ upd_same) n1 n2
theorem law_6 (ve : LawE P w K mg base CM CW CS CJ Pl cL fTo fdTo) (hr : Room 11 (xLaw P w K mg base fL cL A outer s H0 E0').A) :
    ∃ t, PS (xLaw P w K mg base fL cL A outer s H0 E0') (law0.getD 6 pass0') t ∧ ∀ (D : Ends) (a0 a1 a2 a3 a4 a5 a6 a7 a8 a9 a10 a11 a13 a14 a15 a16 a17 a18 a19 a20 a21 a22 a23 a24 a25 : Option V) (H : Hp) (g : Int), 1 ≤ g →
      (∀ (H' : Hp) (se : Addr), Ex H H' → (∃ dx, H' se = some (.ins CS dx (sF g))) → D.nx [a0, a1, a2, a3, a4, a5, a6, a7, a8, a9, a10, a11, some (.int g), a13, a14, some (.ref se), a16, a17, a18, a19, a20, a21, a22, a23, a24, a25] H') → t D [a0, a1, a2, a3, a4, a5, a6, a7, a8, a9, a10, a11, some (.int g), a13, a14, a15, a16, a17, a18, a19, a20, a21, a22, a23, a24, a25] H := by
  obtain ⟨f2, fd2, G2, M2, b2⟩ := ve.sinit
  refine ⟨_, ps_set (i := 15) scLaw.nd rfl (Or.inl rfl) (pe_make (CX := L2.CX P w) M2 G2 (hr.mono (by decide)) (by rfl) ve.BS.gC b2 .nil passL (pa_cons (pv 12) pa_nil)), ?_⟩
  intro D a0 a1 a2 a3 a4 a5 a6 a7 a8 a9 a10 a11 a13 a14 a15 a16 a17 a18 a19 a20 a21 a22 a23 a24 a25 H g g1 fin
  refine ⟨_, rfl, fun x dx hx hdx nx => sinit_step upd_same (fun h => absurd h (by omega)) (fun _ => ⟨rfl, ?_⟩)⟩
  exact fin _ x (ex_make hx hdx) ⟨dx, upd_same⟩
theorem s_body (ve : LawE P w K mg base CM CW CS CJ Pl cL fTo fdTo) (hr : Room 11 (xLaw P w K mg base fL cL A outer s H0 E0').A) :
    ∃ t, PSs (xLaw P w K mg base fL cL A outer s H0 E0') sBody t ∧ ∀ (D : Ends) (a0 a2 a3 a4 a5 a6 a7 a8 a9 a10 a11 a16 a17 a18 a19 a20 a21 a22 a23 a24 a25 : Option V) (H : Hp) (d p se tm sp : Addr) (us : List Addr) (g : Int) (ts : List Int) (S : List Sp2), Ss CS Pl d p se tm sp us g ts S H → 1 ≤ g → S.length ≤ ts.length → ts.length ≤ 40 → tm ≠ d → tm ≠ p →
      (∀ (H' : Hp) (sp' : Addr) (us' : List Addr) (ts' : List Int) (S' : List Sp2) (b9 b17 b18 b19 : Option V), Ss CS Pl d p se tm sp' us' g ts' S' H' → S'.length ≤ ts'.length → ts'.length = ts.length + 1 → D.nx [a0, some (.ref d), a2, a3, a4, a5, a6, a7, a8, b9, a10, a11, some (.int g), some (.ref tm), some (.ref sp'), some (.ref se), a16, b17, b18, b19, a20, a21, a22, a23, a24, a25] H') → t D [a0, some (.ref d), a2, a3, a4, a5, a6, a7, a8, a9, a10, a11, some (.int g), some (.ref tm), some (.ref sp), some (.ref se), a16, a17, a18, a19, a20, a21, a22, a23, a24, a25] H := by
  obtain ⟨f1, fd1, G1, g1, k1, b1⟩ := ve.roll
  obtain ⟨f2, fd2, G2, m2, b2⟩ := ve.joined
  obtain ⟨f3, fd3, G3, g3, k3, b3⟩ := ve.spans
  have hu := hr.units
  have hu' : (xLaw P w K mg base fL cL A outer s H0 E0').A.units + 65 < cLine := by
    have := hr.un
    omega
  refine ⟨_, pss_cons (ps_set (i := 9) scLaw.nd rfl (Or.inr rfl) (pe_call G1 (hr.mono (by decide)) (by rfl) g1 k1 b1 .nil pass0 (pa_cons (pv 1) (pa_cons pe_int pa_nil))))
    (pss_cons (ps_set (i := 17) scLaw.nd rfl (Or.inl rfl) (pv 14))
    (pss_cons (ps_asg (pe_meth (pv 15) ve.BS.cl m2 G2 (hr.mono (by decide)) b2 .nil pass0 (pa_cons (pv 14) (pa_cons (pv 9) pa_nil))) (pg_tup rfl (pgs_cons (pg_name (i := 14) scLaw.nd rfl (Or.inr rfl)) (pgs_cons (pg_name (i := 18) scLaw.nd rfl (Or.inr rfl)) (pgs_cons (pg_name (i := 19) scLaw.nd rfl (Or.inl rfl)) pgs_nil)))))
    (pss_cons (ps_expr (pe_bm PySem.F.plainAttrs_list PySem.F.slot_list_append PySem.F.type_list_append mt_append (pv 13) (pa_cons (pv 9) pa_nil)))
    (pss_one (ps_if (PW.pt (pw_or (pt_cmpR (op_neD hu) (pe_callTy call_list_of (by rfl) ve.T.list (by decide +kernel) (pa_cons (pv 14) pa_nil)) (pe_call G3 (hr.mono (by decide)) (by rfl) g3 k3 b3 .nil pass0 (pa_cons (pv 13) (pa_cons (pv 12) pa_nil))) (nomark _))
      (pw_or (pt_cmpR (op_notInP hu') (pv 18) (pv 14) (by rfl))
      (pw_or (pt_not (pt_chain op_le op_lt (pe_ix ix_tupD (pv 18) pe_int (fun _ _ => rfl)) (pv 9) (pe_ix ix_tupD (pv 18) pe_int (fun _ _ => rfl))))
      (pw_or1 (pt_cmpR (op_neD hu) (pe_callB cr_sortPL (by rfl) ve.T.sorted (by decide +kernel) (pa_cons (pv 19) pa_nil))
        (pe_lc (own := [("one", 23)]) (g := gName 23) (tt := tOr (tTest (tOp (rInP true) (tVar 23) (tVar 14))) (tTest (tOp (rEqD K) (tVar 23) (tVar 18)))) (te := tVar 23) rfl scLaw.nd (pi_tup (pv 17)) (blkOk_by (N := nLaw) (sc := defScope sLaw) (by decide +kernel))
          (fun _ _ _ _ _ => pg_name (i := 23) scLaw.nd rfl (Or.inl rfl)) (fun _ _ _ _ _ => pts_one (PW.pt (pw_or (pt_cmpR (op_notInP hu') (pv 23) (pv 14) (by rfl)) (pw_or1 (pt_cmpR (op_eqD hu) (pv 23) (pv 18) (nomark _)))))) (fun _ _ _ _ _ => pv 23)) (nomark _))))))) (pss_one (ps_ret pe_bl)) pss_nil))))), ?_⟩
  intro D a0 a2 a3 a4 a5 a6 a7 a8 a9 a10 a11 a16 a17 a18 a19 a20 a21 a22 a23 a24 a25 H d p se tm sp us g ts S a g0 hS hts ntd ntp fin
  refine ⟨_, rfl, roll_step a.b.dice (by decide) (by decide) fun t H1 t0 t60 e1 i1 => ?_⟩
  obtain ⟨dx, hse⟩ := a.hse
  have bd := a.b.dice
  have hps1 : Ps H1 us S := a.ps.ex fun b xs h => e1 _ _ (dice_neI bd h (fun _ z => nomatch z)) h
  have b1' := a.b.roll e1 i1
  have hse1 := e1 _ _ (dice_neI bd hse (fun _ z => nomatch z)) hse
  have htm1 := e1 _ _ ntd a.htm
  have hsp1 := e1 _ _ (dice_neI bd a.hsp (fun _ z => nomatch z)) a.hsp
  refine ⟨_, rfl, _, rfl, se, dx, _, rfl, hse1, sF_m (by decide +kernel), _, rfl, _, rfl, joined_step hse1 hsp1 hps1 (by omega) fun H2 r q1 q2 q3 us' us3 S' b e e2 R => ?_⟩
  have spn : Spans g (t :: ts) S' := joined_spans (by omega) a.sp R.j R.pm R.so
  have spn' : Spans g (ts ++ [t]) S' := spn.congr fun x => by simp [or_comm]
  have lS' : S'.length ≤ ts.length + 1 := by
    rw [R.pm.length_eq, List.length_append]
    have := List.length_filter_le (fun s => decide (s ∉ inner g t S)) S
    show (others g t S).length + 1 ≤ _
    unfold others
    omega
  refine ⟨r, _, rfl, SqT.of R.r, rfl, _, _, rfl, _, _, rfl, _, _, rfl, rfl, ?_⟩
  have htm2 := e2 _ _ htm1
  refine ⟨_, rfl, .inl ⟨rfl, _, SqL.of htm2⟩, _, rfl, tm, _, _, rfl, rfl, htm2, by rw [List.length_map]; exact Nat.lt_of_le_of_lt hts (by decide), ?_⟩
  have em : ts.map V.int ++ [V.int t] = (ts ++ [t]).map V.int := by rw [List.map_append]; rfl
  rw [em]
  have eD : ExD tm H2 (upd H2 tm (.lst ((ts ++ [t]).map V.int))) := fun b o n h => by rw [L2.upd_ne n]; exact h
  have h3 : (upd H2 tm (.lst ((ts ++ [t]).map V.int))) tm = some (.lst ((ts ++ [t]).map V.int)) := upd_same
  generalize upd H2 tm (.lst ((ts ++ [t]).map V.int)) = H3 at eD h3
  have keepT : ∀ {c : Addr} {xs : List V}, H2 c = some (.tup xs) → H3 c = some (.tup xs) := fun h => eD _ _ (fun z => by rw [z, htm2] at h; cases h) h
  have b3' : Bs Pl d p H3 := (b1'.ex e2).exD eD htm2 ntd ntp
  have hse3 : H3 se = some (.ins CS dx (sF g)) := eD _ _ (ne_of (e2 _ _ hse1) htm2 (fun z => nomatch z)) (e2 _ _ hse1)
  have p13 : Ps H3 us' S' := R.p1.ex fun b xs h => keepT h
  have p33 : Ps H3 us3 (inner g t S) := R.p3.ex fun b xs h => keepT h
  have pS3 : Ps H3 us S := hps1.ex fun b xs h => keepT (e2 _ _ h)
  have s3 : Ss CS Pl d p se tm q1 us' g (ts ++ [t]) S' H3 := ⟨b3', ⟨dx, hse3⟩, h3, keepT R.h1, p13, spn'⟩
  refine ⟨_, rfl, q1, _, rfl, .inr (SqT.of s3.hsp), fun l4 hl4 => ?_⟩
  have e4 : Ex H3 (upd H3 l4 (.lst (us'.map V.ref))) := Ex.upd hl4
  have h4 : (upd H3 l4 (.lst (us'.map V.ref))) l4 = some (.lst (us'.map V.ref)) := upd_same
  generalize upd H3 l4 (.lst (us'.map V.ref)) = H4 at e4 h4
  have s4 := s3.ex e4
  refine ⟨_, rfl, _, rfl, lspans_step s4.htm (by rw [List.length_append]; show ts.length + 1 < 64; omega) fun H5 q5 us5 ns' e5 h5 p5 pm so => ?_⟩
  have s5 := s4.ex e5
  have eq5 : S' = lawSp g ns' := spn'.uniq (by omega) ((lawSp_spans (by omega) so).congr fun x => pm.mem_iff)
  refine ⟨.list (S'.map pD), .list ((lawSp g ns').map pD), .lst (SqL.of (e5 _ _ h4)) (Ps.dp s5.ps), .lst (SqL.of h5) (Ps.dp p5), shaped_list _, shaped_list _, _, rfl, ?_⟩
  rw [eqv_lists, decide_eq_true eq5]
  have e35 := e4.trans e5
  have h25 := e35 _ _ (keepT R.h2)
  refine iteF ⟨_, rfl, _, rfl, q2, q1, (b, e), us', S', rfl, rfl, h25, s5.hsp, s5.ps, _, rfl, ?_⟩
  have hin : (b, e) ∈ S' := R.pm.mem_iff.mpr (by simp)
  rw [show (if true = true then !decide ((b, e) ∈ S') else decide ((b, e) ∈ S')) = (!decide ((b, e) ∈ S')) from rfl, decide_eq_true hin]
  have lb := R.j.b2
  have le := R.j.e2
  refine iteF ⟨_, rfl, q2, _, _, _, rfl, rfl, h25, at0, _, rfl, _, _, rfl, rfl, _, rfl, ?_⟩
  rw [decide_eq_true lb]
  refine iteT ⟨_, rfl, q2, _, _, _, rfl, rfl, h25, at1, _, _, rfl, rfl, _, rfl, ?_⟩
  rw [decide_eq_true (by omega : t < e)]
  have p35 : Ps H5 us3 (inner g t S) := p33.ex fun b xs h => e35 _ _ h
  refine iteF ⟨_, rfl, q3, us3, inner g t S, rfl, .inr (e35 _ _ (keepT R.h3)), p35, fun q6 us6 S6 hq6 ps6 pm6 so6 => ?_⟩
  have e6 : Ex H5 (upd H5 q6 (.lst (us6.map V.ref))) := Ex.upd hq6
  have h6 : (upd H5 q6 (.lst (us6.map V.ref))) q6 = some (.lst (us6.map V.ref)) := upd_same
  generalize upd H5 q6 (.lst (us6.map V.ref)) = H6 at e6 h6
  have s6 := s5.ex e6
  have e36 := e35.trans e6
  have hsp6 : H6 sp = some (.tup (us.map V.ref)) := e36 _ _ (keepT (e2 _ _ hsp1))
  have pS6 : Ps H6 us S := pS3.ex fun b xs h => e36 _ _ h
  have h26 := e6 _ _ h25
  refine ⟨_, rfl, sp, rfl, ⟨_, SqT.of hsp6⟩, fun D7 hD7 => lc_filt (fun x => decide (x ∉ S') || decide (x = (b, e))) (by show 23 < 26; decide) hsp6 pS6 (by omega) hD7 (fun x t' H7 R7 e7 ht hR => ?_) (fun H7 us7 e7 h7 p7 => ?_)⟩
  · refine ⟨_, rfl, _, rfl, t', q1, x, us', S', rfl, rfl, ht, e7 _ _ s6.hsp, s6.ps.ex fun b xs h => e7 _ _ h, _, rfl, ?_⟩
    rw [show (if true = true then !decide (x ∈ S') else decide (x ∈ S')) = (!decide (x ∈ S')) from rfl]
    by_cases c : x ∈ S'
    · rw [decide_eq_true c]
      rw [decide_eq_false (fun z => z c)] at hR
      refine iteF ⟨_, rfl, _, rfl, pD x, pD (b, e), .tup (SqT.of ht) (.cons (.int _) (.cons (.int _) .nil)), .tup (SqT.of (e7 _ _ h26)) (.cons (.int _) (.cons (.int _) .nil)), shaped_pD _, shaped_pD _, _, rfl, ?_⟩
      rw [eqv_pD]
      exact hR
    · rw [decide_eq_false c]
      rw [decide_eq_true c] at hR
      exact iteT hR
  · rw [taken_law (by omega) a.sp R.j R.pm] at p7
    have e6i : S6 = inner g t S := taken_eq (by omega) a.sp pm6 so6
    refine ⟨.list (S6.map pD), .list ((inner g t S).map pD), .lst (SqL.of (e7 _ _ h6)) (Ps.dp (ps6.ex fun b xs h => e7 _ _ (e6 _ _ h))), .lst (SqL.of h7) (Ps.dp p7), shaped_list _, shaped_list _, _, rfl, ?_⟩
    rw [eqv_lists, decide_eq_true e6i]
    exact iteF (fin H7 q1 us' (ts ++ [t]) S' _ _ _ _ (s6.ex e7) (by rw [List.length_append]; exact lS') (by rw [List.length_append]; rfl))
theorem law_7 (ve : LawE P w K mg base CM CW CS CJ Pl cL fTo fdTo) (hr : Room 11 (xLaw P w K mg base fL cL A outer s H0 E0').A) :
    ∃ t, PS (xLaw P w K mg base fL cL A outer s H0 E0') (law0.getD 7 pass0') t ∧ ∀ (D : Ends) (a0 a2 a3 a4 a5 a6 a7 a8 a9 a10 a11 a16 a17 a18 a19 a20 a21 a22 a23 a24 a25 : Option V) (H : Hp) (d p se tm sp : Addr) (g : Int), Ss CS Pl d p se tm sp [] g [] [] H → 1 ≤ g → tm ≠ d → tm ≠ p →
      (∀ (H' : Hp) (σ : L2.St), Bs Pl d p H' → σ.length = 26 → D.nx σ H') → t D [a0, some (.ref d), a2, a3, a4, a5, a6, a7, a8, a9, a10, a11, some (.int g), some (.ref tm), some (.ref sp), some (.ref se), a16, a17, a18, a19, a20, a21, a22, a23, a24, a25] H := by
  obtain ⟨f1, fd1, G1, g1, k1, b1⟩ := ve.roll
  obtain ⟨tb, db, qb⟩ := s_body (fL := fL) (A := A) (outer := outer) (s := s) (H0 := H0) (E0' := E0') ve hr
  refine ⟨_, ps_for PassesOwn.never rfl (pi_range1 (by rfl) ve.T.range (pa_cons (pe_call G1 (hr.mono (by decide)) (by rfl) g1 k1 b1 .nil pass0 (pa_cons (pv 1) (pa_cons pe_int pa_nil))) pa_nil)) (pg_name (i := 16) scLaw.nd rfl (Or.inl rfl)) db, ?_⟩
  intro D a0 a2 a3 a4 a5 a6 a7 a8 a9 a10 a11 a16 a17 a18 a19 a20 a21 a22 a23 a24 a25 H d p se tm sp g a g0 ntd ntp fin
  refine ⟨_, rfl, roll_step a.b.dice (by decide) (by decide) fun r H1 r0 r21 e1 i1 => ⟨r, rfl, by omega, by omega, ?_⟩⟩
  obtain ⟨dx, hse⟩ := a.hse
  have bd := a.b.dice
  have a1 : Ss CS Pl d p se tm sp [] g [] [] H1 := ⟨a.b.roll e1 i1, ⟨dx, e1 _ _ (dice_neI bd hse (fun _ z => nomatch z)) hse⟩, e1 _ _ ntd a.htm, e1 _ _ (dice_neI bd a.hsp (fun _ z => nomatch z)) a.hsp, .nil, a.sp⟩
  refine for_range (n := r.toNat) (fun i σ H2 => ∃ (sp : Addr) (us : List Addr) (ts : List Int) (S : List Sp2) (a9 a16 a17 a18 a19 : Option V), σ = [a0, some (.ref d), a2, a3, a4, a5, a6, a7, a8, a9, a10, a11, some (.int g), some (.ref tm), some (.ref sp), some (.ref se), a16, a17, a18, a19, a20, a21, a22, a23, a24, a25] ∧ Ss CS Pl d p se tm sp us g ts S H2 ∧ S.length ≤ ts.length ∧ ts.length = i)
    ⟨sp, [], [], [], _, _, _, _, _, rfl, a1, Nat.le_refl 0, rfl⟩ ?_ ?_
  · rintro i σ H2 hi ⟨sp, us, ts, S, a9, a16, a17, a18, a19, rfl, a2, hS, hl⟩
    refine qb _ _ _ _ _ _ _ _ _ _ _ _ _ _ _ _ _ _ _ _ _ _ H2 d p se tm sp us g ts S a2 g0 hS (by omega) ntd ntp fun H3 sp' us' ts' S' b9 b17 b18 b19 a3 hS' hl' => ?_
    exact ⟨sp', us', ts', S', _, _, _, _, _, rfl, a3, hS', by omega⟩
  · rintro σ H2 ⟨sp, us, ts, S, a9, a16, a17, a18, a19, rfl, a2, hS, hl⟩
    exact fin H2 _ a2.b rfl
end
end K8
set_option Elab.async false
set_option linter.all false
set_option maxRecDepth 100000
set_option maxHeartbeats 4000000
namespace K8
open PySem PySem.Spec PyProof.Rows L2 KB KC KD KS LamX Q1 R8 TL
abbrev EJ (K : PySem.W.Frag) (CJ : Addr) (Q : VK) : XK := fun cls _ H' => ∃ b, PySem.W.exmOne K cls (.ref CJ) = some b ∧ (b = true → Q (.str "JobError") H') ∧ (b = false → False)
def listOf : Stmt → List Expr
  | .Assign _ (.List es _) _ => es
  | .Assign _ (.BinOp _ _ (.List es _) _) _ => es
  | _ => []
abbrev noE : Expr := .Constant (.int 0) 0 ⟨0, 0, 0, 0⟩
abbrev lamE (k i : Nat) : Expr := (listOf ((defBody sLaw).getD k pass0')).getD i noE
def lamP : Expr → Arguments
  | .Lambda a _ _ _ => a
  | _ => { posonlyargs := [], args := [], vararg := none, kwonlyargs := [], kw_defaults := [], kwarg := none, defaults := [] }
def lamB : Expr → Expr
  | .Lambda _ b _ _ => b
  | e => e
def lamSc : Expr → Scope
  | .Lambda _ _ sc _ => sc
  | _ => defScope sLaw
section
variable {P : Program} {w : World} {K : PySem.W.Frag} {mg : Str → Option Value} {base : Heap} {CM CW CS CJ Pl cL fTo fL : Addr} {fdTo : FuncData} {A : Around} {outer : List PySem.Env} {s : Shared} {H0 : Hp} {E0' : XK}
def BadL (P : Program) (w : World) (K : PySem.W.Frag) (mg : Str → Option Value) (base : Heap) (CJ f : Addr) (H : Hp) : Prop :=
  ∀ (H' : Hp) (Q : VK), ExtN H H' → (∀ H'', Ex H' H'' → Q (.str "JobError") H'') → LamAt P w K mg base 4 f H' Q (EJ K CJ Q)
theorem BadL.exN {f : Addr} {H H1 : Hp} (b : BadL P w K mg base CJ f H) (e : ExtN H H1) : BadL P w K mg base CJ f H1 := fun H' Q e' h => b H' Q (e.trans e') h
theorem ne_tblL {f c' : Addr} {q : Str} {pa : Arguments} {bd : Expr} {sc : Scope} : ∀ ps, LamO f q pa bd sc c' ≠ .tbl ps := fun ps z => by
  unfold LamO at z
  cases z
theorem ne_tblC {q : Str} {c' : Addr} : ∀ ps, CodeO c' q ≠ .tbl ps := fun ps z => codeO_ne ps z
theorem bad_of {k i : Nat} {f c' : Addr} {H : Hp} (hf : H f = some (LamO f qL (lamP (lamE k i)) (lamB (lamE k i)) (lamSc (lamE k i)) c')) (hc : H c' = some (CodeO c' qL)) (S : FnScope [] [] (lamSc (lamE k i)))
    (hb : ∀ pm ctv, bindArgs (PySem.W.kla_fn "<lambda>" qL (lamP (lamE k i)) (lamB (lamE k i)) (lamSc (lamE k i)) [] pm (.ref c') ctv) ⟨[], []⟩ = pure [])
    (beh : ∀ (H' : Hp) (Q : VK) (E : XK), (∀ H'', Ex H' H'' → E (.ref CJ) none H'') → ∀ (A : Around) (outer : List Env) (s : Shared), Room 4 (A.deeper (envOfC qL (lamSc (lamE k i)) s.heap.objs.size f (.ref c'))) →
      ∃ t, PE (cxOf (L2.CX P w) P w K mg base [] qL (lamSc (lamE k i)) f (.ref c') A outer s H' E) (lamB (lamE k i)) t ∧ t (start [] []) H' Q) (J : TxtJ K mg CJ) : BadL P w K mg base CJ f H := by
  intro H' Q e h
  refine ⟨c', qL, _, _, _, [], e _ _ hf ne_tblL, e _ _ hc ne_tblC, S, hb, fun E hE A outer s hr => beh H' Q E (fun H'' ex => hE _ _ _ ⟨true, J.e, fun _ => h H'' ex, fun z => nomatch z⟩) A outer s hr⟩
theorem scL (k i : Nat) (h : lamSc (lamE k i) = lamSc (lamE k i)) : True := trivial
theorem beh_win (ve : LawE P w K mg base CM CW CS CJ Pl cL fTo fdTo) {i : Nat} (hi : i = 0 ∨ i = 1) {f c' : Addr} (H' : Hp) (Q : VK) (E : XK) (hE : ∀ H'', Ex H' H'' → E (.ref CJ) none H'') (A : Around) (outer : List Env) (s : Shared) (hr : Room 4 (A.deeper (envOfC qL (lamSc (lamE 1 i)) s.heap.objs.size f (.ref c')))) :
    ∃ t, PE (cxOf (L2.CX P w) P w K mg base [] qL (lamSc (lamE 1 i)) f (.ref c') A outer s H' E) (lamB (lamE 1 i)) t ∧ t (start [] []) H' Q := by
  obtain ⟨f2, fd2, G2, M2, b2⟩ := ve.winit
  rcases hi with rfl | rfl
  · refine ⟨_, pe_make M2 G2 (hr.mono (by decide)) (by rfl) ve.BW.gC b2 .nil (passes_call (takes_of rfl rfl rfl rfl) (fun _ _ _ _ h => h)) (pa_cons pe_int (pa_cons pe_int pa_nil)), ?_⟩
    exact fun x dx hx hdx nx => winit_step upd_same (fun _ => hE _ (Ex.on (Ex.upd hdx) hx)) (fun h => by omega)
  · refine ⟨_, pe_make M2 G2 (hr.mono (by decide)) (by rfl) ve.BW.gC b2 .nil (passes_call (takes_of rfl rfl rfl rfl) (fun _ _ _ _ h => h)) (pa_cons pe_int (pa_cons pe_int pa_nil)), ?_⟩
    exact fun x dx hx hdx nx => winit_step upd_same (fun _ => hE _ (Ex.on (Ex.upd hdx) hx)) (fun h => by omega)
theorem beh_ses (ve : LawE P w K mg base CM CW CS CJ Pl cL fTo fdTo) {f c' : Addr} (H' : Hp) (Q : VK) (E : XK) (hE : ∀ H'', Ex H' H'' → E (.ref CJ) none H'') (A : Around) (outer : List Env) (s : Shared) (hr : Room 4 (A.deeper (envOfC qL (lamSc (lamE 1 2)) s.heap.objs.size f (.ref c')))) :
    ∃ t, PE (cxOf (L2.CX P w) P w K mg base [] qL (lamSc (lamE 1 2)) f (.ref c') A outer s H' E) (lamB (lamE 1 2)) t ∧ t (start [] []) H' Q := by
  obtain ⟨f2, fd2, G2, M2, b2⟩ := ve.sinit
  refine ⟨_, pe_make M2 G2 (hr.mono (by decide)) (by rfl) ve.BS.gC b2 .nil (passes_call (takes_of rfl rfl rfl rfl) (fun _ _ _ _ h => h)) (pa_cons pe_int pa_nil), ?_⟩
  exact fun x dx hx hdx nx => sinit_step upd_same (fun _ => hE _ (Ex.on (Ex.upd hdx) hx)) (fun h => by omega)
theorem aOk : (["a"] : List Str).Nodup ∧ (["a"] : List Str).length ≤ 1000 := ⟨by decide +kernel, by decide⟩
theorem beh_tell (ve : LawE P w K mg base CM CW CS CJ Pl cL fTo fdTo) {f c' : Addr} (H' : Hp) (Q : VK) (E : XK) (hE : ∀ H'', Ex H' H'' → E (.ref CJ) none H'') (A : Around) (outer : List Env) (s : Shared) (hr : Room 4 (A.deeper (envOfC qL (lamSc (lamE 1 3)) s.heap.objs.size f (.ref c')))) :
    ∃ t, PE (cxOf (L2.CX P w) P w K mg base [] qL (lamSc (lamE 1 3)) f (.ref c') A outer s H' E) (lamB (lamE 1 3)) t ∧ t (start [] []) H' Q := by
  obtain ⟨f1, fd1, G1, M1, b1⟩ := ve.minit
  obtain ⟨f2, fd2, G2, m2, b2⟩ := ve.tell
  refine ⟨_, pe_meth (pe_make M1 G1 (hr.mono (by decide)) (by rfl) ve.BM.gC b1 .nil pass0 (pa_cons (pe_lst (pa_cons pe_str pa_nil)) pa_nil)) ve.BM.cl m2 G2 (hr.mono (by decide)) b2 .nil (passes_call (takes_of rfl rfl rfl rfl) (fun _ _ _ _ h => h)) (pa_cons pe_str (pa_cons pe_int pa_nil)), ?_⟩
  refine ⟨(by show 1 ≤ sizeLine; decide), fun l hl x dx hx hdx nx => minit_stepR (ns := ["a"]) upd_same aOk.1 aOk.2 hx hdx nx fun H1 dm di e1 ndi hm => ⟨rfl, ?_⟩⟩
  obtain ⟨dx1, ho⟩ := hm.o
  refine ⟨x, dx1, _, rfl, ho, mF_m (by decide +kernel) (by decide +kernel) (by decide +kernel), tell_step hm ndi (by decide) (by rw [tk0_names]; exact aOk.1) (by decide) (fun _ => hE _ ((Ex.upd hl).trans e1)) (fun z => ?_)⟩
  rw [tk0_names] at z
  exact absurd z (by decide +kernel)
theorem beh_rest (ve : LawE P w K mg base CM CW CS CJ Pl cL fTo fdTo) {f c' : Addr} (H' : Hp) (Q : VK) (E : XK) (hE : ∀ H'', Ex H' H'' → E (.ref CJ) none H'') (A : Around) (outer : List Env) (s : Shared) (hr : Room 4 (A.deeper (envOfC qL (lamSc (lamE 2 0)) s.heap.objs.size f (.ref c')))) :
    ∃ t, PE (cxOf (L2.CX P w) P w K mg base [] qL (lamSc (lamE 2 0)) f (.ref c') A outer s H' E) (lamB (lamE 2 0)) t ∧ t (start [] []) H' Q := by
  obtain ⟨f1, fd1, G1, M1, b1⟩ := ve.minit
  obtain ⟨f2, fd2, G2, m2, b2⟩ := ve.rest
  refine ⟨_, pe_meth (pe_make M1 G1 (hr.mono (by decide)) (by rfl) ve.BM.gC b1 .nil pass0 (pa_cons (pe_lst (pa_cons pe_str pa_nil)) pa_nil)) ve.BM.cl m2 G2 (hr.mono (by decide)) b2 .nil (passes_call (takes_of rfl rfl rfl rfl) (fun _ _ _ _ h => h)) (pa_cons pe_str pa_nil), ?_⟩
  refine ⟨(by show 1 ≤ sizeLine; decide), fun l hl x dx hx hdx nx => minit_stepR (ns := ["a"]) upd_same aOk.1 aOk.2 hx hdx nx fun H1 dm di e1 ndi hm => ⟨rfl, ?_⟩⟩
  obtain ⟨dx1, ho⟩ := hm.o
  refine ⟨x, dx1, _, rfl, ho, mF_m (by decide +kernel) (by decide +kernel) (by decide +kernel), rest_step hm ndi (by decide) (by decide) (by decide) (fun _ => hE _ ((Ex.upd hl).trans e1)) (fun z => ?_)⟩
  rw [tk0_names] at z
  exact absurd z (by decide +kernel)
theorem tabM : (Pl, (Str.ofString "law" ++ Str.ofString ".<locals>.") ++ Str.ofString "<lambda>") ∈ TT Pl := by rw [qLaw]; exact List.mem_cons_self ..
theorem tabU : ∀ p ∈ TT Pl, p.1 = Pl → p.2 = (Str.ofString "law" ++ Str.ofString ".<locals>.") ++ Str.ofString "<lambda>" := by
  rw [qLaw]
  intro p hp e
  rcases List.mem_cons.mp hp with z | h
  · rw [z]
  · cases h
theorem law_b1 (ve : LawE P w K mg base CM CW CS CJ Pl cL fTo fdTo) (hr : Room 11 (xLaw P w K mg base fL cL A outer s H0 E0').A) :
    ∃ t, PS (xLaw P w K mg base fL cL A outer s H0 E0') ((defBody sLaw).getD 1 pass0') t ∧ ∀ (D : Ends) (σ : L2.St) (H : Hp), Tabs (TT Pl) H →
      (∀ (H' : Hp) (l : Addr) (fs : List Addr), Tabs (TT Pl) H' → H' l = some (.lst (fs.map V.ref)) → fs.length = 4 → (∀ f ∈ fs, BadL P w K mg base CJ f H') → D.nx (σ.set 20 (some (.ref l))) H') → t D σ H := by
  refine ⟨_, ps_set (i := 20) scLaw.nd rfl (Or.inl rfl) (pe_lst (pa_cons (pe_lamV (T := TT Pl) ve.TBl rfl tabM tabU rfl (by decide +kernel) rfl) (pa_cons (pe_lamV (T := TT Pl) ve.TBl rfl tabM tabU rfl (by decide +kernel) rfl)
      (pa_cons (pe_lamV (T := TT Pl) ve.TBl rfl tabM tabU rfl (by decide +kernel) rfl) (pa_cons (pe_lamV (T := TT Pl) ve.TBl rfl tabM tabU rfl (by decide +kernel) rfl) pa_nil))))), ?_⟩
  intro D σ H ht fin
  refine ⟨ht, fun f1 c1 H1 e1 t1 hf1 hc1 n1 => ⟨t1, fun f2 c2 H2 e2 t2 hf2 hc2 n2 => ⟨t2, fun f3 c3 H3 e3 t3 hf3 hc3 n3 => ⟨t3, fun f4 c4 H4 e4 t4 hf4 hc4 n4 => ⟨(by show 4 ≤ sizeLine; decide), fun l hl => ?_⟩⟩⟩⟩⟩
  have q : (Str.ofString "law" ++ Str.ofString ".<locals>.") ++ Str.ofString "<lambda>" = qL := qLaw
  have b1 : BadL P w K mg base CJ f1 H1 := bad_of (k := 1) (i := 0) (by rw [← q]; exact hf1) (by rw [← q]; exact hc1) ⟨rfl, rfl, rfl, by decide +kernel, rfl, by decide +kernel, by decide +kernel⟩ (fun _ _ => rfl) (beh_win ve (.inl rfl)) ve.J
  have b2 : BadL P w K mg base CJ f2 H2 := bad_of (k := 1) (i := 1) (by rw [← q]; exact hf2) (by rw [← q]; exact hc2) ⟨rfl, rfl, rfl, by decide +kernel, rfl, by decide +kernel, by decide +kernel⟩ (fun _ _ => rfl) (beh_win ve (.inr rfl)) ve.J
  have b3 : BadL P w K mg base CJ f3 H3 := bad_of (k := 1) (i := 2) (by rw [← q]; exact hf3) (by rw [← q]; exact hc3) ⟨rfl, rfl, rfl, by decide +kernel, rfl, by decide +kernel, by decide +kernel⟩ (fun _ _ => rfl) (beh_ses ve) ve.J
  have b4 : BadL P w K mg base CJ f4 H4 := bad_of (k := 1) (i := 3) (by rw [← q]; exact hf4) (by rw [← q]; exact hc4) ⟨rfl, rfl, rfl, by decide +kernel, rfl, by decide +kernel, by decide +kernel⟩ (fun _ _ => rfl) (beh_tell ve) ve.J
  have el : ExtN H4 (upd H4 l (.lst [.ref f1, .ref f2, .ref f3, .ref f4])) := ExtN.of (Ex.upd hl)
  refine fin _ l [f1, f2, f3, f4] (t4.ext (Ex.upd hl)) upd_same rfl fun f hf => ?_
  have e34 := e4.trans el
  have e24 := e3.trans e34
  have e14 := e2.trans e24
  simp only [List.mem_cons, List.not_mem_nil, or_false] at hf
  rcases hf with rfl | rfl | rfl | rfl
  · exact b1.exN e14
  · exact b2.exN e24
  · exact b3.exN e34
  · exact b4.exN el
theorem law_b2 (ve : LawE P w K mg base CM CW CS CJ Pl cL fTo fdTo) (hr : Room 11 (xLaw P w K mg base fL cL A outer s H0 E0').A) :
    ∃ t, PS (xLaw P w K mg base fL cL A outer s H0 E0') ((defBody sLaw).getD 2 pass0') t ∧ ∀ (D : Ends) (σ : L2.St) (H : Hp) (l : Addr) (fs : List Addr), σ[20]? = some (some (.ref l)) → Tabs (TT Pl) H → H l = some (.lst (fs.map V.ref)) → fs.length = 4 → (∀ f ∈ fs, BadL P w K mg base CJ f H) →
      (∀ (H' : Hp) (l : Addr) (fs : List Addr), Tabs (TT Pl) H' → H' l = some (.lst (fs.map V.ref)) → fs.length = 5 → (∀ f ∈ fs, BadL P w K mg base CJ f H') → D.nx (σ.set 20 (some (.ref l))) H') → t D σ H := by
  refine ⟨_, ps_set (i := 20) scLaw.nd rfl (Or.inl rfl) (pe_op op_cat (pv 20) (pe_lst (pa_cons (pe_lamV (T := TT Pl) ve.TBl rfl tabM tabU rfl (by decide +kernel) rfl) pa_nil))), ?_⟩
  intro D σ H l fs hσ ht hl hlen hb fin
  refine ⟨_, hσ, ht, fun f1 c1 H1 e1 t1 hf1 hc1 n1 => ⟨(by show 1 ≤ sizeLine; decide), fun l2 hl2 => ?_⟩⟩
  have q : (Str.ofString "law" ++ Str.ofString ".<locals>.") ++ Str.ofString "<lambda>" = qL := qLaw
  have b1 : BadL P w K mg base CJ f1 H1 := bad_of (k := 2) (i := 0) (by rw [← q]; exact hf1) (by rw [← q]; exact hc1) ⟨rfl, rfl, rfl, by decide +kernel, rfl, by decide +kernel, by decide +kernel⟩ (fun _ _ => rfl) (beh_rest ve) ve.J
  have hll := e1 _ _ hl (fun _ z => nomatch z)
  refine ⟨l, l2, fs.map V.ref, [.ref f1], rfl, rfl, Ex.upd hl2 _ _ hll, upd_same, by rw [List.length_map, hlen]; show 4 + 1 ≤ sizeLine; decide, fun p hp => ?_⟩
  have e2 : Ex H1 (upd (upd H1 l2 (.lst [.ref f1])) p (.lst (fs.map V.ref ++ [.ref f1]))) := (Ex.upd hl2).trans (Ex.upd hp)
  refine fin _ p (fs ++ [f1]) (t1.ext e2) (by rw [upd_same, List.map_append]; rfl) (by rw [List.length_append, hlen]; rfl) fun f hf => ?_
  rcases List.mem_append.mp hf with h | h
  · exact (hb f h).exN (e1.trans (ExtN.of e2))
  · rw [List.mem_singleton.mp h]
    exact b1.exN (ExtN.of e2)
end
end K8
set_option Elab.async false
set_option linter.all false
set_option maxRecDepth 100000
set_option maxHeartbeats 4000000
namespace K8
open PySem PySem.Spec PyProof.Rows L2 KB KC KD KS LamX Q1 R8 TL
theorem toldV_step {P : Program} {w : World} {K : PySem.W.Frag} {mg : Str → Option Value} {base : Heap} {CJ f : Addr} {H : Hp} {Q : VK} {E : XK} (b : BadL P w K mg base CJ f H) (q : ∀ H', Ex H H' → Q (.str "JobError") H') : spToldV P w K mg base 4 CJ "JobError" [.ref f] H Q E := by
  unfold spToldV
  exact ⟨f, rfl, b H Q (ExtN.refl H) q⟩
theorem two_spans {S' : List Sp2} {b e : Int} (J : Joint 5 5 [((0 : Int), (5 : Int))] b e) (pm : S'.Perm (others 5 5 [(0, 5)] ++ [(b, e)])) (so : S'.Pairwise fun a b => lt2 b a = false) : S' = [(0, 5), (5, 10)] ∧ b = 5 ∧ e = 10 ∧ inner 5 5 [((0 : Int), (5 : Int))] = [] := by
  have h0 : Spans 5 [0] [((0 : Int), (5 : Int))] := by
    have := ls_spans (g := 5) (t := 0) (by decide) spans_nil (fun u hu => absurd hu (by simp))
    exact this
  have h1 : Spans 5 [5, 0] [((0 : Int), (5 : Int)), (5, 10)] := by
    have := ls_spans (g := 5) (t := 5) (by decide) h0 (fun u hu => by rw [List.mem_singleton.mp hu]; decide)
    exact this
  have hi : inner 5 5 [((0 : Int), (5 : Int))] = [] := by decide +kernel
  have e1 := (joined_spans (by decide) h0 J pm so).uniq (by decide) h1
  refine ⟨e1, ?_, ?_, hi⟩
  · rcases J.b1 with h | ⟨s, hs, _⟩
    · exact h
    · rw [hi] at hs; cases hs
  · rcases J.e1 with h | ⟨s, hs, _⟩
    · exact h
    · rw [hi] at hs; cases hs
def spLaw (K : PySem.W.Frag) (Pl : Addr) : Sp := fun vs H Q _ => ∃ (a : Addr) (ns : List Int), vs = [.ref a] ∧ SqL K H a (ns.map V.int) ∧ Tabs (TT Pl) H ∧ ∀ H', Q (.bl true) H'
section
variable {P : Program} {w : World} {K : PySem.W.Frag} {mg : Str → Option Value} {base : Heap} {CM CW CS CJ Pl cL fTo fL : Addr} {fdTo fdL : FuncData} {A : Around} {outer : List PySem.Env} {s : Shared} {H0 : Hp} {E0' : XK}
theorem law_ret (ve : LawE P w K mg base CM CW CS CJ Pl cL fTo fdTo) (hr : Room 11 (xLaw P w K mg base fL cL A outer s H0 E0').A) :
    ∃ t, PS (xLaw P w K mg base fL cL A outer s H0 E0') ((defBody sLaw).getD 3 pass0') t ∧ ∀ (D : Ends) (σ : L2.St) (H : Hp) (l : Addr) (fs : List Addr), σ[20]? = some (some (.ref l)) → σ.length = 26 → H l = some (.lst (fs.map V.ref)) → fs.length = 5 → (∀ f ∈ fs, BadL P w K mg base CJ f H) → (∀ H', D.rt (.bl true) H') → t D σ H := by
  obtain ⟨f2, fd2, G2, M2, b2⟩ := ve.winit
  obtain ⟨f3, fd3, G3, m3, b3⟩ := ve.around
  obtain ⟨f4, fd4, G4, M4, b4⟩ := ve.sinit
  obtain ⟨f5, fd5, G5, m5, b5⟩ := ve.joined
  have GT : FnOk P w K mg base CX0 6 fTo fdTo ["what"] (spToldV P w K mg base 4 CJ "JobError") := ok_toldV ve.told scTold rfl (Or.inl rfl) (fun f => rfl) (by rfl) ve.J.g (by decide +kernel) (by decide +kernel) (by decide +kernel)
  have bT : L2.Binds K fdTo ["what"] [] := ve.told.bindsN (ps := ["what"]) fun _ _ _ _ _ _ us hl => match us, hl with | [_], _ => rfl
  have hu := hr.units
  refine ⟨_, ps_ret (pe_and (pe_cmpR (op_eqD hu) (pe_lc (own := [("f", 25)]) (g := gName 25) (tt := tTest (tOp rNe (tCall (spToldV P w K mg base 4 CJ "JobError") [] E0 (tCons (tVar 25) tNil)) (tC (.str "JobError")))) (te := tC (.int 1)) rfl scLaw.nd (pi_list (pv 20)) (blkOk_by (N := nLaw) (sc := defScope sLaw) (by decide +kernel))
        (fun _ _ _ _ _ => pg_name (i := 25) scLaw.nd rfl (Or.inl rfl)) (fun _ _ _ _ _ => pts_one (pt_cmpR op_ne (pe_call GT (hr.mono (by decide)) (by rfl) ve.gTold ve.told.kp bT .nil pass0 (pa_cons (pv 25) pa_nil)) pe_str (nomark _))) (fun _ _ _ _ _ => pe_int)) (pe_lst pa_nil) (nomark _))
    (pe_and (pe_cmpR (op_eqD hu) (pe_meth (pe_make (CX := L2.CX P w) M2 G2 (hr.mono (by decide)) (by rfl) ve.BW.gC b2 .nil passL (pa_cons pe_int (pa_cons pe_int pa_nil))) ve.BW.cl m3 G3 (hr.mono (by decide)) b3 .nil pass0 (pa_cons pe_int pa_nil))
        (pe_tup (pa_cons (pe_tup (pa_cons pe_int (pa_cons pe_int pa_nil))) (pa_cons (pe_tup (pa_cons pe_int (pa_cons pe_int pa_nil))) pa_nil))) (nomark _))
    (pe_one (pe_cmpR (op_eqD hu) (pe_meth (pe_make (CX := L2.CX P w) M4 G4 (hr.mono (by decide)) (by rfl) ve.BS.gC b4 .nil passL (pa_cons pe_int pa_nil)) ve.BS.cl m5 G5 (hr.mono (by decide)) b5 .nil pass0 (pa_cons (pe_tup (pa_cons (pe_tup (pa_cons pe_int (pa_cons pe_int pa_nil))) pa_nil)) (pa_cons pe_int pa_nil)))
        (pe_tup (pa_cons (pe_tup (pa_cons (pe_tup (pa_cons pe_int (pa_cons pe_int pa_nil))) (pa_cons (pe_tup (pa_cons pe_int (pa_cons pe_int pa_nil))) pa_nil))) (pa_cons (pe_tup (pa_cons pe_int (pa_cons pe_int pa_nil))) (pa_cons (pe_tup pa_nil) pa_nil)))) (nomark _))))), ?_⟩
  intro D σ H l fs hσ hσl hl hlen hb fin
  have two : 2 ≤ sizeLine := by decide
  have one : 1 ≤ sizeLine := by decide
  have zero : 0 ≤ sizeLine := by decide
  have three : 3 ≤ sizeLine := by decide
  refine ⟨_, hσ, l, rfl, ⟨_, SqL.of hl⟩, fun D1 hD1 => ?_⟩
  refine lcG walk_list RInt (fun _ => none) RInt.stab hD1 (by rw [List.length_map, hlen]; decide) (fun H5 e5 => SqL.of (e5 _ _ hl)) (fun i H5 x H6 _ _ h => yat_ex h) (fun j x H5 H6 R0 N0 hj e5 hy hno hsm => ?_) (fun H1 xs e1 hx1 hps => ?_)
  · obtain ⟨rfl, hxi⟩ := hy
    rw [List.getElem?_map] at hxi
    obtain ⟨f, hf, rfl⟩ := Option.map_eq_some_iff.mp hxi
    have hfm := List.mem_of_getElem? hf
    have hw : ((wipe σ [25]).set 25 (some (V.ref f)))[25]? = some (some (V.ref f)) := by
      rw [List.getElem?_set_self]
      rw [wipe_length, hσl]
      decide
    refine ⟨wipe_set, _, hw, toldV_step ((hb f hfm).exN (ExtN.of e5)) fun H7 e7 => ⟨rfl, _, rfl, ?_⟩⟩
    have : (!decide (V.str (Str.ofString "JobError") = V.str (Str.ofString "JobError"))) = false := by simp
    rw [this]
    exact iteF (hno rfl _ e7)
  · have hx0 : xs = [] := by
      have e : (List.range (fs.map V.ref).length).filterMap (fun _ => (none : Option Int)) = [] := by
        generalize List.range (fs.map V.ref).length = r
        induction r with
        | nil => rfl
        | cons a r ih => simpa using ih
      rw [e] at hps
      cases hps
      rfl
    subst hx0
    refine ⟨zero, fun z1 hz1 => ⟨.list [], .list [], .lst (SqL.of (Ex.upd hz1 _ _ hx1)) .nil, .lst (SqL.of upd_same) .nil, by rfl, by rfl, true, rfl, iteT ?_⟩⟩
    generalize upd H1 z1 (.lst []) = H2
    refine fun x dx hx hdx nx => winit_step upd_same (fun h => absurd ⟨by decide, by decide⟩ h) (fun _ => ⟨rfl, ?_⟩)
    have hx1 : (upd (upd (upd H2 dx (.own x)) x (.ins CW dx [])) x (.ins CW dx (wF 6 3))) x = some (.ins CW dx (wF 6 3)) := upd_same
    generalize upd (upd (upd H2 dx (.own x)) x (.ins CW dx [])) x (.ins CW dx (wF 6 3)) = H3 at hx1
    refine ⟨x, dx, _, rfl, hx1, wF_m (by decide +kernel) (by decide +kernel), around_step hx1 (by decide) (by decide) (by decide) (by decide) (by decide) fun H4 q4 us e4 h4 ps4 => ?_⟩
    have ew : progW 4 3 6 = [(0, 6), (3, 9)] := by decide +kernel
    rw [ew] at ps4
    refine ⟨two, fun u1 hu1 => ⟨two, fun u2 hu2 => ⟨two, fun u3 hu3 => ?_⟩⟩⟩
    have e5 : Ex H4 (upd (upd (upd H4 u1 (.tup [.int 0, .int 6])) u2 (.tup [.int 3, .int 9])) u3 (.tup [.ref u1, .ref u2])) := ((Ex.upd hu1).trans (Ex.upd hu2)).trans (Ex.upd hu3)
    have k1 : (upd (upd (upd H4 u1 (.tup [.int 0, .int 6])) u2 (.tup [.int 3, .int 9])) u3 (.tup [.ref u1, .ref u2])) u1 = some (.tup [.int 0, .int 6]) := Ex.upd hu3 _ _ (Ex.upd hu2 _ _ upd_same)
    have k2 : (upd (upd (upd H4 u1 (.tup [.int 0, .int 6])) u2 (.tup [.int 3, .int 9])) u3 (.tup [.ref u1, .ref u2])) u2 = some (.tup [.int 3, .int 9]) := Ex.upd hu3 _ _ upd_same
    have k3 : (upd (upd (upd H4 u1 (.tup [.int 0, .int 6])) u2 (.tup [.int 3, .int 9])) u3 (.tup [.ref u1, .ref u2])) u3 = some (.tup ([u1, u2].map V.ref)) := upd_same
    generalize upd (upd (upd H4 u1 (.tup [.int 0, .int 6])) u2 (.tup [.int 3, .int 9])) u3 (.tup [.ref u1, .ref u2]) = H5 at e5 k1 k2 k3
    have psu : Ps H5 [u1, u2] [(0, 6), (3, 9)] := .cons k1 (.cons k2 .nil)
    refine ⟨.tuple ([((0 : Int), (6 : Int)), (3, 9)].map pD), .tuple ([((0 : Int), (6 : Int)), (3, 9)].map pD), .tup (SqT.of (e5 _ _ h4)) (Ps.dp (ps4.ex fun b xs h => e5 _ _ h)), .tup (SqT.of k3) (Ps.dp psu), shaped_tuple _, shaped_tuple _, true, ?_, iteT ?_⟩
    · rw [eqv_tuples, decide_eq_true rfl]
    refine fun y dy hy hdy ny => sinit_step upd_same (fun h => absurd h (by decide)) (fun _ => ⟨rfl, ?_⟩)
    have hy1 : (upd (upd (upd H5 dy (.own y)) y (.ins CS dy [])) y (.ins CS dy (sF 5))) y = some (.ins CS dy (sF 5)) := upd_same
    generalize upd (upd (upd H5 dy (.own y)) y (.ins CS dy [])) y (.ins CS dy (sF 5)) = H6 at hy1
    refine ⟨y, dy, _, rfl, hy1, sF_m (by decide +kernel), two, fun v1 hv1 => ⟨one, fun v2 hv2 => ?_⟩⟩
    have e7 : Ex H6 (upd (upd H6 v1 (.tup [.int 0, .int 5])) v2 (.tup [.ref v1])) := (Ex.upd hv1).trans (Ex.upd hv2)
    have kv1 : (upd (upd H6 v1 (.tup [.int 0, .int 5])) v2 (.tup [.ref v1])) v1 = some (.tup [.int 0, .int 5]) := Ex.upd hv2 _ _ upd_same
    have kv2 : (upd (upd H6 v1 (.tup [.int 0, .int 5])) v2 (.tup [.ref v1])) v2 = some (.tup ([v1].map V.ref)) := upd_same
    generalize upd (upd H6 v1 (.tup [.int 0, .int 5])) v2 (.tup [.ref v1]) = H7 at e7 kv1 kv2
    refine joined_step (S := [(0, 5)]) (e7 _ _ hy1) kv2 (.cons kv1 .nil) (by decide) fun H8 r q1 q2 q3 us' us3 S' b e e8 R => ?_
    obtain ⟨eS, rfl, rfl, ei⟩ := two_spans R.j R.pm R.so
    have p1 := R.p1
    have p3 := R.p3
    rw [eS] at p1
    rw [ei] at p3
    refine ⟨two, fun w1 hw1 => ⟨two, fun w2 hw2 => ⟨two, fun w3 hw3 => ⟨two, fun w4 hw4 => ⟨zero, fun w5 hw5 => ⟨three, fun w6 hw6 => ?_⟩⟩⟩⟩⟩⟩
    have j2 := Ex.upd (o := .tup [.int 5, .int 10]) hw2
    have j3 := Ex.upd (o := .tup [.ref w1, .ref w2]) hw3
    have j4 := Ex.upd (o := .tup [.int 5, .int 10]) hw4
    have j5 := Ex.upd (o := .tup []) hw5
    have j6 := Ex.upd (o := .tup [.ref w3, .ref w4, .ref w5]) hw6
    have j56 := j5.trans j6
    have j46 := j4.trans j56
    have j36 := j3.trans j46
    have j26 := j2.trans j36
    have j16 := (Ex.upd (o := .tup [.int 0, .int 5]) hw1).trans j26
    have pw : Ps _ [w1, w2] [((0 : Int), (5 : Int)), (5, 10)] := .cons (j26 _ _ upd_same) (.cons (j36 _ _ upd_same) .nil)
    refine ⟨.tuple [.tuple ([((0 : Int), (5 : Int)), (5, 10)].map pD), pD (5, 10), .tuple (([] : List Sp2).map pD)], .tuple [.tuple ([((0 : Int), (5 : Int)), (5, 10)].map pD), pD (5, 10), .tuple []],
      .tup (SqT.of (j16 _ _ R.r)) (.cons (.tup (SqT.of (j16 _ _ R.h1)) (Ps.dp (p1.ex fun b xs h => j16 _ _ h))) (.cons (.tup (SqT.of (j16 _ _ R.h2)) (.cons (.int _) (.cons (.int _) .nil))) (.cons (.tup (SqT.of (j16 _ _ R.h3)) (Ps.dp (p3.ex fun b xs h => j16 _ _ h))) .nil))),
      .tup (SqT.of upd_same) (.cons (.tup (SqT.of (j46 _ _ upd_same)) (Ps.dp pw)) (.cons (.tup (SqT.of (j56 _ _ upd_same)) (.cons (.int _) (.cons (.int _) .nil))) (.cons (.tup (SqT.of (j6 _ _ upd_same)) .nil) .nil))), by decide +kernel, by decide +kernel, ?_⟩
    have ev : PyData.eqv (.tuple [.tuple ([((0 : Int), (5 : Int)), (5, 10)].map pD), pD (5, 10), .tuple (([] : List Sp2).map pD)]) (.tuple [.tuple ([((0 : Int), (5 : Int)), (5, 10)].map pD), pD (5, 10), .tuple []]) = true := by decide +kernel
    rw [ev]
    exact fin _
end
end K8
set_option Elab.async false
set_option linter.all false
set_option maxRecDepth 100000
set_option maxHeartbeats 4000000
namespace K8
open PySem PySem.Spec PyProof.Rows L2 KB KC KD KS LamX Q1 R8 TL
theorem okC {P : Program} {w : World} {K : PySem.W.Frag} {mg : Str → Option Value} {base : Heap} {x qual : Str} {st : Stmt} {dvs : List V} {f c : Addr} {fd : FuncData} {CX : CXT} {N ps : List Str} {k : Nat} {sp : Sp} (F : FnP K x qual st dvs f fd) (hc : fd.code = .ref c) (S : FnScope N ps (defScope st)) (len : ∀ vs H Q E, sp vs H Q E → vs.length = ps.length)
    (hbody : ∀ (A : Around) (outer : List Env) (s : Shared) (H : Hp) (vs : List V) (Q : VK) (E : XK), Room k (A.deeper (envOfC qual (defScope st) s.heap.objs.size f (.ref c))) → sp vs H Q E →
      ∃ t, PSs (cxOf CX P w K mg base N qual (defScope st) f (.ref c) A outer s H E) (defBody st) t ∧ t { nx := fun _ H' => Q .non H', rt := Q } (start N vs) H) : FnOk P w K mg base CX (k + 1) f fd ps sp := by
  obtain ⟨oc, od, dV, kV, doc, pm, an, cdv, ct, osl, rfl, lk, hcd, hD, hK⟩ := F.ex
  have e : cdv = .ref c := hc
  subst e
  exact fn_of lk hcd S len hbody
section
variable {P : Program} {w : World} {K : PySem.W.Frag} {mg : Str → Option Value} {base : Heap} {CM CW CS CJ Pl cL fTo fL : Addr} {fdTo fdL : FuncData}
theorem ok_law (F : FnP K "law" "law" sLaw [] fL fdL) (hc : fdL.code = .ref cL) (ve : LawE P w K mg base CM CW CS CJ Pl cL fTo fdTo) : FnOk P w K mg base CX0 12 fL fdL ["script"] (spLaw K Pl) := by
  refine okC F hc scLaw (fun vs H Q E h => ?_) (fun A outer s H vs Q E hr h => ?_)
  · obtain ⟨_, _, rfl, _⟩ := h; rfl
  · obtain ⟨a, ns, rfl, hS, ht, fin⟩ := h
    obtain ⟨fR, fdR, GR, gR, kR, bR⟩ := ve.rounds
    obtain ⟨t0, d0, q0⟩ := law_0 (fL := fL) (A := A) (outer := outer) (s := s) (H0 := H) (E0' := E) ve hr
    obtain ⟨t1, d1, q1⟩ := law_1 (fL := fL) (A := A) (outer := outer) (s := s) (H0 := H) (E0' := E) ve hr
    obtain ⟨t2, d2, q2⟩ := law_2 (fL := fL) (A := A) (outer := outer) (s := s) (H0 := H) (E0' := E) ve hr
    obtain ⟨t3, d3, q3⟩ := law_3 (fL := fL) (A := A) (outer := outer) (s := s) (H0 := H) (E0' := E) ve hr
    obtain ⟨t4, d4, q4⟩ := law_4 (fL := fL) (A := A) (outer := outer) (s := s) (H0 := H) (E0' := E) ve hr
    obtain ⟨t5, d5, q5⟩ := law_5 (fL := fL) (A := A) (outer := outer) (s := s) (H0 := H) (E0' := E) ve hr
    obtain ⟨t6, d6, q6⟩ := law_6 (fL := fL) (A := A) (outer := outer) (s := s) (H0 := H) (E0' := E) ve hr
    obtain ⟨t7, d7, q7⟩ := law_7 (fL := fL) (A := A) (outer := outer) (s := s) (H0 := H) (E0' := E) ve hr
    obtain ⟨tb1, db1, qb1⟩ := law_b1 (fL := fL) (A := A) (outer := outer) (s := s) (H0 := H) (E0' := E) ve hr
    obtain ⟨tb2, db2, qb2⟩ := law_b2 (fL := fL) (A := A) (outer := outer) (s := s) (H0 := H) (E0' := E) ve hr
    obtain ⟨tr, dr, qr⟩ := law_ret (fL := fL) (A := A) (outer := outer) (s := s) (H0 := H) (E0' := E) ve hr
    have dBody : PSs (xLaw P w K mg base fL cL A outer s H E) law0 _ := pss_cons d0 (pss_cons d1 (pss_cons d2 (pss_cons d3 (pss_cons d4 (pss_cons d5 (pss_cons d6 (pss_one d7)))))))
    refine ⟨_, PSs.nox <| (pss_cons (ps_for PassesOwn.never rfl (pi_list (pe_call GR (hr.mono (by decide)) (by rfl) gR kR bR .nil pass0 (pa_cons (pv 0) (pa_cons pe_int pa_nil)))) (pg_name (i := 1) scLaw.nd rfl (Or.inl rfl)) dBody) (pss_cons db1 (pss_cons db2 (pss_one dr))) : PSs (xLaw P w K mg base fL cL A outer s H E) (defBody sLaw) _), ?_⟩
    refine ⟨_, rfl, rounds_step hS fun H1 p d e1 hp hd => ⟨p, rfl, ⟨_, SqL.of hp⟩, for_list (xs := [V.ref d]) (fun i σ H2 => Tabs (TT Pl) H2 ∧ H2 p = some (.lst [.ref d]) ∧ σ.length = 26 ∧ (i = 0 → σ = L2.start nLaw [.ref a] ∧ H2 = H1)) ⟨ht.ext e1, hp, rfl, fun _ => ⟨rfl, rfl⟩⟩ (fun i σ H2 _ h => SqL.of h.2.1) ?_ ?_⟩⟩
    · rintro i x σ H2 hx ⟨tt, hp2, _, hi⟩
      cases i with
      | succ i => cases hx
      | zero =>
        obtain ⟨rfl, rfl⟩ := hi rfl
        cases hx
        have B0 : Bs Pl d p H2 := ⟨hd, tt, hp2⟩
        refine q0 _ _ _ _ _ _ _ _ _ _ _ _ _ _ _ _ _ _ _ _ _ _ _ _ _ _ H2 d p B0 fun H3 na ns' B3 hna ok => ?_
        refine q1 _ _ _ _ _ _ _ _ _ _ _ _ _ _ _ _ _ _ _ _ _ _ _ _ _ _ H3 na ns' hna ok fun H4 m dm di td il e4 ndi n1 n2 hm htd hil => ?_
        refine q2 _ _ _ _ _ _ _ _ _ _ _ _ _ _ _ _ _ _ _ _ _ H4 d p m dm di na td il ns' (tk0 ns') ⟨B3.ex e4, hm, ndi, n1, n2, e4 _ _ hna, htd, hil, ok, tk0_names ns'⟩ fun H5 _ _ _ _ _ _ _ _ B5 => ?_
        refine q3 _ _ _ _ _ _ _ _ _ _ _ _ _ _ _ _ _ _ _ _ _ _ _ _ _ _ H5 d p B5 fun H6 st ln B6 s1 s6 l1 l12 => ?_
        refine q4 _ _ _ _ _ _ _ _ _ _ _ _ _ _ _ _ _ _ _ _ _ _ _ _ H6 d p st ln B6 s1 s6 l1 l12 fun H7 _ _ B7 => ?_
        refine q5 _ _ _ _ _ _ _ _ _ _ _ _ _ _ _ _ _ _ _ _ _ _ _ _ _ _ H7 d p B7 fun H8 g tm sp B8 g1 htm hsp ntd ntp => ?_
        refine q6 _ _ _ _ _ _ _ _ _ _ _ _ _ _ _ _ _ _ _ _ _ _ _ _ _ _ H8 g g1 fun H9 se e9 hse => ?_
        refine q7 _ _ _ _ _ _ _ _ _ _ _ _ _ _ _ _ _ _ _ _ _ _ H9 d p se tm sp g ⟨B8.ex e9, hse, e9 _ _ htm, e9 _ _ hsp, .nil, spans_nil⟩ g1 ntd ntp fun H10 σ' B10 hl => ?_
        exact ⟨B10.tabs, B10.hp, hl, fun z => nomatch z⟩
    · rintro σ H2 ⟨tt, hp2, hl, _⟩
      refine qb1 _ σ H2 tt fun H3 l fs t3 h3 hl3 hb3 => ?_
      refine qb2 _ _ H3 l fs ?_ t3 h3 hl3 hb3 fun H4 l4 fs4 t4 h4 hl4 hb4 => ?_
      · rw [List.getElem?_set_self]
        rw [hl]
        decide
      refine qr _ _ H4 l4 fs4 ?_ ?_ h4 hl4 hb4 fun H' => fin H'
      · rw [List.getElem?_set_self]
        rw [List.length_set, hl]
        decide
      · rw [List.length_set, List.length_set, hl]
end
end K8
set_option Elab.async false
set_option linter.all false
set_option maxRecDepth 100000
set_option maxHeartbeats 0
namespace K8
open PySem PySem.Spec PyProof.Rows L2
def dD (x : Str) (st : Stmt) : He.DefD := ⟨(x, none), x, x, defArgs st, defBody st, defScope st, [], []⟩
def dM (c m q : Str) (st : Stmt) : He.DefD := ⟨(c, some m), m, q, defArgs st, defBody st, defScope st, [], []⟩
def fnL : List He.DefD := [dD "_law_dice" sDice, dD "_law_roll" sRoll, dD "_law_rounds" sRounds, dD "_law_told" sTold, dD "_law_spans" sSpans, dD "law" sLaw,
  dM "Marks" "__init__" "Marks.__init__" (sMM 0), dM "Marks" "tell" "Marks.tell" (sMM 1), dM "Marks" "rest" "Marks.rest" (sMM 2), dM "Marks" "need" "Marks.need" (sMM 3), dM "Marks" "time_now" "Marks.time_now" (sMM 4),
  dM "Windows" "__init__" "Windows.__init__" (sWM 0), dM "Windows" "around" "Windows.around" (sWM 1), dM "Sessions" "__init__" "Sessions.__init__" (sSM 0), dM "Sessions" "joined" "Sessions.joined" (sSM 1)]
def faL : List He.Fa := [.glo "_law_dice", .glo "_law_roll", .glo "_law_rounds", .glo "_law_told", .glo "_law_spans", .glo "law", .glo "Marks", .glo "Windows", .glo "Sessions", .glo "JobError",
  .free "abs", .free "int", .free "range", .free "dict", .free "list", .free "tuple", .free "len", .free "sorted", .free "max", .free "min",
  .cls "Marks", .noat "Marks" "marks", .noat "Marks" "idle", .noat "Marks" "now", .mkr "Marks", .meth "Marks" "__init__", .meth "Marks" "tell", .meth "Marks" "rest", .meth "Marks" "need", .meth "Marks" "time_now",
  .cls "Windows", .noat "Windows" "length", .noat "Windows" "step", .mkr "Windows", .meth "Windows" "around",
  .cls "Sessions", .noat "Sessions" "gap", .mkr "Sessions", .meth "Sessions" "joined",
  .exc "JobError", .exm "JobError" "JobError" true]
def tL : He.Defn := ("law", none)
def tfL : List He.Defn := [tL]
def exL (K : PySem.W.Frag) : Bool := true
abbrev RL : PySem.W.OpenRow := PySem.W.OpenLaw.row PySem.Challenge.rw_streamstack_k08_times_and_windows
abbrev hkL : PySem.W.Hook := He.hookX 6 faL fnL [] tfL exL
def obL (s : PySem.W.SharedT) : He.AlX := He.obsX 6 faL fnL [] tfL exL (HandSHeadRun.getT s)
theorem obL_eq (s : PySem.W.SharedT) : obL s = hkL.obs s.abs := He.obsX_eq (HandSHeadRun.getT_eq s)
def looseL : List Str := ["StreamError", "JobError", "Marks", "Windows", "Sessions", "_law_dice", "_law_roll", "_law_rounds", "_law_told", "_law_spans"]
theorem runL (w : World) : HandSHeadRun.RunEq RL (PySem.W.view RL.prog [13]) hkL obL 3000 looseL w := by
  intro os
  kernel_rfl
end K8
set_option Elab.async false
set_option linter.all false
set_option maxRecDepth 100000
set_option maxHeartbeats 4000000
namespace K8
open PySem PySem.Spec PyProof.Rows L2 KB KC KD KS LamX Q1 R8 TL
theorem code_at {K : PySem.W.Frag} {x q : Str} {st : Stmt} {dvs : List V} {p : He.Defn} {fd : FuncData} (F : FnP K x q st dvs (He.fAd K p) fd) : fd.code = .ref (He.cT K p).1 := by
  obtain ⟨oc, od, dV, kV, doc, pm, an, cdv, ct, osl, rfl, lk, hcd, _, _⟩ := F.ex
  obtain ⟨c, e⟩ := He.codeIn_ref hcd
  subst e
  have z : He.codeOf K p = c := He.codeOf_eq lk rfl
  show Value.ref c = Value.ref (He.codeOf K p)
  rw [z]
def pickL (K : PySem.W.Frag) : List (Addr × Addr) := [He.cT K tL]
theorem lawAt {w : World} {mg : Str → Option Value} {fa : Addr} {h : Heap} {K : PySem.W.Frag} (X : K.In h) (G : h.Ns mainGlobals mg) (hmg : mg ("law" : Str) = some (.ref fa)) (c : He.SaysX faL fnL [] tfL exL w h K) :
    LawAtS PySem.Challenge.rw_streamstack_k08_times_and_windows w K CX0 12 63 "script" mg fa h := by
  have D := c.t.d
  obtain ⟨fdDi, FDi⟩ := D.def_ 0 (d := dD "_law_dice" sDice) rfl
  obtain ⟨fdRo, FRo⟩ := D.def_ 1 (d := dD "_law_roll" sRoll) rfl
  obtain ⟨fdRn, FRn⟩ := D.def_ 2 (d := dD "_law_rounds" sRounds) rfl
  obtain ⟨fdTo, FTo⟩ := D.def_ 3 (d := dD "_law_told" sTold) rfl
  obtain ⟨fdSp, FSp⟩ := D.def_ 4 (d := dD "_law_spans" sSpans) rfl
  obtain ⟨fdLa, FLa⟩ := D.def_ 5 (d := dD "law" sLaw) rfl
  obtain ⟨fdMi, FMi⟩ := D.def_ 6 (d := dM "Marks" "__init__" "Marks.__init__" (sMM 0)) rfl
  obtain ⟨fdMt, FMt⟩ := D.def_ 7 (d := dM "Marks" "tell" "Marks.tell" (sMM 1)) rfl
  obtain ⟨fdMr, FMr⟩ := D.def_ 8 (d := dM "Marks" "rest" "Marks.rest" (sMM 2)) rfl
  obtain ⟨fdMn, FMn⟩ := D.def_ 9 (d := dM "Marks" "need" "Marks.need" (sMM 3)) rfl
  obtain ⟨fdMw, FMw⟩ := D.def_ 10 (d := dM "Marks" "time_now" "Marks.time_now" (sMM 4)) rfl
  obtain ⟨fdWi, FWi⟩ := D.def_ 11 (d := dM "Windows" "__init__" "Windows.__init__" (sWM 0)) rfl
  obtain ⟨fdWa, FWa⟩ := D.def_ 12 (d := dM "Windows" "around" "Windows.around" (sWM 1)) rfl
  obtain ⟨fdSi, FSi⟩ := D.def_ 13 (d := dM "Sessions" "__init__" "Sessions.__init__" (sSM 0)) rfl
  obtain ⟨fdSj, FSj⟩ := D.def_ 14 (d := dM "Sessions" "joined" "Sessions.joined" (sSM 1)) rfl
  have gl : ∀ (i : Nat) (x : Str), faL[i]? = some (.glo x) → mg x = some (.ref (He.ga K x)) := fun i x h => He.glo_ok X G (D.fact i h)
  have fr : ∀ (i : Nat) (x : Str), faL[i]? = some (.free x) → mg x = none := fun i x h => He.free_ok X G (D.fact i h)
  have me : ∀ (i : Nat) (C m : Str), faL[i]? = some (.meth C m) → Meth K (He.ga K C) m (He.ma K (He.ga K C) m) := fun i C m h => He.meth_ok (D.fact i h)
  have na : ∀ (i : Nat) (C m : Str), faL[i]? = some (.noat C m) → NoAttr K (He.ga K C) m := fun i C m h => He.noat_ok (D.fact i h)
  have T : TxtL mg := ⟨fr 10 _ rfl, fr 11 _ rfl, fr 12 _ rfl, fr 13 _ rfl, fr 14 _ rfl, fr 15 _ rfl, fr 16 _ rfl, fr 17 _ rfl, fr 18 _ rfl, fr 19 _ rfl⟩
  have BM : TxtK K mg (He.ga K "Marks") := ⟨He.cls_ok (D.fact 20 (f := .cls "Marks") rfl), na 21 _ _ rfl, na 22 _ _ rfl, na 23 _ _ rfl, gl 6 _ rfl⟩
  have BW : TxtW K mg (He.ga K "Windows") := ⟨He.cls_ok (D.fact 30 (f := .cls "Windows") rfl), na 31 _ _ rfl, na 32 _ _ rfl, gl 7 _ rfl⟩
  have BS : TxtS K mg (He.ga K "Sessions") := ⟨He.cls_ok (D.fact 35 (f := .cls "Sessions") rfl), na 36 _ _ rfl, gl 8 _ rfl⟩
  obtain ⟨x1, x2, x3, x4⟩ := He.exc_ok (D.fact 39 (f := .exc "JobError") rfl)
  have J : TxtJ K mg (He.ga K "JobError") := ⟨gl 9 _ rfl, x1, x2, x3, x4, He.exm_ok (D.fact 40 (f := .exm "JobError" "JobError" true) rfl)⟩
  have mN := me 28 "Marks" "need" rfl
  have mW := me 29 "Marks" "time_now" rfl
  have e := hmg.symm.trans (gl 5 _ rfl)
  cases e
  have memL : ∀ p ∈ pickL K, ∃ q ∈ tfL, p = He.cT K q := fun p hp => by
    rcases List.mem_cons.mp hp with rfl | hp
    · exact ⟨tL, List.mem_cons_self .., rfl⟩
    cases hp
  refine ⟨fdLa, pickL K, spLaw K (He.cT K tL).2, fun p hp => ?_, fun p hp => ?_, fun p hp => ?_, fun s u => ?_, fun H a ns hl hb hT hS => ?_, fun base KB GB TB => ?_⟩
  · obtain ⟨q, hq, rfl⟩ := memL p hp
    exact c.empty q hq
  · obtain ⟨q, hq, rfl⟩ := memL p hp
    exact c.out q hq
  · obtain ⟨q, hq, rfl⟩ := memL p hp
    exact PySem.W.codeHd_of_K X (c.hd q hq)
  · exact FLa.bindsA (ps := ["script"]) (fun _ _ _ _ _ _ us hl => match us, hl with | [_], _ => rfl) s [u] rfl
  · refine ⟨a, ns, rfl, hS, fun p hp => ?_, fun _ => rfl⟩
    rcases List.mem_cons.mp hp with rfl | hp
    · exact TabS.nil (hT (He.cT K tL) (List.mem_cons_self ..))
    cases hp
  · have tbL := TB (He.cT K tL) (List.mem_cons_self ..)
    have ve : LawE PySem.Challenge.rw_streamstack_k08_times_and_windows.prog w K mg base (He.ga K "Marks") (He.ga K "Windows") (He.ga K "Sessions") (He.ga K "JobError") (He.cT K tL).2 (He.cT K tL).1 (He.ga K "_law_told") fdTo :=
      { T := T, J := J, BM := BM, BW := BW, BS := BS, TBl := tbL
        rounds := ⟨_, _, ok_rounds FRn T FDi (gl 0 _ rfl), gl 2 _ rfl, FRn.kp, FRn.bindsN fun _ _ _ _ _ _ us hl => match us, hl with | [_, _], _ => rfl⟩
        roll := ⟨_, _, ok_roll FRo T, gl 1 _ rfl, FRo.kp, FRo.bindsN fun _ _ _ _ _ _ us hl => match us, hl with | [_, _], _ => rfl⟩
        spans := ⟨_, _, ok_lspans FSp T, gl 4 _ rfl, FSp.kp, FSp.bindsN fun _ _ _ _ _ _ us hl => match us, hl with | [_, _], _ => rfl⟩
        minit := ⟨_, _, ok_minit FMi BM, He.mkr_ok (D.fact 24 (f := .mkr "Marks") rfl), FMi.bindsN fun _ _ _ _ _ _ us hl => match us, hl with | [_, _], _ => rfl⟩
        tell := ⟨_, _, ok_tell FMt BM J T FMn mN FMw mW, me 26 _ _ rfl, FMt.bindsN fun _ _ _ _ _ _ us hl => match us, hl with | [_, _, _], _ => rfl⟩
        rest := ⟨_, _, ok_rest FMr BM J T FMn mN FMw mW, me 27 _ _ rfl, FMr.bindsN fun _ _ _ _ _ _ us hl => match us, hl with | [_, _], _ => rfl⟩
        now := ⟨_, _, ok_now FMw BM T, mW, FMw.bindsN fun _ _ _ _ _ _ us hl => match us, hl with | [_], _ => rfl⟩
        winit := ⟨_, _, ok_winit FWi BW J, He.mkr_ok (D.fact 33 (f := .mkr "Windows") rfl), FWi.bindsN fun _ _ _ _ _ _ us hl => match us, hl with | [_, _, _], _ => rfl⟩
        around := ⟨_, _, ok_around FWa BW T, me 34 _ _ rfl, FWa.bindsN fun _ _ _ _ _ _ us hl => match us, hl with | [_, _], _ => rfl⟩
        sinit := ⟨_, _, ok_sinit FSi BS J, He.mkr_ok (D.fact 37 (f := .mkr "Sessions") rfl), FSi.bindsN fun _ _ _ _ _ _ us hl => match us, hl with | [_, _], _ => rfl⟩
        joined := ⟨_, _, ok_joined FSj BS T, me 38 _ _ rfl, FSj.bindsN fun _ _ _ _ _ _ us hl => match us, hl with | [_, _, _], _ => rfl⟩
        told := FTo
        gTold := gl 3 _ rfl }
    exact ok_law FLa (code_at (p := tL) (st := sLaw) (dvs := []) FLa) ve
end K8
open PySem PySem.W PySem.Calls PyProof.Rows
theorem PySem.Challenge.cw_streamstack_k08_times_and_windows_holds : PySem.Challenge.rw_streamstack_k08_times_and_windows.Holds := by
  w_on; o_law
  refine HandSHeadRun.head_any (r := OpenLaw.row PySem.Challenge.rw_streamstack_k08_times_and_windows) (q := view (OpenLaw.row PySem.Challenge.rw_streamstack_k08_times_and_windows).prog [13]) (H := K8.hkL) (ob := K8.obL) (M := 3000) (loose := K8.looseL) (d := HandSHeadRun.topDef (OpenLaw.row PySem.Challenge.rw_streamstack_k08_times_and_windows).prog 13) (kwd := []) K8.obL_eq
    (by kernel_rfl) (fun s => by kernel_rfl) K8.runL (by kernel_rfl) (by kernel_rfl) (by kernel_rfl) (by rfl) (by first | assumption | decide +kernel) (by decide +kernel) ⟨rfl, rfl, rfl, rfl, rfl, by decide +kernel⟩ ?hw ?hc
  case hw => w_witness2
  case hc =>
    refine LamX.walk_ofTsE (l := PySem.Challenge.rw_streamstack_k08_times_and_windows) (n := 63) (k := 12) (x := "script") (CX := fun _ => L2.CX0) rfl (by decide) (by kernel_rfl) ⟨rfl, by decide, by decide⟩ ?F (fun _ _ _ _ _ z => z)
    intro w mg fa h Y G hmg0
    obtain ⟨K, KX, c⟩ := Y
    have hmg : mg ("law" : PySem.Str) = some (.ref fa) := by
      have e : (HandSHeadRun.topDef (OpenLaw.row PySem.Challenge.rw_streamstack_k08_times_and_windows).prog 13).name = ("law" : PySem.Str) := by kernel_rfl
      rw [← e]
      exact hmg0
    exact ⟨K, KX, K8.lawAt KX G hmg c⟩
