import PyProof.Rows.All
import Wide.All
import OpenK.AllK
import Wide.FinOn
import HandS.TupSets
import HandS.Base
import HandS.Call
import HandS.List
import HandS.Comp
import HandS.Ends
import HandS.Dict
import HandS.Iter
import HandS.Text
import HandS.Words
import HandS.WordsList
import HandS.WordsDict
import HandS.WordsExc
import HandS.Style
import HandS.Deep
import HandS.TupAny
import HandS.TupLe
import HandS.SetKeys
import HandS.Star
import HandS.DictComp
import HandS.Walk
import HandS.RaiseMore
import HandS.Evl
import HandS.Exc
import HandS.CallSlots
import PyProof.ReprRoads
import PyProof.TupleOfSeq
import KE.SortData
import HandS.ExcValue
import HandS.IsInst
import HandS.ClsMeth
import HandS.Property
import HandS.DictTup
import HandS.DictEq
import HandS.ExcSuper
import HandS.ExcField
import HandS.ExcInit
import HandS.Conv
import PyProof.ReprLen
import PyProof.StrLawsRepr
import PySem.Challenge.RW_logfolds_k04_nets_and_folds
import OpenK.XHead
set_option Elab.async false
set_option linter.all false
set_option maxRecDepth 100000
set_option maxHeartbeats 1000000
/-! sets whose members are tuples of ints and texts -/
namespace Lg
open PySem PySem.Spec PyProof.Rows L2
/-! ### what a probe answers, from the c-th step of a way on -/
abbrev way0 (m : Nat) (h : Int) (c : Nat) : SetTable.Probe := nth m (runAt m (SetTable.bits h % (m + 1)) (SetTable.bits h)) c
theorem way0_dummy (m : Nat) (h : Int) : ∀ c, (way0 m h c).dummy = none
  | 0 => rfl
  | c + 1 => by
    show (nth m _ (c + 1)).dummy = none
    rw [nth_succ]
    have := way0_dummy m h c
    unfold adv
    split
    · exact this
    · exact this
theorem way0_add (m : Nat) (h : Int) (c q : Nat) : nth m (way0 m h c) q = way0 m h (c + q) := (nth_add m c _ q).symm
/-- the place of the entry i is on the way, at the step d -/
def OnWay (t : SetTable) (h : Int) (i d : Nat) : Prop := t.place.toList[i]? = some (way t.mask h d)
theorem probe_at {t : SetTable} {hs : List Int} (T : TabOk t hs) (f : Nat → Int) {h : Int} {K c : Nat} (hKf : K < 10 * SetTable.turns t.mask) (hK : way t.mask h K ∉ t.place.toList) (hb : ∀ k, k < K → way t.mask h k ∈ t.place.toList) (hc : c ≤ K) :
    (∃ d i, c ≤ d ∧ d < K ∧ OnWay t h i d ∧ f i = h ∧ (∀ e j, c ≤ e → e < d → OnWay t h j e → f j ≠ h) ∧ t.probe f h (way0 t.mask h c) = some (.candidate (way t.mask h d) i (way0 t.mask h (d + 1)))) ∨
    ((∀ e j, c ≤ e → e < K → OnWay t h j e → f j ≠ h) ∧ t.probe f h (way0 t.mask h c) = some (.empty (way t.mask h K) none)) := by
  have pl : ∀ q, (nth t.mask (way0 t.mask h c) q).j = way t.mask h (c + q) := fun q => congrArg SetTable.Probe.j (way0_add _ _ _ _)
  have eK : c + (K - c) = K := by omega
  rcases go_spec t T.ris T.dm f h (10 * SetTable.turns t.mask) (K - c) _ (way0_dummy t.mask h c) (by omega) (fun q hq => by rw [pl]; exact hb _ (by omega)) (by rw [pl, eK]; exact hK) with ⟨q, i, a1, a2, a3, a4, a5⟩ | ⟨a1, a2⟩
  · refine .inl ⟨c + q, i, by omega, by omega, by rw [pl] at a2; exact a2, a3, fun e j e1 e2 e3 => a4 (e - c) j (by omega) (by rw [pl, show c + (e - c) = e by omega]; exact e3), ?_⟩
    have e6 := a5
    rw [pl, way0_add] at e6
    exact e6
  · refine .inr ⟨fun e j e1 e2 e3 => a1 (e - c) j (by omega) (by rw [pl, show c + (e - c) = e by omega]; exact e3), ?_⟩
    have e6 := a2
    rw [pl, eK] at e6
    exact e6
section
variable {P : Program} {w : World} {A : Around} {E : Value → Shared → Prop} {s : Shared}
abbrev IsK (P : Program) (w : World) (h : Heap) (k : List Key) (a : Addr) : Prop := IsTupleKey (mixKind P w) h k a
abbrev kh (P : Program) (w : World) (k : List Key) : Int := tupleKeyHash (mixKind P w) k
theorem items_shape {P : Program} {w : World} {k : List Key} {vs : List Value} (h : ItemsAre (mixKind P w) k vs) : ∀ v ∈ vs, (∃ i t, v = Value.int i t) ∨ ∃ x t, v = Value.str x t := by
  induction h with
  | nil => intro v hv; cases hv
  | cons h1 _ ih =>
    intro v hv
    rcases List.mem_cons.mp hv with e | hv
    · subst e
      rcases keyIs_shape h1 with ⟨i, t, _, z⟩ | ⟨x, t, _, z⟩
      · exact .inl ⟨i, t, z⟩
      · exact .inr ⟨x, t, z⟩
    · exact ih v hv
/-- none of its items is of a class statement -/
theorem plain_K {k : List Key} {b : Addr} {Q : Bool → Shared → Prop} (hk : IsK P w s.heap k b) (h : Q false s) : wpAny (model P w) A (ofAClassStatement 8 (.ref b)) Q E s := by
  have hT := hk.typeIs
  obtain ⟨o, items, n, ho, _, hd, hi⟩ := hk
  have sh := items_shape hi
  have flat : ∀ (m : Nat) (v : Value), v ∈ items.toList → ofAClassStatement m v = pure false := fun m v hv => by
    rcases sh v hv with ⟨i, t, rfl⟩ | ⟨x, t, rfl⟩ <;> (cases m <;> rfl)
  unfold ofAClassStatement
  refine wpAny_bind (wpAny_typeOf hT ?_)
  dsimp only
  rw [if_pos (show (("tuple" : String) == "tuple") = true by decide)]
  refine wpAny_bind (wpAny_pure ?_)
  rw [if_neg (by decide)]
  try refine wpAny_bind (wpAny_pure ?_)
  show wpAny _ _ (seqItems? (.ref b) >>= _) _ _ s
  refine wpAny_bind (wpAny_seqItems ho hd ?_)
  dsimp only
  refine wpAny_bind ?_
  rw [← Array.forIn_toList]
  refine wpAny_forIn_list _ (fun rest r s' => r.1 = none ∧ s' = s ∧ ∀ v ∈ rest, v ∈ items.toList) _ ?_ ?_ _ _ ⟨rfl, rfl, fun _ z => z⟩
  · rintro v rest r s' ⟨hr, rfl, hall⟩
    rw [flat _ v (hall v List.mem_cons_self)]
    refine wpAny_bind (wpAny_pure ?_)
    rw [if_neg (by decide)]
    exact wpAny_pure ⟨rfl, rfl, fun u hu => hall u (List.mem_cons_of_mem _ hu)⟩
  · rintro ⟨r1, r2⟩ s' ⟨hr, rfl, _⟩
    simp only at hr
    subst hr
    exact wpAny_pure h
/-- whatever hashByValue says of it -/
theorem byV_K {k : List Key} {b : Addr} {Q : Bool → Shared → Prop} (hk : IsK P w s.heap k b) (h : ∀ r, Q r s) : wpAny (model P w) A (hashByValue 8 (.ref b)) Q E s := by
  have hT := hk.typeIs
  obtain ⟨o, items, n, ho, _, hd, hi⟩ := hk
  have sh := items_shape hi
  have flat : ∀ (m : Nat) (v : Value), v ∈ items.toList → ∃ r, hashByValue m v = pure r := fun m v hv => by
    rcases sh v hv with ⟨i, t, rfl⟩ | ⟨x, t, rfl⟩
    · exact ⟨true, by cases m <;> rfl⟩
    · exact ⟨false, by cases m <;> rfl⟩
  unfold hashByValue
  refine wpAny_bind (wpAny_specialOf hT F.slot_tuple_hash.lookup ?_)
  show wpAny _ _ (seqItems? (.ref b) >>= _) _ _ s
  refine wpAny_bind (wpAny_seqItems ho hd ?_)
  refine wpAny_bind ?_
  show wpAny _ _ (forIn items _ _) _ _ s
  rw [← Array.forIn_toList]
  refine wpAny_forIn_list _ (fun rest r s' => s' = s ∧ (r.1 = none ∨ ∃ b, r.1 = some b) ∧ ∀ v ∈ rest, v ∈ items.toList) _ ?_ ?_ _ _ ⟨rfl, .inl rfl, fun _ z => z⟩
  · rintro v rest r s' ⟨rfl, _, hall⟩
    obtain ⟨q, e⟩ := flat 7 v (hall v List.mem_cons_self)
    rw [e]
    refine wpAny_bind (wpAny_pure ?_)
    cases q with
    | true =>
      rw [if_neg (by decide)]
      exact wpAny_pure ⟨rfl, .inl rfl, fun u hu => hall u (List.mem_cons_of_mem _ hu)⟩
    | false =>
      rw [if_pos (by decide)]
      exact wpAny_pure (wpAny_pure (h _))
  · rintro ⟨r1, r2⟩ s' ⟨rfl, hr, _⟩
    rcases hr with hr | ⟨b, hr⟩
    · simp only at hr
      subst hr
      exact wpAny_pure (h _)
    · simp only at hr
      subst hr
      exact wpAny_pure (h _)
theorem unseen_K {k : List Key} {b : Addr} {Q : Bool → Shared → Prop} (hk : IsK P w s.heap k b) {ys : List Value} (hy : ∀ y ∈ ys, ∃ k' c, y = Value.ref c ∧ IsK P w s.heap k' c) (h : Q false s) : wpAny (model P w) A (searchCouldBeSeen (.ref b) ys) Q E s := by
  unfold searchCouldBeSeen
  refine wpAny_bind ?_
  refine wpAny_forIn_list _ (fun rest r s' => r.1 = none ∧ s' = s ∧ ∀ y ∈ rest, y ∈ ys) _ ?_ ?_ _ _ ⟨rfl, rfl, fun _ z => z⟩
  · rintro v rest r s' ⟨hr, rfl, hall⟩
    obtain ⟨k', c, rfl, hc⟩ := hy v (hall v List.mem_cons_self)
    have next : ∀ y ∈ rest, y ∈ ys := fun u hu => hall u (List.mem_cons_of_mem _ hu)
    dsimp only
    cases q : (b == c || (carriedByValue (.ref b) && carriedByValue (.ref c))) with
    | true =>
      refine wp_if_pos rfl ?_
      exact wpAny_pure ⟨rfl, rfl, next⟩
    | false =>
      refine wp_if_neg Bool.false_ne_true ?_
      refine wpAny_bind (wpAny_eqIsQuiet_tuple hk ?_)
      refine wp_if_neg (by decide) ?_
      try refine wpAny_bind (wpAny_pure ?_)
      refine wpAny_bind (wpAny_eqIsQuiet_tuple hc ?_)
      refine wp_if_neg (by decide) ?_
      try refine wpAny_bind (wpAny_pure ?_)
      refine wpAny_bind (plain_K hk ?_)
      refine wp_if_neg (by decide) ?_
      try refine wpAny_bind (wpAny_pure ?_)
      refine wpAny_bind (plain_K hc ?_)
      refine wp_if_neg (by decide) ?_
      exact wpAny_pure ⟨rfl, rfl, next⟩
  · rintro ⟨r1, r2⟩ s' ⟨hr, rfl, _⟩
    simp only at hr
    subst hr
    exact wpAny_pure h
end
/-! ### the set -/
def rowK (P : Program) (w : World) (p : Addr × List Key) : Int × Value := (kh P w p.2, .ref p.1)
structure SetG (P : Program) (w : World) (h : Heap) (a : Addr) (L : List (Addr × List Key)) (es : Array (Int × Value)) (ep : Nat) (t : SetTable) : Prop where
  ob : ∃ o, h.get? a = some o ∧ o.ExactSet ∧ o.data = .set es ep t
  rows : es.toList = L.map (rowK P w)
  tab : TabOk t (es.toList.map (·.1))
  nd : (L.map (·.2)).Nodup
  room : L.length * 5 < t.mask * 3
  few : L.length < 64
section
variable {P : Program} {w : World} {A : Around} {E : Value → Shared → Prop} {s : Shared} {a : Addr} {L : List (Addr × List Key)} {es : Array (Int × Value)} {ep : Nat} {t : SetTable}
theorem SetG.size (R : SetG P w s.heap a L es ep t) : es.size = L.length := by
  have h := congrArg List.length R.rows
  simpa using h
theorem SetG.psize (R : SetG P w s.heap a L es ep t) : t.place.size = L.length := by
  have := R.tab.sz
  rw [List.length_map, Array.length_toList, R.size] at this
  exact this
theorem SetG.fits (R : SetG P w s.heap a L es ep t) : t.fits es.size = true := by
  have h1 := R.psize
  have h2 := R.size
  have h3 := R.room
  unfold SetTable.fits SetTable.fill
  rw [R.tab.dm, Bool.and_eq_true, beq_iff_eq, decide_eq_true_eq]
  show t.place.size = es.size ∧ t.place.size + 0 ≤ t.mask
  omega
theorem SetG.lives (R : SetG P w s.heap a L es ep t) : ¬ t.gaveWay = true := by
  unfold SetTable.gaveWay
  rw [mask_odd R.tab.mok]
  decide
theorem SetG.get (R : SetG P w s.heap a L es ep t) {i : Nat} {p : Addr × List Key} (h : L[i]? = some p) : es[i]? = some (rowK P w p) := by
  rw [← Array.getElem?_toList, R.rows, List.getElem?_map, h]
  rfl
/-- the hash that the table sees at i -/
abbrev hAt (es : Array (Int × Value)) (i : Nat) : Int := (es[i]?.map (·.1)).getD 0
theorem SetG.hash (R : SetG P w s.heap a L es ep t) {i : Nat} {p : Addr × List Key} (h : L[i]? = some p) : hAt es i = kh P w p.2 := by
  unfold hAt
  rw [R.get h]
  rfl
/-- who stands on the way, is a member -/
theorem SetG.on (R : SetG P w s.heap a L es ep t) {h : Int} {i d : Nat} (o : OnWay t h i d) : ∃ p, L[i]? = some p := by
  have h1 := (List.getElem?_eq_some_iff.mp o).1
  rw [Array.length_toList, R.psize] at h1
  exact ⟨L[i], List.getElem?_eq_getElem h1⟩
/-- a member with this key is on the way of the key, before the way's first empty place -/
theorem SetG.before (R : SetG P w s.heap a L es ep t) {i K : Nat} {p : Addr × List Key} (h : L[i]? = some p) (hK : way t.mask (kh P w p.2) K ∉ t.place.toList) : ∃ d, d < K ∧ OnWay t (kh P w p.2) i d := by
  have hi : (es.toList.map (·.1))[i]? = some (kh P w p.2) := by
    rw [List.getElem?_map, R.rows, List.getElem?_map, h]
    rfl
  have hl : i < t.place.toList.length := by
    rw [Array.length_toList, R.psize]
    exact (List.getElem?_eq_some_iff.mp h).1
  obtain ⟨d, h1, h2⟩ := R.tab.before hK hi (List.getElem?_eq_getElem hl)
  exact ⟨d, h1, by show t.place.toList[i]? = _; rw [List.getElem?_eq_getElem hl, h2]⟩
/-- the search: from the step c of the way on, K being the way's first empty place -/
theorem search_K (R : SetG P w s.heap a L es ep t) (TupM : ∀ p ∈ L, IsK P w s.heap p.2 p.1) {x : Addr} {k : List Key} (hx : IsK P w s.heap k x) (hu : A.units < cLine) (adding : Bool) {K : Nat} (hKf : K < 10 * SetTable.turns t.mask)
    (hK : way t.mask (kh P w k) K ∉ t.place.toList) (hb : ∀ c, c < K → way t.mask (kh P w k) c ∈ t.place.toList) {Q : SetFound → Shared → Prop}
    (yes : k ∈ L.map (·.2) → ∀ r, (adding = false → r.isSome = true) → Q (.there r) s) (no : k ∉ L.map (·.2) → Q (.free (way t.mask (kh P w k) K) false) s) :
    ∀ (n c : Nat) (stand : Option SetTable.Probe), stand.getD (t.probeStart (kh P w k)) = way0 t.mask (kh P w k) c → c ≤ K → K < c + n →
      (∀ i p, L[i]? = some p → p.2 = k → ∃ d, c ≤ d ∧ d < K ∧ OnWay t (kh P w k) i d) → wpAny (model P w) A (setSearchFrom a (.ref x) (kh P w k) adding n stand) Q E s := by
  obtain ⟨o, ho, _, hd⟩ := R.ob
  intro n
  induction n with
  | zero => intro c stand _ h1 h2; omega
  | succ n ih =>
    intro c stand hst hc hn hme
    rw [setSearchFrom_succ]
    refine wpAny_bind (wpAny_setState_of ho hd R.fits ?_)
    dsimp only
    refine wp_if_neg R.lives ?_
    try refine wpAny_bind (wpAny_pure ?_)
    rw [hst]
    rcases probe_at R.tab (hAt es) hKf hK hb hc with ⟨d, i, a1, a2, a3, a4, a5, a6⟩ | ⟨a5, a6⟩
    · -- one with the same hash
      rw [show t.probe (fun i => (es[i]?.map (·.1)).getD 0) (kh P w k) (way0 t.mask (kh P w k) c) = _ from a6]
      dsimp only
      obtain ⟨p, hp⟩ := R.on a3
      have hpm : p ∈ L := List.mem_of_getElem? hp
      have past : ¬ p.2 = k → ∀ i p, L[i]? = some p → p.2 = k → ∃ d', d + 1 ≤ d' ∧ d' < K ∧ OnWay t (kh P w k) i d' := fun ne j q hq hqk => by
        obtain ⟨d', b1, b2, b3⟩ := hme j q hq hqk
        refine ⟨d', ?_, b2, b3⟩
        rcases Nat.lt_or_ge d' d with z | z
        · exact absurd ((R.hash hq).trans (congrArg (kh P w) hqk)) (a5 d' j b1 z b3)
        · rcases Nat.lt_or_ge d d' with y | y
          · exact y
          · exfalso
            have ed : d' = d := Nat.le_antisymm y z
            subst ed
            have s1 := slot_live R.tab.ris a3
            have s2 := slot_live R.tab.ris b3
            rw [s1] at s2
            injection s2 with s2
            subst s2
            rw [hp] at hq
            cases hq
            exact ne hqk
      have core : wpAny (model P w) A (searchRest a (.ref x) (kh P w k) adding n es t (way t.mask (kh P w k) d) i (way0 t.mask (kh P w k) (d + 1))) Q E s := by
        unfold searchRest
        rw [R.get hp]
        dsimp only [rowK]
        refine wpAny_bind (wpAny_holding (wpAny_eqBool_tuple hu (TupM p hpm) hx ?_))
        refine wpAny_bind (wpAny_setState_of ho hd R.fits ?_)
        dsimp only
        by_cases hpk : p.2 = k
        · have mem : k ∈ L.map (·.2) := List.mem_map.mpr ⟨p, hpm, hpk⟩
          rw [decide_eq_true hpk]
          cases adding with
          | true =>
            refine wp_if_pos rfl ?_
            exact wpAny_pure (yes mem none fun z => nomatch z)
          | false =>
            refine wp_if_neg Bool.false_ne_true ?_
            try refine wpAny_bind (wpAny_pure ?_)
            rw [sameMem]
            dsimp only
            simp only [if_true, slot_live R.tab.ris a3, R.get hp, rowK]
            refine wpAny_bind (wpAny_isSame_ref_self (wpAny_bind (wpAny_pure ?_)))
            simp only [if_true]
            exact wpAny_pure (yes mem (some i) fun _ => rfl)
        · rw [decide_eq_false hpk]
          refine wp_if_neg (by simp) ?_
          try refine wpAny_bind (wpAny_pure ?_)
          rw [sameMem]
          dsimp only
          simp only [if_true, slot_live R.tab.ris a3, R.get hp, rowK]
          refine wpAny_bind (wpAny_isSame_ref_self (wpAny_bind (wpAny_pure ?_)))
          simp only [if_true]
          refine wp_if_neg (by decide) ?_
          exact ih (d + 1) _ rfl (by omega) (by omega) (past hpk)
      cases q : t.led with
      | true =>
        refine wp_if_neg (by simp) ?_
        try refine wpAny_bind (wpAny_pure ?_)
        exact core
      | false =>
        refine wp_if_pos rfl ?_
        refine wpAny_bind (unseen_K hx (fun y hy => ?_) ?_)
        · obtain ⟨e, he, rfl⟩ := List.mem_map.mp hy
          have he : e ∈ es.toList := by
            have := Array.mem_toList_iff.mp he
            have := (Array.mem_filter.mp this).1
            exact Array.mem_toList_iff.mpr this
          rw [R.rows] at he
          obtain ⟨p2, hp2, rfl⟩ := List.mem_map.mp he
          exact ⟨p2.2, p2.1, rfl, TupM p2 hp2⟩
        · refine wp_if_neg (by decide) ?_
          try refine wpAny_bind (wpAny_pure ?_)
          exact core
    · rw [show t.probe (fun i => (es[i]?.map (·.1)).getD 0) (kh P w k) (way0 t.mask (kh P w k) c) = _ from a6]
      dsimp only
      refine wpAny_pure (no fun mem => ?_)
      obtain ⟨p, hpm, hpk⟩ := List.mem_map.mp mem
      obtain ⟨i, hi, e⟩ := List.getElem_of_mem hpm
      have hp : L[i]? = some p := by rw [List.getElem?_eq_getElem hi, e]
      obtain ⟨d, b1, b2, b3⟩ := hme i p hp hpk
      exact a5 d i b1 b2 b3 ((R.hash hp).trans (congrArg (kh P w) hpk))
end
end Lg
set_option Elab.async false
set_option linter.all false
set_option maxRecDepth 100000
set_option maxHeartbeats 1000000
/-! such a set: asked, added to -/
namespace Lg
open PySem PySem.Spec PyProof.Rows L2
section
variable {P : Program} {w : World} {A : Around} {E : Value → Shared → Prop} {s : Shared} {a : Addr} {L : List (Addr × List Key)} {es : Array (Int × Value)} {ep : Nat} {t : SetTable}
abbrev TupsIn (P : Program) (w : World) (h : Heap) (L : List (Addr × List Key)) : Prop := ∀ p ∈ L, IsK P w h p.2 p.1
theorem setSearch_K (R : SetG P w s.heap a L es ep t) (TM : TupsIn P w s.heap L) {x : Addr} {k : List Key} (hx : IsK P w s.heap k x) (hu : A.units < cLine) (adding : Bool) {Q : SetFound → Shared → Prop}
    (yes : k ∈ L.map (·.2) → ∀ r, (adding = false → r.isSome = true) → Q (.there r) s)
    (no : ∀ K, k ∉ L.map (·.2) → way t.mask (kh P w k) K ∉ t.place.toList → (∀ c, c < K → way t.mask (kh P w k) c ∈ t.place.toList) → Q (.free (way t.mask (kh P w k) K) false) s) :
    wpAny (model P w) A (setSearch a (.ref x) (kh P w k) adding) Q E s := by
  have hroom := R.room
  obtain ⟨K, h1, h2, h3⟩ := R.tab.first (by rw [List.length_map, Array.length_toList, R.size]; omega) (kh P w k)
  have big : K < 0 + 100000 := by
    have : 10 * SetTable.turns t.mask ≤ 99999 := by
      unfold SetTable.turns
      rcases R.tab.mok with e | e | e <;> omega
    omega
  unfold setSearch
  refine search_K R TM hx hu adding h1 h2 h3 yes (fun z => no K z h2 h3) 100000 0 none rfl (Nat.zero_le _) big fun i p hp hk => ?_
  subst hk
  obtain ⟨d, h4, h5⟩ := R.before hp h2
  exact ⟨d, Nat.zero_le _, h4, h5⟩
theorem byScan_ref {x : Addr} : byScan (.ref x) es = false := by simp [byScan, Value.scannable]
/-- is it a member? -/
def hasK (L : List (Addr × List Key)) (k : List Key) : Bool := L.any fun p => decide (p.2 = k)
theorem hasK_iff {k : List Key} : hasK L k = true ↔ k ∈ L.map (·.2) := by
  unfold hasK
  rw [List.any_eq_true, List.mem_map]
  exact ⟨fun ⟨p, h1, h2⟩ => ⟨p, h1, of_decide_eq_true h2⟩, fun ⟨p, h1, h2⟩ => ⟨p, h1, decide_eq_true h2⟩⟩
theorem setFind_K (R : SetG P w s.heap a L es ep t) (TM : TupsIn P w s.heap L) {x : Addr} {k : List Key} (hx : IsK P w s.heap k x) (hu : A.units < cLine) {Q : Option Nat → Shared → Prop}
    (h : ∀ r, r.isSome = hasK L k → Q r s) : wpAny (model P w) A (setFind a (.ref x) (kh P w k)) Q E s := by
  obtain ⟨o, ho, _, hd⟩ := R.ob
  unfold setFind setFindIn
  refine wpAny_bind (wpAny_setState_of ho hd R.fits ?_)
  dsimp only
  rw [byScan_ref]
  refine wp_if_neg Bool.false_ne_true ?_
  try refine wpAny_bind (wpAny_pure ?_)
  refine wpAny_bind (setSearch_K R TM hx hu false (fun m r hr => ?_) fun K m _ _ => ?_)
  · exact wpAny_pure (h r (by rw [hr rfl, hasK_iff.mpr m]))
  · exact wpAny_pure (h none (by cases q : hasK L k with | true => exact absurd (hasK_iff.mp q) m | false => rfl))
/-- a tuple that stands apart from the set stays -/
theorem IsK.other {h h' : Heap} {k : List Key} {a b : Addr} {o : Obj} {es : Array (Int × Value)} {ep : Nat} {t : SetTable} (x : IsK P w h k b) (ho : h.get? a = some o) (hd : o.data = .set es ep t) (hs : Heap.SameBut a h h') : IsK P w h' k b := by
  obtain ⟨o', items, n, e1, e2, e3, e4⟩ := x
  have ne : b ≠ a := fun z => by
    subst z
    rw [ho] at e1
    cases e1
    rw [hd] at e3
    cases e3
  exact ⟨o', items, n, (hs.2 b ne).trans e1, e2, e3, e4⟩
/-- what a change of the set leaves -/
structure SetNew (P : Program) (w : World) (h h' : Heap) (a : Addr) (L' : List (Addr × List Key)) : Prop where
  same : Heap.SameBut a h h'
  ex : ∃ es ep t, SetG P w h' a L' es ep t
theorem picks {α : Type} {L : List α} : ∀ {l : List Nat}, (∀ i ∈ l, i < L.length) → ∃ L2 : List α, l.filterMap (fun i => L[i]?) = L2 ∧ L2.length = l.length ∧ ∀ (β : Type) (f : α → β) (d : β), l.map (fun i => (L.map f).getD i d) = L2.map f
  | [], _ => ⟨[], rfl, rfl, fun _ _ _ => rfl⟩
  | i :: l, hl => by
    have hi := hl i List.mem_cons_self
    obtain ⟨L2, e1, e2, e3⟩ := picks (l := l) fun j hj => hl j (List.mem_cons_of_mem _ hj)
    refine ⟨L[i] :: L2, ?_, by simp [e2], fun β f d => ?_⟩
    · rw [List.filterMap_cons_some (List.getElem?_eq_getElem hi), e1]
    · rw [List.map_cons, List.map_cons, e3 β f d]
      congr 1
      simp [List.getD_eq_getElem?_getD, List.getElem?_map, List.getElem?_eq_getElem hi]
theorem picks_perm {α : Type} {L L2 : List α} {l : List Nat} (p : l.Perm (List.range L.length)) (e : l.filterMap (fun i => L[i]?) = L2) : L2.Perm L := by
  have h1 : ((List.range L.length).filterMap fun i => L[i]?) = L := by
    have : ∀ n, n ≤ L.length → (List.range n).filterMap (fun i => L[i]?) = L.take n := by
      intro n
      induction n with
      | zero => intro _; simp
      | succ n ih =>
        intro hn
        rw [List.range_succ, List.filterMap_append, ih (by omega), List.filterMap_cons_some (List.getElem?_eq_getElem hn), List.take_succ, List.getElem?_eq_getElem hn]
        rfl
    rw [this _ (Nat.le_refl _), List.take_length]
  rw [← e]
  exact (p.filterMap _).trans (by rw [h1])
theorem filterMap_map' {α β : Type} (f : α → β) (L : List α) : ∀ l : List Nat, l.filterMap (fun i => (L.map f)[i]?) = (l.filterMap fun i => L[i]?).map f
  | [] => rfl
  | i :: l => by
    rw [List.filterMap_cons, List.filterMap_cons, List.getElem?_map]
    cases L[i]? with
    | none => exact filterMap_map' f L l
    | some x => exact congrArg (f x :: ·) (filterMap_map' f L l)
/-- the table is laid anew -/
theorem relay_K {o : Obj} (ho : s.heap.get? a = some o) (hex : o.ExactSet) (hd : o.data = .set es ep t) (rows : es.toList = L.map (rowK P w)) (psz : t.place.size = L.length) (hdm : t.dummies = #[]) (hle : L.length ≤ t.mask) (nd : (L.map (·.2)).Nodup) (few : L.length < 64) {wanted M : Nat}
    (hw : SetTable.sizeAbove wanted - 1 = M) (hM : MaskOk M) (hw2 : SetTable.sizeAbove wanted ≤ 128) (hn : L.length * 5 < M * 3) {Q : Unit → Shared → Prop}
    (hQ : ∀ h' L', SetNew P w s.heap h' a L' → L'.Perm L → Q () { s with heap := h' }) : wpAny (model P w) A (setRelay a wanted) Q E s := by
  have sz : es.size = L.length := by simpa using congrArg List.length rows
  have fits : t.fits es.size = true := by
    unfold SetTable.fits SetTable.fill
    rw [hdm, Bool.and_eq_true, beq_iff_eq, decide_eq_true_eq]
    exact ⟨psz.trans sz.symm, by simp [psz]; exact hle⟩
  obtain ⟨t', order, e, hp, T, em, _, _, _⟩ := relaid_ok t (hs := es.map (·.1)) (wanted := wanted) hw hM (by rw [Array.size_map, sz]; omega)
  rw [Array.size_map, sz] at hp
  obtain ⟨L2, e1, e2, e3⟩ := picks (L := L) (l := order.toList) fun i hi => List.mem_range.mp (hp.mem_iff.mp hi)
  have pm := picks_perm hp e1
  have row2 : (order.filterMap (es[·]?)).toList = L2.map (rowK P w) := by
    rw [Array.toList_filterMap, ← e1, ← filterMap_map', ← rows]
    simp
  have sz2 : (order.filterMap (es[·]?)).size = es.size := by
    have := congrArg List.length row2
    rw [Array.length_toList, List.length_map, pm.length_eq] at this
    rw [this, sz]
  have hs2 : order.toList.map (fun i => (es.map (·.1)).getD i 0) = (order.filterMap (es[·]?)).toList.map (·.1) := by
    rw [row2, List.map_map]
    have := e3 Int (fun p => kh P w p.2) 0
    refine Eq.trans ?_ this
    refine List.map_congr_left fun i _ => ?_
    have e4 : (es.map (·.1)).toList = L.map fun p => kh P w p.2 := by
      rw [Array.toList_map, rows, List.map_map]
      rfl
    rw [← e4]
    simp
  rw [hs2] at T
  rw [setRelay_eq]
  refine wpAny_bind (wpAny_setState_of ho hd fits ?_)
  dsimp only
  refine wp_if_neg (by rw [sizeLine_eq]; omega) ?_
  try refine wpAny_bind (wpAny_pure ?_)
  rw [e]
  dsimp only
  refine wpAny_bind ?_
  refine wp_if_neg (by rw [sz2]; simp) ?_
  try refine wpAny_bind (wpAny_pure ?_)
  refine wpAny_pure ?_
  dsimp only
  refine wpAny_storeSet_of ho hd ?_ (by rw [sz2, sz, sizeLine_eq]; omega)
  refine hQ _ L2 ⟨Heap.SameBut.update .., _, ep + 1, t', ⟨_, store_at ho hd, ⟨hex.1, hex.2.1, hex.2.2⟩, rfl⟩, row2, T, (pm.map (·.2)).nodup_iff.mpr nd, by rw [pm.length_eq, em]; exact hn, by rw [pm.length_eq]; exact few⟩ pm
theorem insert_perm {α : Type} (L : List α) (p : Nat) (x : α) : (L.take p ++ x :: L.drop p).Perm (x :: L) := by
  have : (L.take p ++ x :: L.drop p).Perm (x :: (L.take p ++ L.drop p)) := List.perm_middle
  rwa [List.take_append_drop] at this
/-- a member more -/
theorem add_K (R : SetG P w s.heap a L es ep t) (TM : TupsIn P w s.heap L) {x : Addr} {k : List Key} (hx : IsK P w s.heap k x) (hu : A.units < cLine) (few : L.length + 1 < 64) {Q : Bool → Shared → Prop}
    (hQ : ∀ b h' L', SetNew P w s.heap h' a L' → (k ∈ L.map (·.2) → L' = L) → (k ∉ L.map (·.2) → L'.Perm ((x, k) :: L)) → Q b { s with heap := h' }) : wpAny (model P w) A (setAddHashed a (.ref x) (kh P w k)) Q E s := by
  obtain ⟨o, ho, hex, hd⟩ := R.ob
  have hsl := R.size
  have hroom := R.room
  unfold setAddHashed
  refine wpAny_holding ?_
  rw [show (100000 : Nat) = 99999 + 1 from rfl, setAddHashedIn_succ]
  refine wpAny_bind (wpAny_setState_of ho hd R.fits ?_)
  dsimp only
  rw [byScan_ref]
  refine wp_if_neg Bool.false_ne_true ?_
  try refine wpAny_bind (wpAny_pure ?_)
  refine wpAny_bind (setSearch_K R TM hx hu true (fun m r _ => ?_) fun K m hK hb => ?_)
  · dsimp only
    exact wpAny_pure (hQ false s.heap L ⟨Heap.SameBut.refl a s.heap, es, ep, t, R⟩ (fun _ => rfl) fun z => absurd m z)
  dsimp only
  refine wpAny_bind (wpAny_setState_of ho hd R.fits ?_)
  dsimp only
  obtain ⟨q1, q2, q3, q4, _, _, _, _, q9⟩ := R.tab.put hK hb
  generalize hpt : t.put (way t.mask (kh P w k) K) = pt at q1 q3 q4 q9 ⊢
  generalize SetTable.below t.place (way t.mask (kh P w k) K) = p at q1 q2 q3
  obtain ⟨t1, p'⟩ := pt
  dsimp only at q1 q3 q4 q9 ⊢
  subst q1
  have row1 : (SetTable.insertAt es p' (kh P w k, Value.ref x)).toList = (L.take p' ++ (x, k) :: L.drop p').map (rowK P w) := by
    rw [SetTable.toList_insertAt, R.rows, List.map_append, List.map_cons, List.map_take, List.map_drop]
    rfl
  have T1 : TabOk t1 ((SetTable.insertAt es p' (kh P w k, Value.ref x)).toList.map (·.1)) := by
    rw [SetTable.toList_insertAt, List.map_append, List.map_cons, List.map_take, List.map_drop]
    exact q3
  have pm := insert_perm L p' (x, k)
  have len1 : (L.take p' ++ (x, k) :: L.drop p').length = L.length + 1 := pm.length_eq
  have nd1 : ((L.take p' ++ (x, k) :: L.drop p').map (·.2)).Nodup := by
    refine (pm.map (·.2)).nodup_iff.mpr ?_
    rw [List.map_cons]
    exact List.nodup_cons.mpr ⟨m, R.nd⟩
  generalize SetTable.insertAt es p' (kh P w k, Value.ref x) = es1 at row1 T1 ⊢
  generalize L.take p' ++ (x, k) :: L.drop p' = L1 at pm len1 nd1 row1
  have es1z : es1.size = L.length + 1 := by
    have := congrArg List.length row1
    rw [Array.length_toList, List.length_map, len1] at this
    exact this
  have fill1 : t1.fill = L.length + 1 := by
    rw [q9, List.length_map, Array.length_toList, hsl]
  have go : ∀ t2 : SetTable, t2.place = t1.place → t2.dummies = t1.dummies → t2.mask = t1.mask → TabOk t2 (es1.toList.map (·.1)) → wpAny (model P w) A (do
      storeSet a es1 t2
      if (!false && t2.tooFull) = true then setRelay a (SetTable.grown (es.size + 1))
      return true) Q E s := fun t2 ep_ ed em T2 => by
    refine wpAny_bind (wpAny_storeSet_of ho hd ?_ (by rw [es1z, sizeLine_eq]; omega))
    have sb : Heap.SameBut a s.heap (s.heap.update a (Obj.putSet es1 t2)) := Heap.SameBut.update ..
    have ho1 := store_at (es' := es1) (t' := t2) ho hd
    generalize s.heap.update a (Obj.putSet es1 t2) = h1 at sb ho1 ⊢
    have fill2 : t2.fill = L.length + 1 := by
      have : t2.fill = t1.fill := by unfold SetTable.fill; rw [ep_, ed]
      rw [this, fill1]
    cases hf : t2.tooFull with
    | true =>
      have full : (L.length + 1) * 5 ≥ t.mask * 3 := by
        have h := hf
        unfold SetTable.tooFull at h
        rw [decide_eq_true_eq, fill2, em, q4] at h
        exact h
      have two : (t.mask = 7 ∧ L.length = 4) ∨ (t.mask = 31 ∧ L.length = 18) := by
        rcases R.tab.mok with e | e | e
        · left; rw [e] at hroom full; exact ⟨e, by omega⟩
        · right; rw [e] at hroom full; exact ⟨e, by omega⟩
        · exfalso; rw [e] at full; omega
      have lay : ∀ M, SetTable.sizeAbove (SetTable.grown (L.length + 1)) - 1 = M → MaskOk M → SetTable.sizeAbove (SetTable.grown (L.length + 1)) ≤ 128 → (L.length + 1) * 5 < M * 3 →
          wpAny (model P w) A (setRelay a (SetTable.grown (L.length + 1))) (fun _ s' => wpAny (model P w) A (pure true) Q E s') E { s with heap := h1 } := fun M g1 g2 g3 g4 => by
        refine relay_K (s := { s with heap := h1 }) (L := L1) ho1 ⟨hex.1, hex.2.1, hex.2.2⟩ rfl row1 (by have := T2.sz; rw [List.length_map, Array.length_toList, es1z] at this; rw [this, len1]) T2.dm (by rw [len1, em, q4]; rcases two with ⟨e, e2⟩ | ⟨e, e2⟩ <;> omega) nd1 (by rw [len1]; exact few) g1 g2 g3 (by rw [len1]; exact g4) ?_
        intro h2 L2 n2 pm2
        exact wpAny_pure (hQ true h2 L2 ⟨sb.trans n2.same, n2.ex⟩ (fun z => absurd z m) fun _ => pm2.trans pm)
      have fin : wpAny (model P w) A (setRelay a (SetTable.grown (es.size + 1))) (fun _ s' => wpAny (model P w) A (pure true) Q E s') E { s with heap := h1 } := by
        rw [hsl]
        rcases two with ⟨_, e2⟩ | ⟨_, e2⟩
        · exact lay 31 (by rw [e2, size_20]) (.inr (.inl rfl)) (by rw [e2, size_20]; decide) (by omega)
        · exact lay 127 (by rw [e2, size_76]) (.inr (.inr rfl)) (by rw [e2, size_76]; decide) (by omega)
      first
        | exact wp_if_pos rfl (wpAny_bind fin)
        | exact wpAny_bind (wp_if_pos rfl fin)
    | false =>
      have last : Q true { s with heap := h1 } := by
        refine hQ true h1 L1 ⟨sb, es1, ep + 1, t2, ⟨_, ho1, ⟨hex.1, hex.2.1, hex.2.2⟩, rfl⟩, row1, T2, nd1, ?_, by rw [len1]; exact few⟩ (fun z => absurd z m) fun _ => pm
        have h := hf
        unfold SetTable.tooFull at h
        rw [decide_eq_false_iff_not, fill2] at h
        rw [len1]
        omega
      first
        | exact wp_if_neg Bool.false_ne_true (wpAny_pure last)
        | exact wpAny_bind (wp_if_neg Bool.false_ne_true (wpAny_pure (wpAny_pure last)))
  have one : ∀ byValue : Bool, wpAny (model P w) A (do
      storeSet a es1 (if byValue = true then t1 else { t1 with plain := false })
      if (!false && (if byValue = true then t1 else { t1 with plain := false }).tooFull) = true then setRelay a (SetTable.grown (es.size + 1))
      return true) Q E s := fun byValue => by
    cases byValue with
    | true => exact go t1 rfl rfl rfl T1
    | false => exact go { t1 with plain := false } rfl rfl rfl ⟨T1.ris, T1.dm, T1.sz, T1.mok, T1.bd, T1.reach⟩
  cases hp1 : t1.plain with
  | true =>
    first
      | exact wpAny_bind (wp_if_pos rfl (byV_K hx fun r => one r))
      | exact wp_if_pos rfl (wpAny_bind (byV_K hx fun r => one r))
  | false =>
    first
      | exact wpAny_bind (wp_if_neg Bool.false_ne_true (wpAny_pure (one true)))
      | exact wp_if_neg Bool.false_ne_true (wpAny_bind (wpAny_pure (one true)))
      | exact wp_if_neg Bool.false_ne_true (one true)
theorem fresh_K {h : Heap} {a : Addr} {b : Bool} (ho : h.get? a = some { cls := .type "set", dict := none, data := .set #[] 0 (.fresh 0 0 b) }) : SetG P w h a [] #[] 0 (.fresh 0 0 b) where
  ob := ⟨_, ho, ⟨rfl, rfl, rfl⟩, rfl⟩
  rows := rfl
  tab := ⟨List.Pairwise.nil, rfl, rfl, .inl rfl, fun x hx => (by cases hx), fun i h j hi => (by simp at hi)⟩
  nd := List.nodup_nil
  room := by show 0 * 5 < 7 * 3; decide
  few := by show 0 < 64; decide
end
/-- such a set, tracked -/
def SetKO (P : Program) (w : World) (a : Addr) (L : List (Addr × List Key)) : HO := .ext fun h => ∃ es ep t, SetG P w h a L es ep t
theorem SetG.keep {P : Program} {w : World} {h h' : Heap} {a : Addr} {L : List (Addr × List Key)} {es : Array (Int × Value)} {ep : Nat} {t : SetTable} (R : SetG P w h a L es ep t) (k : ∀ o, h.get? a = some o → h'.get? a = some o) : SetG P w h' a L es ep t := by
  obtain ⟨o, ho, r⟩ := R.ob
  exact ⟨⟨o, k o ho, r⟩, R.rows, R.tab, R.nd, R.room, R.few⟩
theorem setKO_ok {P : Program} {w : World} {H : Hp} {h : Heap} {a : Addr} {L : List (Addr × List Key)} (R : ∃ es ep t, SetG P w h a L es ep t) : ObjOk P w H h a (SetKO P w a L) := by
  obtain ⟨es, ep, t, R⟩ := R
  obtain ⟨o, ho, _⟩ := R.ob
  exact ⟨⟨es, ep, t, R⟩, ⟨o, ho⟩, fun h1 h2 ⟨es', ep', t', R'⟩ k => ⟨es', ep', t', R'.keep k⟩⟩
theorem setKO_at {P : Program} {w : World} {H : Hp} {h : Heap} {a : Addr} {L : List (Addr × List Key)} (hok : HOk P w H h) (e : H a = some (SetKO P w a L)) : ∃ es ep t, SetG P w h a L es ep t := (hok a _ e).1
end Lg
set_option Elab.async false
set_option linter.all false
set_option maxRecDepth 100000
/-! values as trees, the heap of what changes, and how they lie in the hand layer's heap -/
namespace Lg
open PySem PySem.Spec PyProof.Rows L2
/-- a value: what never changes is a tree, what may change is a place n of the own heap -/
inductive D where
  | non | bl (b : Bool) | int (i : Int) | str (x : Str)
  | tup (l : List D) | lst (l : List D) | frz (l : List D) | frt (l : List D) | dic (t : Bool) (l : List (D × D)) | ref (n : Nat) | fix (a : Addr) | exc (a d : Addr) (f : Str) (e : D)
/-- what may change -/
inductive O where
  | lst (l : List D) | dic (t : Bool) (l : List (D × D)) | ins (C : Str) (fs : List (Str × D)) | set (l : List (List Key))
abbrev Hh : Type := List O
/-- the addresses of our places, and those that nothing may be read of -/
structure Ix where
  pl : List Addr
  rs : List Addr
def Ix.out (ι : Ix) (a : Addr) : Prop := a ∉ ι.pl ∧ a ∉ ι.rs
/-- a place more -/
def Ix.add (ι : Ix) (p : Addr) : Ix := ⟨ι.pl ++ [p], ι.rs⟩
/-- one more that nothing may be read of -/
def Ix.hide (ι : Ix) (p : Addr) : Ix := ⟨ι.pl, p :: ι.rs⟩
/-- a tuple of the written part -/
def TupAt (K : PySem.W.Frag) (a : Addr) (xs : List V) : Prop :=
  ∃ (o : Obj) (its : Array Value) (n : Nat), K.lookup a = some o ∧ o.cls = .type "tuple" ∧ o.data = .seq its n ∧ its.size ≤ sizeLine ∧ Vals xs its.toList
/-- a list that is never written -/
def FrzAt (K : PySem.W.Frag) (ι : Ix) (H : Hp) (a : Addr) (xs : List V) : Prop :=
  (Rd H a (.lst xs) ∧ ι.out a) ∨ ∃ (o : Obj) (its : Array Value) (n : Nat), K.lookup a = some o ∧ o.cls = .type "list" ∧ o.dict = none ∧ o.data = .seq its n ∧ its.size ≤ sizeLine ∧ Vals xs its.toList
theorem FrzAt.sq {K : PySem.W.Frag} {ι : Ix} {H : Hp} {a : Addr} {xs : List V} (h : FrzAt K ι H a xs) : SqL K H a xs := h.imp (·.1) id
theorem TupAt.sq {K : PySem.W.Frag} {H : Hp} {a : Addr} {xs : List V} (h : TupAt K a xs) : SqT K H a xs := .inr h
/-- a key -/
def keyD : D → Option Key
  | .int i => some (.inl i)
  | .str x => some (.inr x)
  | _ => none
def keysD : List D → Option (List Key)
  | [] => some []
  | d :: ds => do
    let k ← keyD d
    let ks ← keysD ds
    some (k :: ks)
mutual
inductive Re (K : PySem.W.Frag) (ι : Ix) (H : Hp) : D → V → Prop
  | non : Re K ι H .non .non
  | bl (b : Bool) : Re K ι H (.bl b) (.bl b)
  | int (i : Int) : Re K ι H (.int i) (.int i)
  | str (x : Str) : Re K ι H (.str x) (.str x)
  | tup {ds : List D} {a : Addr} {xs : List V} : H a = some (.tup xs) → ι.out a → Res K ι H ds xs → Re K ι H (.tup ds) (.ref a)
  | frt {ds : List D} {a : Addr} {xs : List V} : TupAt K a xs → Res K ι H ds xs → Re K ι H (.frt ds) (.ref a)
  | lst {ds : List D} {a : Addr} {xs : List V} : H a = some (.lst xs) → ι.out a → Res K ι H ds xs → Re K ι H (.lst ds) (.ref a)
  | frz {ds : List D} {a : Addr} {xs : List V} : FrzAt K ι H a xs → Res K ι H ds xs → Re K ι H (.frz ds) (.ref a)
  | dicK {l : List (D × D)} {a : Addr} {kvs : List (Key × V)} : H a = some (.dK kvs) → ι.out a → ReK K ι H l kvs → Re K ι H (.dic false l) (.ref a)
  | dicT {l : List (D × D)} {a : Addr} {kvs : List (List Key × V)} : H a = some (.dT kvs) → ι.out a → ReT K ι H l kvs → Re K ι H (.dic true l) (.ref a)
  | ref {n : Nat} {a : Addr} : ι.pl[n]? = some a → Re K ι H (.ref n) (.ref a)
  | fix (a : Addr) : Re K ι H (.fix a) (.ref a)
  | exc {a d : Addr} {f : Str} {e : D} {v : V} : H d = some (.xd [(f, v)]) → ι.out d → Re K ι H e v → Re K ι H (.exc a d f e) (.ref a)
inductive Res (K : PySem.W.Frag) (ι : Ix) (H : Hp) : List D → List V → Prop
  | nil : Res K ι H [] []
  | cons {d : D} {v : V} {ds : List D} {vs : List V} : Re K ι H d v → Res K ι H ds vs → Res K ι H (d :: ds) (v :: vs)
inductive ReK (K : PySem.W.Frag) (ι : Ix) (H : Hp) : List (D × D) → List (Key × V) → Prop
  | nil : ReK K ι H [] []
  | cons {k d : D} {key : Key} {v : V} {l : List (D × D)} {kvs : List (Key × V)} : keyD k = some key → Re K ι H d v → ReK K ι H l kvs → ReK K ι H ((k, d) :: l) ((key, v) :: kvs)
inductive ReT (K : PySem.W.Frag) (ι : Ix) (H : Hp) : List (D × D) → List (List Key × V) → Prop
  | nil : ReT K ι H [] []
  | cons {ks : List D} {d : D} {keys : List Key} {v : V} {l : List (D × D)} {kvs : List (List Key × V)} : keysD ks = some keys → Re K ι H d v → ReT K ι H l kvs → ReT K ι H ((.tup ks, d) :: l) ((keys, v) :: kvs)
end
/-- from one heap to a later one: what is not a place of ours stands, our places grow -/
structure Step (ι ι' : Ix) (H H' : Hp) : Prop where
  st : ∀ a o, H a = some o → a ∉ ι.pl → H' a = some o
  th : ∀ a o, H a = some o → ∃ o', H' a = some o'
  ex : ∃ new, ι'.pl = ι.pl ++ new ∧ ∀ a ∈ new, H a = none
  sub : ∀ a ∈ ι.rs, a ∈ ι'.rs
  nrs : ∀ a ∈ ι'.rs, a ∈ ι.rs ∨ H a = none
theorem Step.refl {ι : Ix} {H : Hp} : Step ι ι H H := ⟨fun _ _ e _ => e, fun _ o e => ⟨o, e⟩, ⟨[], by simp, by simp⟩, fun _ h => h, fun _ h => .inl h⟩
theorem Step.get {ι ι' : Ix} {H H' : Hp} (s : Step ι ι' H H') {n : Nat} {a : Addr} (h : ι.pl[n]? = some a) : ι'.pl[n]? = some a := by
  obtain ⟨new, e, _⟩ := s.ex
  rw [e, List.getElem?_append_left (List.getElem?_eq_some_iff.mp h).1]
  exact h
theorem Step.outP {ι ι' : Ix} {H H' : Hp} (s : Step ι ι' H H') {a : Addr} {o : HO} (h : H a = some o) (n : a ∉ ι.pl) : a ∉ ι'.pl := by
  obtain ⟨new, e, z⟩ := s.ex
  intro q
  rw [e] at q
  rcases List.mem_append.mp q with q | q
  · exact n q
  · rw [z a q] at h
    cases h
theorem Step.out {ι ι' : Ix} {H H' : Hp} (s : Step ι ι' H H') {a : Addr} {o : HO} (h : H a = some o) (n : ι.out a) : ι'.out a := by
  refine ⟨s.outP h n.1, fun q => ?_⟩
  rcases s.nrs a q with q | q
  · exact n.2 q
  · rw [q] at h
    cases h
theorem Step.trans {ι ι1 ι2 : Ix} {H H1 H2 : Hp} (a : Step ι ι1 H H1) (b : Step ι1 ι2 H1 H2) : Step ι ι2 H H2 := by
  have back : ∀ c, H1 c = none → H c = none := fun c e => by
    cases q : H c with
    | none => rfl
    | some o =>
      obtain ⟨o1, e1⟩ := a.th c o q
      rw [e] at e1
      cases e1
  refine ⟨fun c o e n => b.st c o (a.st c o e n) (a.outP e n), fun c o e => ?_, ?_, fun c h => b.sub c (a.sub c h), fun c h => ?_⟩
  · obtain ⟨o1, e1⟩ := a.th c o e
    exact b.th c o1 e1
  · obtain ⟨n1, e1, z1⟩ := a.ex
    obtain ⟨n2, e2, z2⟩ := b.ex
    refine ⟨n1 ++ n2, by rw [e2, e1, List.append_assoc], fun c hc => ?_⟩
    rcases List.mem_append.mp hc with hc | hc
    · exact z1 c hc
    · exact back c (z2 c hc)
  · rcases b.nrs c h with h | h
    · exact a.nrs c h
    · exact .inr (back c h)
/-- a new thing that is none of our places -/
theorem Step.new {ι : Ix} {H : Hp} {p : Addr} {o : HO} (n : H p = none) : Step ι ι H (upd H p o) := by
  refine ⟨fun a x e _ => ?_, fun a x e => ⟨x, ?_⟩, ⟨[], by simp, by simp⟩, fun _ h => h, fun _ h => .inl h⟩
  · rw [upd_ne (ne_of_none e n)]; exact e
  · rw [upd_ne (ne_of_none e n)]; exact e
/-- a new place of ours -/
theorem Step.place {ι : Ix} {H : Hp} {p : Addr} {o : HO} (n : H p = none) : Step ι (ι.add p) H (upd H p o) :=
  ⟨(Step.new n).st (ι := ι), (Step.new (ι := ι) n).th, ⟨[p], rfl, fun a ha => by rw [List.mem_singleton.mp ha]; exact n⟩, fun _ h => h, fun _ h => .inl h⟩
/-- a new thing that is hidden -/
theorem Step.hide {ι : Ix} {H : Hp} {p : Addr} {o : HO} (n : H p = none) : Step ι (ι.hide p) H (upd H p o) :=
  ⟨(Step.new n).st (ι := ι), (Step.new (ι := ι) n).th, ⟨[], by simp [Ix.hide], by simp⟩, fun _ h => List.mem_cons_of_mem _ h, fun a h => by
    rcases List.mem_cons.mp h with h | h
    · exact .inr (by rw [h]; exact n)
    · exact .inl h⟩
/-- a place of ours is written -/
theorem Step.write {ι : Ix} {H : Hp} {p : Addr} {o : HO} (h : p ∈ ι.pl) : Step ι ι H (upd H p o) := by
  refine ⟨fun a x e n => ?_, fun a x e => ?_, ⟨[], by simp, by simp⟩, fun _ h => h, fun _ h => .inl h⟩
  · rw [upd_ne (fun z : a = p => n (by rw [z]; exact h))]; exact e
  · by_cases z : a = p
    · exact ⟨o, by rw [z, upd_same]⟩
    · exact ⟨x, by rw [upd_ne z]; exact e⟩
theorem Step.rd {ι ι' : Ix} {H H' : Hp} (s : Step ι ι' H H') {a : Addr} {u : HO} (h : Rd H a u) (n : ι.out a) : Rd H' a u ∧ ι'.out a := by
  rcases h with h | ⟨o, h⟩
  · exact ⟨.inl (s.st _ _ h n.1), s.out h n⟩
  · exact ⟨.inr ⟨o, s.st _ _ h n.1⟩, s.out h n⟩
section
variable {K : PySem.W.Frag} {ι ι' : Ix} {H H' : Hp}
theorem FrzAt.step (s : Step ι ι' H H') {a : Addr} {xs : List V} (h : FrzAt K ι H a xs) : FrzAt K ι' H' a xs := by
  rcases h with ⟨h, n⟩ | h
  · exact .inl (s.rd h n)
  · exact .inr h
mutual
theorem Re.step (s : Step ι ι' H H') : ∀ {d : D} {v : V}, Re K ι H d v → Re K ι' H' d v
  | _, _, .non => .non
  | _, _, .bl b => .bl b
  | _, _, .int i => .int i
  | _, _, .str x => .str x
  | _, _, .tup h n r => .tup (s.st _ _ h n.1) (s.out h n) (Res.step s r)
  | _, _, .frt h r => .frt h (Res.step s r)
  | _, _, .lst h n r => .lst (s.st _ _ h n.1) (s.out h n) (Res.step s r)
  | _, _, .frz h r => .frz (h.step s) (Res.step s r)
  | _, _, .dicK h n r => .dicK (s.st _ _ h n.1) (s.out h n) (ReK.step s r)
  | _, _, .dicT h n r => .dicT (s.st _ _ h n.1) (s.out h n) (ReT.step s r)
  | _, _, .ref h => .ref (s.get h)
  | _, _, .fix a => .fix a
  | _, _, .exc h n r => .exc (s.st _ _ h n.1) (s.out h n) (Re.step s r)
theorem Res.step (s : Step ι ι' H H') : ∀ {ds : List D} {vs : List V}, Res K ι H ds vs → Res K ι' H' ds vs
  | _, _, .nil => .nil
  | _, _, .cons h r => .cons (Re.step s h) (Res.step s r)
theorem ReK.step (s : Step ι ι' H H') : ∀ {l : List (D × D)} {kvs : List (Key × V)}, ReK K ι H l kvs → ReK K ι' H' l kvs
  | _, _, .nil => .nil
  | _, _, .cons e h r => .cons e (Re.step s h) (ReK.step s r)
theorem ReT.step (s : Step ι ι' H H') : ∀ {l : List (D × D)} {kvs : List (List Key × V)}, ReT K ι H l kvs → ReT K ι' H' l kvs
  | _, _, .nil => .nil
  | _, _, .cons e h r => .cons e (Re.step s h) (ReT.step s r)
end
theorem Res.len : ∀ {ds : List D} {vs : List V}, Res K ι H ds vs → ds.length = vs.length
  | _, _, .nil => rfl
  | _, _, .cons _ r => congrArg (· + 1) (Res.len r)
theorem Res.get : ∀ {ds : List D} {vs : List V} {i : Nat} {d : D}, Res K ι H ds vs → ds[i]? = some d → ∃ v, vs[i]? = some v ∧ Re K ι H d v
  | _, _, _, _, .nil, e => by simp at e
  | _, _, 0, _, .cons h _, e => by simp at e; subst e; exact ⟨_, rfl, h⟩
  | _, _, i + 1, d, .cons _ r, e => by
    obtain ⟨v, h1, h2⟩ := Res.get (i := i) (d := d) r (by simpa using e)
    exact ⟨v, by simpa using h1, h2⟩
theorem Res.getV : ∀ {ds : List D} {vs : List V} {i : Nat} {v : V}, Res K ι H ds vs → vs[i]? = some v → ∃ d, ds[i]? = some d ∧ Re K ι H d v
  | _, _, _, _, .nil, e => by simp at e
  | _, _, 0, _, .cons h _, e => by simp at e; subst e; exact ⟨_, rfl, h⟩
  | _, _, i + 1, v, .cons _ r, e => by
    obtain ⟨d, h1, h2⟩ := Res.getV (i := i) (v := v) r (by simpa using e)
    exact ⟨d, by simpa using h1, h2⟩
theorem Res.app : ∀ {ds es : List D} {vs ws : List V}, Res K ι H ds vs → Res K ι H es ws → Res K ι H (ds ++ es) (vs ++ ws)
  | _, _, _, _, .nil, s => s
  | _, _, _, _, .cons h r, s => .cons h (Res.app r s)
theorem Res.set {d : D} {v : V} (h : Re K ι H d v) : ∀ {ds : List D} {vs : List V} (i : Nat), Res K ι H ds vs → Res K ι H (ds.set i d) (vs.set i v)
  | _, _, _, .nil => .nil
  | _, _, 0, .cons _ r => .cons h r
  | _, _, i + 1, .cons q r => .cons q (Res.set h i r)
theorem Res.erase : ∀ {ds : List D} {vs : List V} (i : Nat), Res K ι H ds vs → Res K ι H (ds.eraseIdx i) (vs.eraseIdx i)
  | _, _, _, .nil => .nil
  | _, _, 0, .cons _ r => r
  | _, _, i + 1, .cons q r => .cons q (Res.erase i r)
theorem Res.rev : ∀ {ds : List D} {vs : List V}, Res K ι H ds vs → Res K ι H ds.reverse vs.reverse
  | _, _, .nil => .nil
  | _, _, .cons h r => by rw [List.reverse_cons, List.reverse_cons]; exact (Res.rev r).app (.cons h .nil)
theorem Res.take : ∀ {ds : List D} {vs : List V} (n : Nat), Res K ι H ds vs → Res K ι H (ds.take n) (vs.take n)
  | _, _, 0, _ => .nil
  | _, _, _ + 1, .nil => .nil
  | _, _, n + 1, .cons h r => .cons h (Res.take n r)
theorem Res.drop : ∀ {ds : List D} {vs : List V} (n : Nat), Res K ι H ds vs → Res K ι H (ds.drop n) (vs.drop n)
  | _, _, 0, r => r
  | _, _, _ + 1, .nil => .nil
  | _, _, n + 1, .cons _ r => Res.drop n r
/-- the fields of an instance -/
inductive ReF (K : PySem.W.Frag) (ι : Ix) (H : Hp) : List (Str × D) → List (Str × V) → Prop
  | nil : ReF K ι H [] []
  | cons {f : Str} {d : D} {v : V} {l : List (Str × D)} {fs : List (Str × V)} : Re K ι H d v → ReF K ι H l fs → ReF K ι H ((f, d) :: l) ((f, v) :: fs)
theorem ReF.step (s : Step ι ι' H H') : ∀ {l : List (Str × D)} {fs : List (Str × V)}, ReF K ι H l fs → ReF K ι' H' l fs
  | _, _, .nil => .nil
  | _, _, .cons h r => .cons (h.step s) (ReF.step s r)
theorem ReF.lookup : ∀ {l : List (Str × D)} {fs : List (Str × V)} {f : Str}, ReF K ι H l fs → (l.lookup f = none ∧ fs.lookup f = none) ∨ ∃ d v, l.lookup f = some d ∧ fs.lookup f = some v ∧ Re K ι H d v
  | _, _, _, .nil => .inl ⟨rfl, rfl⟩
  | _, _, g, .cons (f := f) h r => by
    simp only [List.lookup_cons]
    cases g == f with
    | true => exact .inr ⟨_, _, rfl, rfl, h⟩
    | false => exact ReF.lookup r
end
/-- the program, the world, the classes by name -/
structure CL where
  P : Program
  w : World
  at_ : Str → Option Addr
/-- a tuple of keys that is never written -/
def KTup (ι : Ix) (H : Hp) (p : Addr × List Key) : Prop := H p.1 = some (.tup (p.2.map kV)) ∧ ι.out p.1
/-- what stands at a place of ours; cl: the classes by name -/
def OR (K : PySem.W.Frag) (cl : CL) (ι : Ix) (H : Hp) (a : Addr) : O → Prop
  | .lst ds => ∃ vs, H a = some (.lst vs) ∧ Res K ι H ds vs
  | .dic false l => ∃ kvs, H a = some (.dK kvs) ∧ ReK K ι H l kvs
  | .dic true l => ∃ kvs, H a = some (.dT kvs) ∧ ReT K ι H l kvs
  | .ins C fs => ∃ c dx vs, cl.at_ C = some c ∧ H a = some (.ins c dx vs) ∧ ReF K ι H fs vs
  | .set l => ∃ L, H a = some (SetKO cl.P cl.w a L) ∧ (L.map (·.2)).Perm l ∧ ∀ p ∈ L, KTup ι H p
structure HR (K : PySem.W.Frag) (cl : CL) (ι : Ix) (H : Hp) (h : Hh) : Prop where
  len : ι.pl.length = h.length
  nd : ι.pl.Nodup
  at_ : ∀ (n : Nat) (a : Addr) (o : O), ι.pl[n]? = some a → h[n]? = some o → OR K cl ι H a o
  rs : ∀ a ∈ ι.rs, a ∉ ι.pl ∧ ∃ o, H a = some o
section
variable {K : PySem.W.Frag} {cl : CL} {ι ι' : Ix} {H H' : Hp} {h h' : Hh}
theorem OR.there {a : Addr} {o : O} (x : OR K cl ι H a o) : ∃ u, H a = some u := by
  cases o with
  | lst ds => obtain ⟨_, e, _⟩ := x; exact ⟨_, e⟩
  | dic t l => cases t <;> (obtain ⟨_, e, _⟩ := x; exact ⟨_, e⟩)
  | ins C fs => obtain ⟨_, _, _, _, e, _⟩ := x; exact ⟨_, e⟩
  | set l => obtain ⟨_, e, _⟩ := x; exact ⟨_, e⟩
theorem OR.step (s : Step ι ι' H H') {a : Addr} (e : H' a = H a) {o : O} (x : OR K cl ι H a o) : OR K cl ι' H' a o := by
  cases o with
  | lst ds => obtain ⟨vs, e1, r⟩ := x; exact ⟨vs, e.trans e1, r.step s⟩
  | dic t l =>
    cases t with
    | false => obtain ⟨kvs, e1, r⟩ := x; exact ⟨kvs, e.trans e1, r.step s⟩
    | true => obtain ⟨kvs, e1, r⟩ := x; exact ⟨kvs, e.trans e1, r.step s⟩
  | ins C fs => obtain ⟨c, dx, vs, e0, e1, r⟩ := x; exact ⟨c, dx, vs, e0, e.trans e1, r.step s⟩
  | set l => obtain ⟨L, e1, pm, r⟩ := x; exact ⟨L, e.trans e1, pm, fun p hp => ⟨s.st _ _ (r p hp).1 (r p hp).2.1, s.out (r p hp).1 (r p hp).2⟩⟩
theorem HR.tracked (x : HR K cl ι H h) {a : Addr} (m : a ∈ ι.pl) : ∃ u, H a = some u := by
  obtain ⟨n, hn, e⟩ := List.mem_iff_getElem.mp m
  have h1 : ι.pl[n]? = some a := by rw [List.getElem?_eq_getElem hn, e]
  have h2 : n < h.length := x.len ▸ hn
  exact (x.at_ n a _ h1 (List.getElem?_eq_getElem h2)).there
theorem HR.freshP (x : HR K cl ι H h) {p : Addr} (n : H p = none) : p ∉ ι.pl := fun m => by
  obtain ⟨u, e⟩ := x.tracked m
  rw [n] at e
  cases e
theorem HR.fresh (x : HR K cl ι H h) {p : Addr} (n : H p = none) : ι.out p := ⟨x.freshP n, fun m => by
  obtain ⟨_, u, e⟩ := x.rs p m
  rw [n] at e
  cases e⟩
theorem HR.addr (x : HR K cl ι H h) {n : Nat} {o : O} (e : h[n]? = some o) : ∃ a, ι.pl[n]? = some a ∧ OR K cl ι H a o := by
  have h2 : n < ι.pl.length := x.len ▸ (List.getElem?_eq_some_iff.mp e).1
  exact ⟨ι.pl[n], List.getElem?_eq_getElem h2, x.at_ n _ o (List.getElem?_eq_getElem h2) e⟩
theorem HR.rsStep (x : HR K cl ι H h) (s : Step ι ι' H H') (e : ι'.rs = ι.rs) : ∀ a ∈ ι'.rs, a ∉ ι'.pl ∧ ∃ o, H' a = some o := fun a ha => by
  rw [e] at ha
  obtain ⟨h1, o, e⟩ := x.rs a ha
  exact ⟨s.outP e h1, o, s.st a o e h1⟩
/-- a new thing beside our places -/
theorem HR.new (x : HR K cl ι H h) {p : Addr} {o : HO} (n : H p = none) : HR K cl ι (upd H p o) h :=
  ⟨x.len, x.nd, fun i a u e1 e2 => (x.at_ i a u e1 e2).step (Step.new n) (upd_ne fun z => x.freshP n (z ▸ List.mem_of_getElem? e1)), x.rsStep (Step.new n) rfl⟩
/-- a new place -/
theorem HR.place (x : HR K cl ι H h) {p : Addr} {u : HO} {o : O} (n : H p = none) (q : OR K cl (ι.add p) (upd H p u) p o) : HR K cl (ι.add p) (upd H p u) (h ++ [o]) := by
  refine ⟨by simp [Ix.add, x.len], ?_, fun i a z e1 e2 => ?_, x.rsStep (Step.place n) rfl⟩
  · show (ι.pl ++ [p]).Nodup
    rw [List.nodup_append]
    refine ⟨x.nd, by simp, fun a ha b hb => ?_⟩
    rw [List.mem_singleton.mp hb]
    intro e
    exact x.freshP n (e ▸ ha)
  · have e1 : (ι.pl ++ [p])[i]? = some a := e1
    by_cases hi : i < ι.pl.length
    · rw [List.getElem?_append_left hi] at e1
      rw [List.getElem?_append_left (x.len ▸ hi)] at e2
      exact (x.at_ i a z e1 e2).step (Step.place n) (upd_ne fun y => x.freshP n (y ▸ List.mem_of_getElem? e1))
    · have hi' : i = ι.pl.length := by
        have := (List.getElem?_eq_some_iff.mp e1).1
        simp at this
        omega
      subst hi'
      have h1 : a = p := by simpa using e1.symm
      have h2 : z = o := by
        rw [x.len] at e2
        simpa using e2.symm
      subst h1 h2
      exact q
/-- a place is written -/
theorem HR.write (x : HR K cl ι H h) {p : Addr} {i : Nat} {u : HO} {o : O} (hp : ι.pl[i]? = some p) (q : OR K cl ι (upd H p u) p o) : HR K cl ι (upd H p u) (h.set i o) := by
  refine ⟨by simp [x.len], x.nd, fun j a z e1 e2 => ?_, x.rsStep (Step.write (List.mem_of_getElem? hp)) rfl⟩
  by_cases hj : i = j
  · subst hj
    rw [hp] at e1
    cases e1
    have hl : i < h.length := x.len ▸ (List.getElem?_eq_some_iff.mp hp).1
    rw [List.getElem?_set_self hl] at e2
    cases e2
    exact q
  · rw [List.getElem?_set_ne hj] at e2
    have ne : a ≠ p := fun e => by
      subst e
      have l1 := (List.getElem?_eq_some_iff.mp e1)
      have l2 := (List.getElem?_eq_some_iff.mp hp)
      exact hj ((List.getElem_inj x.nd).mp (l2.2.trans l1.2.symm))
    exact (x.at_ j a z e1 e2).step (Step.write (List.mem_of_getElem? hp)) (upd_ne ne)
end
/-! ### what is hidden -/
section
variable {K : PySem.W.Frag} {cl : CL} {ι ι' : Ix} {H H' : Hp} {h : Hh} {p : Addr}
mutual
theorem Re.conv (c : ∀ a, ι.out a → ι'.out a ∧ H' a = H a) (g : ∀ (n : Nat) a, ι.pl[n]? = some a → ι'.pl[n]? = some a) : ∀ {d : D} {v : V}, Re K ι H d v → Re K ι' H' d v
  | _, _, .non => .non
  | _, _, .bl b => .bl b
  | _, _, .int i => .int i
  | _, _, .str x => .str x
  | _, _, .tup h n r => .tup ((c _ n).2.trans h) (c _ n).1 (Res.conv c g r)
  | _, _, .frt h r => .frt h (Res.conv c g r)
  | _, _, .lst h n r => .lst ((c _ n).2.trans h) (c _ n).1 (Res.conv c g r)
  | _, _, .frz (.inl ⟨h, n⟩) r => .frz (.inl ⟨h.imp (fun e => (c _ n).2.trans e) fun ⟨o, e⟩ => ⟨o, (c _ n).2.trans e⟩, (c _ n).1⟩) (Res.conv c g r)
  | _, _, .frz (.inr h) r => .frz (.inr h) (Res.conv c g r)
  | _, _, .dicK h n r => .dicK ((c _ n).2.trans h) (c _ n).1 (ReK.conv c g r)
  | _, _, .dicT h n r => .dicT ((c _ n).2.trans h) (c _ n).1 (ReT.conv c g r)
  | _, _, .ref h => .ref (g _ _ h)
  | _, _, .fix a => .fix a
  | _, _, .exc h n r => .exc ((c _ n).2.trans h) (c _ n).1 (Re.conv c g r)
theorem Res.conv (c : ∀ a, ι.out a → ι'.out a ∧ H' a = H a) (g : ∀ (n : Nat) a, ι.pl[n]? = some a → ι'.pl[n]? = some a) : ∀ {ds : List D} {vs : List V}, Res K ι H ds vs → Res K ι' H' ds vs
  | _, _, .nil => .nil
  | _, _, .cons h r => .cons (Re.conv c g h) (Res.conv c g r)
theorem ReK.conv (c : ∀ a, ι.out a → ι'.out a ∧ H' a = H a) (g : ∀ (n : Nat) a, ι.pl[n]? = some a → ι'.pl[n]? = some a) : ∀ {l : List (D × D)} {kvs : List (Key × V)}, ReK K ι H l kvs → ReK K ι' H' l kvs
  | _, _, .nil => .nil
  | _, _, .cons e h r => .cons e (Re.conv c g h) (ReK.conv c g r)
theorem ReT.conv (c : ∀ a, ι.out a → ι'.out a ∧ H' a = H a) (g : ∀ (n : Nat) a, ι.pl[n]? = some a → ι'.pl[n]? = some a) : ∀ {l : List (D × D)} {kvs : List (List Key × V)}, ReT K ι H l kvs → ReT K ι' H' l kvs
  | _, _, .nil => .nil
  | _, _, .cons e h r => .cons e (Re.conv c g h) (ReT.conv c g r)
end
theorem ReF.conv (c : ∀ a, ι.out a → ι'.out a ∧ H' a = H a) (g : ∀ (n : Nat) a, ι.pl[n]? = some a → ι'.pl[n]? = some a) : ∀ {l : List (Str × D)} {fs : List (Str × V)}, ReF K ι H l fs → ReF K ι' H' l fs
  | _, _, .nil => .nil
  | _, _, .cons h r => .cons (h.conv c g) (ReF.conv c g r)
theorem OR.conv (c : ∀ a, ι.out a → ι'.out a ∧ H' a = H a) (g : ∀ (n : Nat) a, ι.pl[n]? = some a → ι'.pl[n]? = some a) {a : Addr} (e : H' a = H a) {o : O} (x : OR K cl ι H a o) : OR K cl ι' H' a o := by
  cases o with
  | lst ds => obtain ⟨vs, e1, r⟩ := x; exact ⟨vs, e.trans e1, r.conv c g⟩
  | dic t l =>
    cases t with
    | false => obtain ⟨kvs, e1, r⟩ := x; exact ⟨kvs, e.trans e1, r.conv c g⟩
    | true => obtain ⟨kvs, e1, r⟩ := x; exact ⟨kvs, e.trans e1, r.conv c g⟩
  | ins C fs => obtain ⟨k, dx, vs, e0, e1, r⟩ := x; exact ⟨k, dx, vs, e0, e.trans e1, r.conv c g⟩
  | set l => obtain ⟨L, e1, pm, r⟩ := x; exact ⟨L, e.trans e1, pm, fun p hp => ⟨(c _ (r p hp).2).2.trans (r p hp).1, (c _ (r p hp).2).1⟩⟩
/-- hidden no more -/
def Ix.bare (ι : Ix) (p : Addr) : Ix := ⟨ι.pl, ι.rs.filter fun a => decide (a ≠ p)⟩
theorem bare_c {u : HO} (m : p ∈ ι.rs) : ∀ a, ι.out a → (ι.bare p).out a ∧ upd H p u a = H a := fun a o =>
  ⟨⟨o.1, fun z => o.2 (List.mem_filter.mp z).1⟩, upd_ne fun z => o.2 (z ▸ m)⟩
theorem HR.bare (x : HR K cl ι H h) (m : p ∈ ι.rs) {u : HO} : HR K cl (ι.bare p) (upd H p u) h :=
  ⟨x.len, x.nd, fun n a o e1 e2 => (x.at_ n a o e1 e2).conv (bare_c m) (fun _ _ e => e) (upd_ne fun z => (x.rs p m).1 (z ▸ List.mem_of_getElem? e1)), fun a ha => by
    obtain ⟨h1, h2⟩ := List.mem_filter.mp ha
    obtain ⟨z, o, e⟩ := x.rs a h1
    exact ⟨z, o, by rw [upd_ne (of_decide_eq_true h2)]; exact e⟩⟩
theorem Re.bare {d : D} {v : V} {u : HO} (r : Re K ι H d v) (m : p ∈ ι.rs) : Re K (ι.bare p) (upd H p u) d v := r.conv (bare_c m) fun _ _ e => e
theorem Res.bare {d : List D} {v : List V} {u : HO} (r : Res K ι H d v) (m : p ∈ ι.rs) : Res K (ι.bare p) (upd H p u) d v := r.conv (bare_c m) fun _ _ e => e
theorem HR.outB (x : HR K cl ι H h) (m : p ∈ ι.rs) : (ι.bare p).out p := ⟨(x.rs p m).1, fun z => by simpa using (List.mem_filter.mp z).2⟩
/-- .. but a place -/
theorem place_c {u : HO} (m : p ∈ ι.rs) : ∀ a, ι.out a → ((ι.bare p).add p).out a ∧ upd H p u a = H a := fun a o =>
  ⟨⟨fun z => by
    rcases List.mem_append.mp z with z | z
    · exact o.1 z
    · exact o.2 (List.mem_singleton.mp z ▸ m), fun z => o.2 (List.mem_filter.mp z).1⟩, upd_ne fun z => o.2 (z ▸ m)⟩
theorem place_g : ∀ (n : Nat) a, ι.pl[n]? = some a → ((ι.bare p).add p).pl[n]? = some a := fun n a e => by
  show (ι.pl ++ [p])[n]? = some a
  rw [List.getElem?_append_left (List.getElem?_eq_some_iff.mp e).1]
  exact e
theorem HR.unhide (x : HR K cl ι H h) (m : p ∈ ι.rs) {u : HO} {o : O} (q : OR K cl ((ι.bare p).add p) (upd H p u) p o) : HR K cl ((ι.bare p).add p) (upd H p u) (h ++ [o]) := by
  have hp := (x.rs p m).1
  refine ⟨by simp [Ix.add, Ix.bare, x.len], ?_, fun i a z e1 e2 => ?_, fun a ha => ?_⟩
  · show (ι.pl ++ [p]).Nodup
    rw [List.nodup_append]
    refine ⟨x.nd, by simp, fun a ha b hb => ?_⟩
    rw [List.mem_singleton.mp hb]
    intro e
    exact hp (e ▸ ha)
  · have e1 : (ι.pl ++ [p])[i]? = some a := e1
    by_cases hi : i < ι.pl.length
    · rw [List.getElem?_append_left hi] at e1
      rw [List.getElem?_append_left (x.len ▸ hi)] at e2
      exact (x.at_ i a z e1 e2).conv (place_c m) place_g (upd_ne fun y => hp (y ▸ List.mem_of_getElem? e1))
    · have hi' : i = ι.pl.length := by
        have := (List.getElem?_eq_some_iff.mp e1).1
        simp at this
        omega
      subst hi'
      have h1 : a = p := by simpa using e1.symm
      have h2 : z = o := by
        rw [x.len] at e2
        simpa using e2.symm
      subst h1 h2
      exact q
  · obtain ⟨h1, h2⟩ := List.mem_filter.mp ha
    obtain ⟨z, o, e⟩ := x.rs a h1
    refine ⟨fun y => ?_, o, by rw [upd_ne (of_decide_eq_true h2)]; exact e⟩
    rcases List.mem_append.mp y with y | y
    · exact z y
    · exact (of_decide_eq_true h2) (List.mem_singleton.mp y)
theorem HR.hide (x : HR K cl ι H h) {u : HO} (n : H p = none) : HR K cl (ι.hide p) (upd H p u) h :=
  ⟨x.len, x.nd, fun i a o e1 e2 => (x.at_ i a o e1 e2).step (Step.hide n) (upd_ne fun z => x.freshP n (z ▸ List.mem_of_getElem? e1)), fun a ha => by
    rcases List.mem_cons.mp ha with ha | ha
    · subst ha
      exact ⟨x.freshP n, u, upd_same⟩
    · obtain ⟨h1, o, e⟩ := x.rs a ha
      exact ⟨h1, o, by rw [upd_ne (ne_of_none e n)]; exact e⟩⟩
/-- the hidden thing is written -/
theorem hid_c {u : HO} (m : p ∈ ι.rs) : ∀ a, ι.out a → ι.out a ∧ upd H p u a = H a := fun a o => ⟨o, upd_ne fun z => o.2 (z ▸ m)⟩
theorem HR.hid (x : HR K cl ι H h) (m : p ∈ ι.rs) {u : HO} : HR K cl ι (upd H p u) h :=
  ⟨x.len, x.nd, fun n a o e1 e2 => (x.at_ n a o e1 e2).conv (hid_c m) (fun _ _ e => e) (upd_ne fun z => (x.rs p m).1 (z ▸ List.mem_of_getElem? e1)), fun a ha => by
    obtain ⟨z, o, e⟩ := x.rs a ha
    refine ⟨z, ?_⟩
    by_cases ea : a = p
    · exact ⟨u, by rw [ea, upd_same]⟩
    · exact ⟨o, by rw [upd_ne ea]; exact e⟩⟩
end
/-- the slots -/
abbrev S : Type := List (Option D)
structure SR (K : PySem.W.Frag) (ι : Ix) (H : Hp) (s : S) (σ : L2.St) : Prop where
  len : s.length = σ.length
  at_ : ∀ (i : Nat) (d : D), s[i]? = some (some d) → ∃ v, σ[i]? = some (some v) ∧ Re K ι H d v
section
variable {K : PySem.W.Frag} {ι ι' : Ix} {H H' : Hp} {s : S} {σ : L2.St}
theorem SR.step (x : SR K ι H s σ) (t : Step ι ι' H H') : SR K ι' H' s σ := ⟨x.len, fun i d e => let ⟨v, h1, h2⟩ := x.at_ i d e; ⟨v, h1, h2.step t⟩⟩
theorem SR.set (x : SR K ι H s σ) {d : D} {v : V} (r : Re K ι H d v) (i : Nat) : SR K ι H (s.set i (some d)) (σ.set i (some v)) := by
  refine ⟨by simp [x.len], fun j e h => ?_⟩
  by_cases hj : i = j
  · subst hj
    by_cases hl : i < s.length
    · rw [List.getElem?_set_self hl] at h
      cases h
      exact ⟨v, List.getElem?_set_self (x.len ▸ hl), r⟩
    · rw [List.getElem?_eq_none (by simp; omega)] at h
      cases h
  · rw [List.getElem?_set_ne hj] at h
    obtain ⟨w, h1, h2⟩ := x.at_ j e h
    exact ⟨w, by rw [List.getElem?_set_ne hj]; exact h1, h2⟩
end
end Lg
set_option Elab.async false
set_option linter.all false
set_option maxRecDepth 100000
namespace Lg
open PySem PySem.Spec PyProof.Rows L2
/-- an exception: its class's name, its own field -/
structure Xn where
  cls : Str
  fld : Option (Str × D)
inductive Oc (α : Type) where
  | ok (a : α) (h : Hh) | ex (x : Xn) (h : Hh) | no
def Oc.bind {α β : Type} : Oc α → (α → Hh → Oc β) → Oc β
  | .ok a h, k => k a h
  | .ex x h, _ => .ex x h
  | .no, _ => .no
def ofO {α : Type} (h : Hh) : Option α → Oc α
  | some a => .ok a h
  | none => .no
@[simp] theorem Oc.bind_ok {α β : Type} (a : α) (h : Hh) (k : α → Hh → Oc β) : (Oc.ok a h).bind k = k a h := rfl
@[simp] theorem Oc.bind_ex {α β : Type} (x : Xn) (h : Hh) (k : α → Hh → Oc β) : (Oc.ex x h).bind k = .ex x h := rfl
@[simp] theorem Oc.bind_no {α β : Type} (k : α → Hh → Oc β) : (Oc.no : Oc α).bind k = .no := rfl
@[simp] theorem ofO_some {α : Type} (h : Hh) (a : α) : ofO h (some a) = .ok a h := rfl
@[simp] theorem ofO_none {α : Type} (h : Hh) : ofO h (none : Option α) = .no := rfl
def clAt (mg : Str → Option Value) (x : Str) : Option Addr := match mg x with
  | some (.ref a) => some a
  | _ => none
def clOf (P : Program) (w : World) (mg : Str → Option Value) : CL := ⟨P, w, clAt mg⟩
structure XR (K : PySem.W.Frag) (cl : CL) (ι : Ix) (H : Hp) (x : Xn) (c : Value) (d : Option Addr) : Prop where
  cls : ∃ C, cl.at_ x.cls = some C ∧ c = .ref C
  fld : (x.fld = none ∧ d = none) ∨ ∃ f e a v, x.fld = some (f, e) ∧ d = some a ∧ H a = some (.xd [(f, v)]) ∧ ι.out a ∧ Re K ι H e v
abbrev HX (X : Cx) (ι : Ix) (H : Hp) (h : Hh) : Prop := HR X.K (clOf X.prog X.w X.mg) ι H h
abbrev ReX (X : Cx) (ι : Ix) (H : Hp) (d : D) (v : V) : Prop := Re X.K ι H d v
/-- what is wanted of an outcome -/
def Po {α : Type} (X : Cx) (W : WX) (σ : L2.St) (ι : Ix) (H : Hp) (r : Oc α) (G : α → Ix → Hp → Prop) : Prop := match r with
  | .ok a h' => ∀ H' ι', Step ι ι' H H' → HX X ι' H' h' → G a ι' H'
  | .ex x h' => ∀ H' ι' c d, Step ι ι' H H' → HX X ι' H' h' → XR X.K (clOf X.prog X.w X.mg) ι' H' x c d → W c d σ H'
  | .no => False
theorem Po.step {α : Type} {X : Cx} {W : WX} {σ : L2.St} {ι ι' : Ix} {H H' : Hp} {r : Oc α} {G : α → Ix → Hp → Prop} (s : Step ι ι' H H') (p : Po X W σ ι H r G) : Po X W σ ι' H' r G := by
  cases r with
  | ok a h => exact fun H2 ι2 s2 => p H2 ι2 (s.trans s2)
  | ex x h => exact fun H2 ι2 c d s2 => p H2 ι2 c d (s.trans s2)
  | no => exact p
/-- the weakest wishes -/
def We (X : Cx) (e : Expr) : TE := fun σ H Q => ∀ (pins : List (Addr × Obj)) (s : Shared), Inv X pins σ H s → wpAny (model X.prog X.w) X.A (eval e X.env) (EP X pins σ Q) X.xe s
def Wt (X : Cx) (e : Expr) : TT := fun σ H Q => ∀ (pins : List (Addr × Obj)) (s : Shared), Inv X pins σ H s → wpAny (model X.prog X.w) X.A (isTrue e X.env (eval e X.env)) (TP X pins σ Q) X.xe s
def Wa (X : Cx) (es : List Expr) : TA := fun σ H Q => ∀ (pos : Pos) (pins : List (Addr × Obj)) (s : Shared), Inv X pins σ H s → wpAny (model X.prog X.w) X.A (spliced (backTo pos (starEach es X.env))) (AP X pins σ Q) X.xe s
theorem pe_we {X : Cx} {e : Expr} : PE X e (We X e) := ⟨fun pins s σ H Q I h => h pins s I⟩
theorem pt_wt {X : Cx} {e : Expr} : PT X e (Wt X e) := ⟨fun pins s σ H Q I h => h pins s I⟩
theorem pa_wa {X : Cx} {es : List Expr} : PA X es (Wa X es) := ⟨fun pos pins s σ H Q I h => h pos pins s I⟩
theorem we_of {X : Cx} {e : Expr} {t : TE} (p : PE X e t) {σ : L2.St} {H : Hp} {Q : VK} (h : t σ H Q) : We X e σ H Q := fun pins s I => p.run pins s σ H Q I h
theorem wt_of {X : Cx} {e : Expr} {t : TT} (p : PT X e t) {σ : L2.St} {H : Hp} {Q : Bool → Hp → Prop} (h : t σ H Q) : Wt X e σ H Q := fun pins s I => p.run pins s σ H Q I h
theorem wa_of {X : Cx} {es : List Expr} {t : TA} (p : PA X es t) {σ : L2.St} {H : Hp} {Q : List V → Hp → Prop} (h : t σ H Q) : Wa X es σ H Q := fun pos pins s I => p.run pos pins s σ H Q I h
abbrev FE := S → Hh → Oc D
abbrev FT := S → Hh → Oc Bool
abbrev FA := S → Hh → Oc (List D)
/-- the expression e is reckoned by f -/
structure RE (X : Cx) (W : WX) (e : Expr) (f : FE) : Prop where
  run : ∀ {s : S} {σ : L2.St} {H : Hp} {ι : Ix} {h : Hh} {Q : VK}, SR X.K ι H s σ → HX X ι H h → Po X W σ ι H (f s h) (fun d ι' H' => ∀ v, ReX X ι' H' d v → Q v H') → We X e σ H Q
structure RT (X : Cx) (W : WX) (e : Expr) (f : FT) : Prop where
  run : ∀ {s : S} {σ : L2.St} {H : Hp} {ι : Ix} {h : Hh} {Q : Bool → Hp → Prop}, SR X.K ι H s σ → HX X ι H h → Po X W σ ι H (f s h) (fun b ι' H' => Q b H') → Wt X e σ H Q
structure RA (X : Cx) (W : WX) (es : List Expr) (f : FA) : Prop where
  run : ∀ {s : S} {σ : L2.St} {H : Hp} {ι : Ix} {h : Hh} {Q : List V → Hp → Prop}, SR X.K ι H s σ → HX X ι H h → Po X W σ ι H (f s h) (fun ds ι' H' => ∀ vs, Res X.K ι' H' ds vs → Q vs H') → Wa X es σ H Q
section
variable {X : Cx} {W : WX} {e a b c : Expr} {es : List Expr} {f fa fb fc : FE} {ft : FT} {fs : FA} {pos : Pos} {s : S} {σ : L2.St} {H : Hp} {ι : Ix} {h : Hh}
theorem RE.next {β : Type} {k : D → Hh → Oc β} {G : β → Ix → Hp → Prop} {R : VK} (t : RE X W e f) (r : SR X.K ι H s σ) (x : HX X ι H h) (p : Po X W σ ι H ((f s h).bind k) G)
    (n : ∀ d h1 v H1 ι1, Step ι ι1 H H1 → SR X.K ι1 H1 s σ → HX X ι1 H1 h1 → ReX X ι1 H1 d v → Po X W σ ι1 H1 (k d h1) G → R v H1) : We X e σ H R := by
  refine t.run r x ?_
  cases q : f s h with
  | ok d h1 =>
    rw [q] at p
    exact fun H1 ι1 s1 x1 v rv => n d h1 v H1 ι1 s1 (r.step s1) x1 rv (Po.step s1 p)
  | ex y h1 => rw [q] at p; exact p
  | no => rw [q] at p; exact p
theorem RT.next {β : Type} {k : Bool → Hh → Oc β} {G : β → Ix → Hp → Prop} {R : Bool → Hp → Prop} (t : RT X W e ft) (r : SR X.K ι H s σ) (x : HX X ι H h) (p : Po X W σ ι H ((ft s h).bind k) G)
    (n : ∀ d h1 H1 ι1, Step ι ι1 H H1 → SR X.K ι1 H1 s σ → HX X ι1 H1 h1 → Po X W σ ι1 H1 (k d h1) G → R d H1) : Wt X e σ H R := by
  refine t.run r x ?_
  cases q : ft s h with
  | ok d h1 =>
    rw [q] at p
    exact fun H1 ι1 s1 x1 => n d h1 H1 ι1 s1 (r.step s1) x1 (Po.step s1 p)
  | ex y h1 => rw [q] at p; exact p
  | no => rw [q] at p; exact p
theorem RA.next {β : Type} {k : List D → Hh → Oc β} {G : β → Ix → Hp → Prop} {R : List V → Hp → Prop} (t : RA X W es fs) (r : SR X.K ι H s σ) (x : HX X ι H h) (p : Po X W σ ι H ((fs s h).bind k) G)
    (n : ∀ ds h1 vs H1 ι1, Step ι ι1 H H1 → SR X.K ι1 H1 s σ → HX X ι1 H1 h1 → Res X.K ι1 H1 ds vs → Po X W σ ι1 H1 (k ds h1) G → R vs H1) : Wa X es σ H R := by
  refine t.run r x ?_
  cases q : fs s h with
  | ok d h1 =>
    rw [q] at p
    exact fun H1 ι1 s1 x1 v rv => n d h1 v H1 ι1 s1 (r.step s1) x1 rv (Po.step s1 p)
  | ex y h1 => rw [q] at p; exact p
  | no => rw [q] at p; exact p
/-- a reckoned outcome is used -/
theorem Po.use {α : Type} {G : α → Ix → Hp → Prop} {d : α} (x : HX X ι H h) (p : Po X W σ ι H (.ok d h) G) : G d ι H := p H ι Step.refl x
theorem Po.use' {α : Type} {G : α → Ix → Hp → Prop} {d : α} {ι' : Ix} {H' : Hp} {h' : Hh} (p : Po X W σ ι H (.ok d h') G) (st : Step ι ι' H H') (x : HX X ι' H' h') : G d ι' H' := p H' ι' st x
/-! ### names, constants -/
def fV (i : Nat) : FE := fun s h => match s[i]? with
  | some (some d) => .ok d h
  | _ => .no
theorem re_v (i : Nat) {x : Str} (hN : X.N[i]? = some x := by rfl) (hv : Vis X.env.scope x := by first | exact Or.inl rfl | exact Or.inr (Or.inl rfl) | exact Or.inr (Or.inr rfl)) (hd : (x == ("__debug__" : Str)) = false := by decide)
    (hcd : (x == ("__classdict__" : Str)) = false := by decide) : RE X W (.Name x pos) (fV i) := by
  refine ⟨fun {s σ H ι h Q} r x p => we_of (pe_var hN hv hd hcd) ?_⟩
  unfold fV at p
  cases q : s[i]? with
  | none => rw [q] at p; exact p.elim
  | some o =>
    cases o with
    | none => rw [q] at p; exact p.elim
    | some d =>
      rw [q] at p
      obtain ⟨v, h1, h2⟩ := r.at_ i d q
      exact ⟨v, h1, p.use x v h2⟩
def fC (d : D) : FE := fun _ h => .ok d h
theorem re_int {i j pos} : RE X W (.Constant (.int i) j pos) (fC (.int i)) := ⟨fun r x p => we_of pe_int (p.use x _ (.int i))⟩
theorem re_bl {b j pos} : RE X W (.Constant (.bool b) j pos) (fC (.bl b)) := ⟨fun r x p => we_of pe_bl (p.use x _ (.bl b))⟩
theorem re_non {j pos} : RE X W (.Constant .none j pos) (fC .non) := ⟨fun r x p => we_of pe_non (p.use x _ .non)⟩
theorem re_str {y j pos} : RE X W (.Constant (.str y) j pos) (fC (.str y)) := ⟨fun r x p => we_of pe_str (p.use x _ (.str y))⟩
/-! ### arguments, displays -/
def fN : FA := fun _ h => .ok [] h
def fCo (f : FE) (g : FA) : FA := fun s h => (f s h).bind fun d h1 => (g s h1).bind fun ds h2 => .ok (d :: ds) h2
theorem ra_nil : RA X W [] fN := ⟨fun r x p => wa_of pa_nil (p.use x [] .nil)⟩
theorem ra_cons (he : RE X W e f) (hr : RA X W es fs) (hs : starEach (e :: es) X.env = (false, eval e X.env) :: starEach es X.env := by rfl) : RA X W (e :: es) (fCo f fs) :=
  ⟨fun {s σ H ι h Q} r x p => wa_of (pa_cons pe_we pa_wa hs) (he.next r x p fun d h1 v H1 ι1 s1 r1 x1 rv p1 => hr.next r1 x1 p1 fun ds h2 vs H2 ι2 s2 r2 x2 rvs p2 => p2.use x2 _ (.cons (rv.step s2) rvs))⟩
def line (n : Nat) : Bool := decide (n ≤ 16000000)
theorem line_ok {n : Nat} (h : line n = true) : n < sizeLine := Nat.lt_of_le_of_lt (of_decide_eq_true h) (by decide)
def fTup (g : FA) : FE := fun s h => (g s h).bind fun ds h1 => if line ds.length then .ok (.tup ds) h1 else .no
theorem re_tup {x1} (hg : RA X W es fs) : RE X W (.Tuple es x1 pos) (fTup fs) :=
  ⟨fun {s σ H ι h Q} r x p => we_of (pe_tup pa_wa) (hg.next r x p fun ds h1 vs H1 ι1 s1 r1 x1 rvs p1 => by
    cases q : line ds.length with
    | false => rw [q] at p1; exact p1.elim
    | true =>
      rw [q] at p1
      have st : ∀ p, H1 p = none → Step ι1 ι1 H1 (upd H1 p (.tup vs)) := fun p n => Step.new n
      exact ⟨by rw [← rvs.len]; exact Nat.le_of_lt (line_ok q), fun p n => p1.use' (st p n) (x1.new n) _ (.tup upd_same (x1.fresh n) (rvs.step (st p n)))⟩)⟩
/-- a list that is only read -/
def fLst (g : FA) : FE := fun s h => (g s h).bind fun ds h1 => if line ds.length then .ok (.lst ds) h1 else .no
theorem re_lst (hg : RA X W es fs) : RE X W (.List es pos) (fLst fs) :=
  ⟨fun {s σ H ι h Q} r x p => we_of (pe_lst pa_wa) (hg.next r x p fun ds h1 vs H1 ι1 s1 r1 x1 rvs p1 => by
    cases q : line ds.length with
    | false => rw [q] at p1; exact p1.elim
    | true =>
      rw [q] at p1
      have st : ∀ p, H1 p = none → Step ι1 ι1 H1 (upd H1 p (.lst vs)) := fun p n => Step.new n
      exact ⟨by rw [← rvs.len]; exact Nat.le_of_lt (line_ok q), fun p n => p1.use' (st p n) (x1.new n) _ (.lst upd_same (x1.fresh n) (rvs.step (st p n)))⟩)⟩
/-- a list that may be changed -/
def fLstN (g : FA) : FE := fun s h => (g s h).bind fun ds h1 => if line ds.length then .ok (.ref h1.length) (h1 ++ [.lst ds]) else .no
theorem re_lstN (hg : RA X W es fs) : RE X W (.List es pos) (fLstN fs) :=
  ⟨fun {s σ H ι h Q} r x p => we_of (pe_lst pa_wa) (hg.next r x p fun ds h1 vs H1 ι1 s1 r1 x1 rvs p1 => by
    cases q : line ds.length with
    | false => rw [q] at p1; exact p1.elim
    | true =>
      rw [q] at p1
      have st : ∀ p, H1 p = none → Step ι1 (ι1.add p) H1 (upd H1 p (.lst vs)) := fun p n => Step.place n
      exact ⟨by rw [← rvs.len]; exact Nat.le_of_lt (line_ok q), fun p n => p1.use' (st p n) (x1.place n ⟨vs, upd_same, rvs.step (st p n)⟩) _ (.ref (by show (ι1.pl ++ [p])[h1.length]? = some p; rw [← x1.len]; simp))⟩)⟩
/-! ### operators -/
/-- an operation by values -/
def rD (X : Cx) (op : Hh → D → D → Option D) : R2 := fun x y H Q => ∃ ι h dx dy d, HX X ι H h ∧ ReX X ι H dx x ∧ ReX X ι H dy y ∧ op h dx dy = some d ∧ ∀ z H', Step ι ι H H' → HX X ι H' h → ReX X ι H' d z → Q z H'
def fOp (op : Hh → D → D → Option D) (fa fb : FE) : FE := fun s h => (fa s h).bind fun x h1 => (fb s h1).bind fun y h2 => ofO h2 (op h2 x y)
theorem fop_core {op : Hh → D → D → Option D} (ha : RE X W a fa) (hb : RE X W b fb) {Q : VK} (r : SR X.K ι H s σ) (x : HX X ι H h) (p : Po X W σ ι H (fOp op fa fb s h) (fun d ι' H' => ∀ v, ReX X ι' H' d v → Q v H')) :
    tOp (rD X op) (We X a) (We X b) σ H Q :=
  ha.next r x p fun d h1 v H1 ι1 s1 r1 x1 rv p1 => hb.next r1 x1 p1 fun e h2 u H2 ι2 s2 r2 x2 ru p2 => by
    cases q : op h2 d e with
    | none => rw [q] at p2; exact p2.elim
    | some z =>
      rw [q] at p2
      exact ⟨ι2, h2, d, e, z, x2, rv.step s2, ru, q, fun w H3 s3 x3 r3 => p2.use' s3 x3 w r3⟩
theorem re_op {o : Operator} {op : Hh → D → D → Option D} (ho : OpR X (binaryOp o) (rD X op)) (ha : RE X W a fa) (hb : RE X W b fb) : RE X W (.BinOp a o b pos) (fOp op fa fb) :=
  ⟨fun r x p => we_of (pe_op ho pe_we pe_we) (fop_core ha hb r x p)⟩
theorem re_cmp {o : CmpOp} {op : Hh → D → D → Option D} (ho : OpR X (compareOp o) (rD X op)) (ha : RE X W a fa) (hb : RE X W b fb) (hm : behindInMarks o b = false) : RE X W (.Compare a [o] [b] pos) (fOp op fa fb) :=
  ⟨fun r x p => we_of (pe_cmpR ho pe_we pe_we hm) (fop_core ha hb r x p)⟩
/-- a value that is a bool, as a test -/
def blD : D → Option Bool
  | .bl b => some b
  | _ => none
def fB (f : FE) : FT := fun s h => (f s h).bind fun d h1 => ofO h1 (blD d)
theorem rt_cmp {o : CmpOp} {op : Hh → D → D → Option D} (ho : OpR X (compareOp o) (rD X op)) (ha : RE X W a fa) (hb : RE X W b fb) (hm : behindInMarks o b = false) : RT X W (.Compare a [o] [b] pos) (fB (fOp op fa fb)) :=
  ⟨fun {s σ H ι h Q} r x p => wt_of (pt_cmpR ho pe_we pe_we hm) (by
    show tOp (rD X op) (We X a) (We X b) σ H fun v H' => ∃ k, v = .bl k ∧ Q k H'
    refine fop_core ha hb r x ?_
    unfold fB at p
    cases q : fOp op fa fb s h with
    | no => rw [q] at p; exact p
    | ex y h1 => rw [q] at p; exact p
    | ok d h1 =>
      rw [q] at p
      intro H1 ι1 s1 x1 v rv
      cases d with
      | bl k => cases rv; exact ⟨k, rfl, p H1 ι1 s1 x1⟩
      | _ => exact p.elim)⟩
theorem rt_val {e : Expr} {f : FE} (t : RE X W e f) (he : ∀ whole, isTrue e X.env whole = (do let v ← whole; standAt e.pos; holding [v] (truthy v)) := by intro _; rfl) : RT X W e (fB f) :=
  ⟨fun {s σ H ι h Q} r x p => wt_of (pt_val pe_we he) (t.next r x p fun d h1 v H1 ι1 s1 r1 x1 rv p1 => by
    cases d with
    | bl k => cases rv; exact ⟨k, rfl, p1.use x1⟩
    | _ => exact p1.elim)⟩
end
end Lg
set_option Elab.async false
set_option linter.all false
set_option maxRecDepth 100000
namespace Lg
open PySem PySem.Spec PyProof.Rows L2
/-- what is read of a list -/
def asL (h : Hh) : D → Option (List D)
  | .lst l => some l
  | .ref n => match h[n]? with
    | some (.lst l) => some l
    | _ => none
  | _ => none
section
variable {X : Cx} {ι : Ix} {H : Hp} {h : Hh} {d e : D} {v u : V}
theorem asL_ok {l : List D} (x : HX X ι H h) (r : ReX X ι H d v) (e : asL h d = some l) : ∃ a xs, v = .ref a ∧ H a = some (.lst xs) ∧ Res X.K ι H l xs := by
  cases d with
  | lst l' =>
    cases e
    cases r with
    | lst h1 _ h2 => exact ⟨_, _, rfl, h1, h2⟩
  | ref n =>
    cases q : h[n]? with
    | none => simp [asL, q] at e
    | some o =>
      cases o with
      | lst l' =>
        simp only [asL, q, Option.some.injEq] at e
        subst e
        cases r with
        | ref hn =>
          obtain ⟨vs, h1, h2⟩ := x.at_ n _ _ hn q
          exact ⟨_, vs, rfl, h1, h2⟩
      | _ => simp [asL, q] at e
  | _ => cases e
/-- .. of a list or a tuple or what is frozen -/
def asS (h : Hh) : D → Option (List D)
  | .tup l => some l
  | .frt l => some l
  | .frz l => some l
  | d => asL h d
theorem asS_ok {l : List D} (x : HX X ι H h) (r : ReX X ι H d v) (e : asS h d = some l) : ∃ a xs, v = .ref a ∧ (SqL X.K H a xs ∨ SqT X.K H a xs) ∧ Res X.K ι H l xs := by
  cases d with
  | tup l' =>
    cases e
    cases r with
    | tup h1 _ h2 => exact ⟨_, _, rfl, .inr (.inl (.inl h1)), h2⟩
  | frt l' =>
    cases e
    cases r with
    | frt h1 h2 => exact ⟨_, _, rfl, .inr h1.sq, h2⟩
  | frz l' =>
    cases e
    cases r with
    | frz h1 h2 => exact ⟨_, _, rfl, .inl h1.sq, h2⟩
  | lst l' =>
    obtain ⟨a, xs, h1, h2, h3⟩ := asL_ok x r (show asL h _ = some l from e)
    exact ⟨a, xs, h1, .inl (.inl (.inl h2)), h3⟩
  | ref n =>
    obtain ⟨a, xs, h1, h2, h3⟩ := asL_ok x r (show asL h _ = some l from e)
    exact ⟨a, xs, h1, .inl (.inl (.inl h2)), h3⟩
  | _ => cases e
/-- a new thing -/
theorem fin_new {Q : VK} {z : D} {o : HO} (x : HX X ι H h) (q : ∀ w H', Step ι ι H H' → HX X ι H' h → ReX X ι H' z w → Q w H') {p : Addr} (n : H p = none) (r : Step ι ι H (upd H p o) → ι.out p → ReX X ι (upd H p o) z (.ref p)) : Q (.ref p) (upd H p o) :=
  q _ _ (Step.new n) (x.new n) (r (Step.new n) (x.fresh n))
end
/-! ### sums -/
def big (n : Nat) : Bool := decide (n ≤ 16000000)
def opAdd (h : Hh) : D → D → Option D
  | .int i, .int j => some (.int (i + j))
  | .str a, .str b => if line (a.length + b.length) then some (.str (a ++ b)) else none
  | .tup a, .tup b => if line (a.length + b.length) then some (.tup (a ++ b)) else none
  | x, y => match asL h x, asL h y with
    | some a, some b => if line (a.length + b.length) then some (.lst (a ++ b)) else none
    | _, _ => none
section
variable {X : Cx}
theorem o_add : OpR X (binaryOp .Add) (rD X opAdd) := by
  intro pins s σ H x y v u Q I rx ry hq
  obtain ⟨ι, h, dx, dy, d, hx, r1, r2, e, q⟩ := hq
  have lists : (match asL h dx, asL h dy with
    | some a, some b => if line (a.length + b.length) then some (D.lst (a ++ b)) else none
    | _, _ => none) = some d → wpAny (model X.prog X.w) X.A (binaryOp .Add v u) (EP X pins σ Q) X.xe s := fun e => by
    cases q1 : asL h dx with
    | none => rw [q1] at e; cases e
    | some a =>
      cases q2 : asL h dy with
      | none => rw [q1, q2] at e; cases e
      | some b =>
        rw [q1, q2] at e
        cases ln : line (a.length + b.length) with
        | false => simp [ln] at e
        | true =>
          simp [ln] at e
          subst e
          obtain ⟨p1, xs, rfl, hp1, s1⟩ := asL_ok hx r1 q1
          obtain ⟨p2, ys, rfl, hp2, s2⟩ := asL_ok hx r2 q2
          refine op_cat pins s σ H _ _ v u Q I rx ry ⟨p1, p2, xs, ys, rfl, rfl, hp1, hp2, ?_, fun p n => fin_new hx q n fun st np => .lst upd_same np ((s1.app s2).step st)⟩
          rw [← s1.len, ← s2.len]
          exact Nat.le_of_lt (line_ok ln)
  cases dx with
  | int i =>
    cases dy with
    | int j =>
      cases e
      cases r1
      cases r2
      exact op_add pins s σ H _ _ v u Q I rx ry ⟨i, j, rfl, rfl, q _ _ Step.refl hx (.int _)⟩
    | _ => exact lists e
  | str a =>
    cases dy with
    | str b =>
      cases ln : line (a.length + b.length) with
      | false => simp [opAdd, ln] at e
      | true =>
        simp [opAdd, ln] at e
        subst e
        cases r1
        cases r2
        exact op_add_str pins s σ H _ _ v u Q I rx ry ⟨a, b, rfl, rfl, Nat.le_of_lt (line_ok ln), q _ _ Step.refl hx (.str _)⟩
    | _ => exact lists e
  | tup a =>
    cases dy with
    | tup b =>
      cases ln : line (a.length + b.length) with
      | false => simp [opAdd, ln] at e
      | true =>
        simp [opAdd, ln] at e
        subst e
        cases r1 with
        | tup t1 n1 s1 =>
          cases r2 with
          | tup t2 n2 s2 =>
            refine op_catA pins s σ H _ _ v u Q I rx ry ⟨_, _, _, _, rfl, rfl, .inl (.inl t1), .inl (.inl t2), ?_, fun z => ?_, fun z1 z2 => ?_, fun z1 z2 p n => ?_⟩
            · rw [← s1.len, ← s2.len]
              exact Nat.le_of_lt (line_ok ln)
            · have : a = [] := List.eq_nil_of_length_eq_zero (by rw [s1.len, z]; rfl)
              subst this
              exact q _ _ Step.refl hx (.tup t2 n2 s2)
            · have : b = [] := List.eq_nil_of_length_eq_zero (by rw [s2.len, z2]; rfl)
              subst this
              rw [List.append_nil] at q
              exact q _ _ Step.refl hx (.tup t1 n1 s1)
            · exact fin_new hx q n fun st np => .tup upd_same np ((s1.app s2).step st)
    | _ => exact lists e
  | _ => exact lists e
/-! ### ints -/
def opI (g : Int → Int → Option Int) : Hh → D → D → Option D := fun _ x y => match x, y with
  | .int i, .int j => (g i j).map .int
  | _, _ => none
theorem o_int {f : Value → Value → Sem Value} {C : Int → Int → Prop} {k : Int → Int → V} {g : Int → Int → Option Int} (r : OpR X f (rI C k)) (hg : ∀ i j z, g i j = some z → C i j ∧ k i j = .int z) : OpR X f (rD X (opI g)) := by
  intro pins s σ H x y v u Q I rx ry hq
  obtain ⟨ι, h, dx, dy, d, hx, r1, r2, e, q⟩ := hq
  cases dx with
  | int i =>
    cases dy with
    | int j =>
      cases z : g i j with
      | none => simp [opI, z] at e
      | some m =>
        simp [opI, z] at e
        subst e
        cases r1
        cases r2
        obtain ⟨c, ek⟩ := hg i j m z
        exact r pins s σ H _ _ v u Q I rx ry ⟨i, j, rfl, rfl, c, ek ▸ q _ _ Step.refl hx (.int m)⟩
    | _ => simp [opI] at e
  | _ => simp [opI] at e
theorem o_int0 {f : Value → Value → Sem Value} {g : Int → Int → Int} (r : OpR X f (rI0 fun i j => .int (g i j))) : OpR X f (rD X (opI fun i j => some (g i j))) := by
  refine o_int (C := fun _ _ => True) (k := fun i j => .int (g i j)) (fun pins s σ H x y v u Q I rx ry ⟨i, j, e1, e2, _, q⟩ => r pins s σ H x y v u Q I rx ry ⟨i, j, e1, e2, q⟩) fun i j z e => ⟨trivial, by cases e; rfl⟩
theorem o_sub : OpR X (binaryOp .Sub) (rD X (opI fun i j => some (i - j))) := o_int0 op_sub
def sml (i : Int) : Bool := decide (-18446744073709551616 < i ∧ i < 18446744073709551616)
def gMul (i j : Int) : Option Int := if sml i || sml j then some (i * j) else none
theorem o_mulI : OpR X (binaryOp .Mult) (rD X (opI gMul)) := o_int op_mul fun i j z e => by
  unfold gMul at e
  split at e
  · rename_i c
    cases e
    refine ⟨?_, rfl⟩
    rcases (Bool.or_eq_true _ _ ▸ c) with c | c
    · exact .inl (by have := of_decide_eq_true c; exact ⟨this.1, this.2⟩)
    · exact .inr (by have := of_decide_eq_true c; exact ⟨this.1, this.2⟩)
  · cases e
def gMod (i j : Int) : Option Int := if 0 < j then some (i % j) else none
theorem o_mod : OpR X (binaryOp .Mod) (rD X (opI gMod)) := o_int op_mod fun i j z e => by
  unfold gMod at e
  split at e
  · rename_i c
    cases e
    exact ⟨c, rfl⟩
  · cases e
def gDiv (i j : Int) : Option Int := if 0 < j ∧ j < 1073741824 then some (i / j) else none
theorem o_div : OpR X (binaryOp .FloorDiv) (rD X (opI gDiv)) := o_int op_fdiv fun i j z e => by
  unfold gDiv at e
  split at e
  · rename_i c
    cases e
    exact ⟨c, rfl⟩
  · cases e
def gPow (i j : Int) : Option Int := if 0 ≤ j ∧ j ≤ 1000000 ∧ i.natAbs < 18446744073709551616 then some (i ^ j.toNat) else none
theorem o_pow : OpR X (binaryOp .Pow) (rD X (opI gPow)) := o_int op_pow fun i j z e => by
  unfold gPow at e
  split at e
  · rename_i c
    cases e
    exact ⟨c, rfl⟩
  · cases e
/-! ### products: ints, lists and tuples of one kind times an int -/
def opMul (h : Hh) : D → D → Option D
  | .int i, .int j => (gMul i j).map .int
  | x, .int k => match asL h x with
    | some l => if line (l.length * k.toNat) && sml k && decide (k < 9000000000000000000) then some (.lst (List.replicate k.toNat l).flatten) else none
    | none => none
  | _, _ => none
/-! ### comparisons of ints -/
def opB (g : Int → Int → Bool) : Hh → D → D → Option D := fun _ x y => match x, y with
  | .int i, .int j => some (.bl (g i j))
  | _, _ => none
theorem o_bool {f : Value → Value → Sem Value} {g : Int → Int → Bool} (r : OpR X f (rI0 fun i j => .bl (g i j))) : OpR X f (rD X (opB g)) := by
  intro pins s σ H x y v u Q I rx ry hq
  obtain ⟨ι, h, dx, dy, d, hx, r1, r2, e, q⟩ := hq
  cases dx with
  | int i =>
    cases dy with
    | int j =>
      cases e
      cases r1
      cases r2
      exact r pins s σ H _ _ v u Q I rx ry ⟨i, j, rfl, rfl, q _ _ Step.refl hx (.bl _)⟩
    | _ => cases e
  | _ => cases e
theorem o_lt : OpR X (compareOp .Lt) (rD X (opB fun i j => decide (i < j))) := o_bool op_lt
theorem o_le : OpR X (compareOp .LtE) (rD X (opB fun i j => decide (i ≤ j))) := o_bool op_le
theorem o_gt : OpR X (compareOp .Gt) (rD X (opB fun i j => decide (j < i))) := o_bool op_gt
theorem o_ge : OpR X (compareOp .GtE) (rD X (opB fun i j => decide (j ≤ i))) := o_bool op_ge
/-! ### is None -/
def isNon : D → Bool
  | .non => true
  | _ => false
theorem isNon_of {ι : Ix} {H : Hp} {d : D} {v : V} (r : ReX X ι H d v) : decide (v = .non) = isNon d := by
  cases r <;> rfl
def opIsN : Hh → D → D → Option D := fun _ x y => if isNon y then some (.bl (isNon x)) else none
def opIsNotN : Hh → D → D → Option D := fun _ x y => if isNon y then some (.bl (!isNon x)) else none
theorem o_isN : OpR X (compareOp .Is) (rD X opIsN) := by
  intro pins s σ H x y v u Q I rx ry hq
  obtain ⟨ι, h, dx, dy, d, hx, r1, r2, e, q⟩ := hq
  cases dy with
  | non =>
    cases e
    cases r2
    exact op_isN pins s σ H _ _ v u Q I rx ry ⟨rfl, by rw [isNon_of r1]; exact q _ _ Step.refl hx (.bl _)⟩
  | _ => cases e
theorem o_notN : OpR X (compareOp .IsNot) (rD X opIsNotN) := by
  intro pins s σ H x y v u Q I rx ry hq
  obtain ⟨ι, h, dx, dy, d, hx, r1, r2, e, q⟩ := hq
  cases dy with
  | non =>
    cases e
    cases r2
    exact op_notN pins s σ H _ _ v u Q I rx ry ⟨rfl, by rw [isNon_of r1]; exact q _ _ Step.refl hx (.bl _)⟩
  | _ => cases e
/-! ### data -/
/-- a value as data; n: how deep -/
def py (h : Hh) : Nat → D → Option PyData
  | 0, _ => none
  | n + 1, d => match d with
    | .non => some .none
    | .bl b => some (.bool b)
    | .int i => some (.int i)
    | .str x => some (.str x)
    | .tup l => (l.mapM (py h n)).map .tuple
    | .frt l => (l.mapM (py h n)).map .tuple
    | .lst l => (l.mapM (py h n)).map .list
    | .frz l => (l.mapM (py h n)).map .list
    | .ref k => match h[k]? with
      | some (.lst l) => (l.mapM (py h n)).map .list
      | _ => none
    | .dic _ _ => none
    | .fix _ => none
    | .exc _ _ _ _ => none
theorem dp_all {ι : Ix} {H : Hp} {g : D → Option PyData} (hg : ∀ d p v, g d = some p → ReX X ι H d v → Dp X.K H v p) : ∀ {l : List D} {ps : List PyData} {vs : List V}, l.mapM g = some ps → Res X.K ι H l vs → DpAll X.K H vs ps
  | [], ps, vs, e, r => by
    cases r
    simp at e
    subst e
    exact .nil
  | d :: l, ps, vs, e, r => by
    cases r with
    | cons r1 r2 =>
      simp only [List.mapM_cons, Option.bind_eq_bind, Option.bind_eq_some_iff, Option.pure_def, Option.some.injEq] at e
      obtain ⟨p, h1, ps', h2, e⟩ := e
      subst e
      exact .cons (hg _ _ _ h1 r1) (dp_all hg h2 r2)
theorem py_ok {ι : Ix} {H : Hp} {h : Hh} (x : HX X ι H h) : ∀ (n : Nat) (d : D) (p : PyData) (v : V), py h n d = some p → ReX X ι H d v → Dp X.K H v p
  | 0, _, _, _, e, _ => by cases e
  | n + 1, d, p, v, e, r => by
    have ih := py_ok x n
    cases d with
    | non => cases e; cases r; exact .non
    | bl b => cases e; cases r; exact .bl b
    | int i => cases e; cases r; exact .int i
    | str y => cases e; cases r; exact .str y
    | tup l =>
      obtain ⟨ps, e1, rfl⟩ := Option.map_eq_some_iff.mp (show (l.mapM (py h n)).map PyData.tuple = some p from e)
      cases r with
      | tup h1 _ h2 => exact .tup (.inl (.inl h1)) (dp_all ih e1 h2)
    | frt l =>
      obtain ⟨ps, e1, rfl⟩ := Option.map_eq_some_iff.mp (show (l.mapM (py h n)).map PyData.tuple = some p from e)
      cases r with
      | frt h1 h2 => exact .tup h1.sq (dp_all ih e1 h2)
    | lst l =>
      obtain ⟨ps, e1, rfl⟩ := Option.map_eq_some_iff.mp (show (l.mapM (py h n)).map PyData.list = some p from e)
      cases r with
      | lst h1 _ h2 => exact .lst (.inl (.inl h1)) (dp_all ih e1 h2)
    | frz l =>
      obtain ⟨ps, e1, rfl⟩ := Option.map_eq_some_iff.mp (show (l.mapM (py h n)).map PyData.list = some p from e)
      cases r with
      | frz h1 h2 => exact .lst h1.sq (dp_all ih e1 h2)
    | ref k =>
      cases q : h[k]? with
      | none => simp [py, q] at e
      | some o =>
        cases o with
        | lst l =>
          simp only [py, q] at e
          obtain ⟨ps, e1, rfl⟩ := Option.map_eq_some_iff.mp e
          cases r with
          | ref hn =>
            obtain ⟨vs, h1, h2⟩ := x.at_ k _ _ hn q
            exact .lst (.inl (.inl h1)) (dp_all ih e1 h2)
        | _ => simp [py, q] at e
    | dic t l => cases e
    | fix a => cases e
    | exc _ _ _ _ => cases e
def eqP (h : Hh) (x y : D) : Option Bool := match py h 66 x, py h 66 y with
  | some p, some q => if SeqAt.shaped p && SeqAt.shaped q then some (PyData.eqv p q) else none
  | _, _ => none
def opEq (h : Hh) (x y : D) : Option D := (eqP h x y).map .bl
def opNe (h : Hh) (x y : D) : Option D := (eqP h x y).map fun b => .bl (!b)
theorem eqP_ok {ι : Ix} {H : Hp} {h : Hh} {dx dy : D} {x y : V} {b : Bool} (hx : HX X ι H h) (r1 : ReX X ι H dx x) (r2 : ReX X ι H dy y) (e : eqP h dx dy = some b) :
    ∃ p q, Dp X.K H x p ∧ Dp X.K H y q ∧ SeqAt.shaped p = true ∧ SeqAt.shaped q = true ∧ b = PyData.eqv p q := by
  unfold eqP at e
  cases q1 : py h 66 dx with
  | none => rw [q1] at e; cases e
  | some p =>
    cases q2 : py h 66 dy with
    | none => rw [q1, q2] at e; cases e
    | some q =>
      rw [q1, q2] at e
      cases z1 : SeqAt.shaped p <;> cases z2 : SeqAt.shaped q <;> simp [z1, z2] at e
      exact ⟨p, q, py_ok hx 66 _ _ _ q1 r1, py_ok hx 66 _ _ _ q2 r2, z1, z2, e.symm⟩
theorem o_eq (hu : X.A.units + 64 < cLine) : OpR X (compareOp .Eq) (rD X opEq) := by
  intro pins s σ H x y v u Q I rx ry hq
  obtain ⟨ι, h, dx, dy, d, hx, r1, r2, e, q⟩ := hq
  obtain ⟨b, e1, rfl⟩ := Option.map_eq_some_iff.mp e
  obtain ⟨p1, p2, d1, d2, s1, s2, rfl⟩ := eqP_ok hx r1 r2 e1
  exact op_eqD hu pins s σ H _ _ v u Q I rx ry ⟨p1, p2, d1, d2, s1, s2, q _ _ Step.refl hx (.bl _)⟩
theorem o_ne (hu : X.A.units + 64 < cLine) : OpR X (compareOp .NotEq) (rD X opNe) := by
  intro pins s σ H x y v u Q I rx ry hq
  obtain ⟨ι, h, dx, dy, d, hx, r1, r2, e, q⟩ := hq
  obtain ⟨b, e1, rfl⟩ := Option.map_eq_some_iff.mp e
  obtain ⟨p1, p2, d1, d2, s1, s2, rfl⟩ := eqP_ok hx r1 r2 e1
  exact op_neD hu pins s σ H _ _ v u Q I rx ry ⟨p1, p2, d1, d2, s1, s2, q _ _ Step.refl hx (.bl _)⟩
end
end Lg
set_option Elab.async false
set_option linter.all false
set_option maxRecDepth 100000
namespace Lg
open PySem PySem.Spec PyProof.Rows L2
/-! ### dicts -/
def kEq0 : D → D → Bool
  | .int i, .int j => decide (i = j)
  | .str x, .str y => decide (x = y)
  | _, _ => false
def kEqs : List D → List D → Bool
  | [], [] => true
  | d :: ds, e :: es => kEq0 d e && kEqs ds es
  | _, _ => false
def kEq : D → D → Bool
  | .tup a, .tup b => kEqs a b
  | a, b => kEq0 a b
theorem keyD_eq {a b : D} {k j : Key} (ha : keyD a = some k) (hb : keyD b = some j) : kEq0 a b = decide (k = j) := by
  cases a <;> cases ha <;> cases b <;> cases hb <;> simp [kEq0]
theorem keysD_eq : ∀ {a b : List D} {k j : List Key}, keysD a = some k → keysD b = some j → kEqs a b = decide (k = j)
  | [], [], _, _, h1, h2 => by cases h1; cases h2; rfl
  | [], e :: es, _, _, h1, h2 => by
    cases h1
    simp only [keysD, Option.bind_eq_bind, Option.bind_eq_some_iff, Option.some.injEq] at h2
    obtain ⟨x, _, y, _, rfl⟩ := h2
    rfl
  | d :: ds, [], _, _, h1, h2 => by
    cases h2
    simp only [keysD, Option.bind_eq_bind, Option.bind_eq_some_iff, Option.some.injEq] at h1
    obtain ⟨x, _, y, _, rfl⟩ := h1
    rfl
  | d :: ds, e :: es, _, _, h1, h2 => by
    simp only [keysD, Option.bind_eq_bind, Option.bind_eq_some_iff, Option.some.injEq] at h1 h2
    obtain ⟨x, hx, y, hy, rfl⟩ := h1
    obtain ⟨z, hz, t, ht, rfl⟩ := h2
    simp only [kEqs, keyD_eq hx hz, keysD_eq hy ht, List.cons.injEq]
    rw [Bool.eq_iff_iff]
    simp
/-- what a dict holds at a key -/
def look : List (D × D) → D → Option D
  | [], _ => none
  | (k, v) :: l, d => if kEq k d then some v else look l d
/-- is it a key for that kind of dict -/
def keyOk (t : Bool) (d : D) : Bool := match t, d with
  | false, d => (keyD d).isSome
  | true, .tup l => (keysD l).isSome
  | true, _ => false
def asD (h : Hh) : D → Option (Bool × List (D × D))
  | .dic t l => some (t, l)
  | .ref n => match h[n]? with
    | some (.dic t l) => some (t, l)
    | _ => none
  | _ => none
section
variable {X : Cx} {ι : Ix} {H : Hp} {h : Hh} {d e : D} {v u : V}
theorem asD_ok {t : Bool} {l : List (D × D)} (x : HX X ι H h) (r : ReX X ι H d v) (e : asD h d = some (t, l)) :
    ∃ a, v = .ref a ∧ ((t = false ∧ ∃ kvs, H a = some (.dK kvs) ∧ ReK X.K ι H l kvs) ∨ (t = true ∧ ∃ kvs, H a = some (.dT kvs) ∧ ReT X.K ι H l kvs)) := by
  cases d with
  | dic t' l' =>
    cases e
    cases r with
    | dicK h1 _ h2 => exact ⟨_, rfl, .inl ⟨rfl, _, h1, h2⟩⟩
    | dicT h1 _ h2 => exact ⟨_, rfl, .inr ⟨rfl, _, h1, h2⟩⟩
  | ref n =>
    cases q : h[n]? with
    | none => simp [asD, q] at e
    | some o =>
      cases o with
      | dic t' l' =>
        simp only [asD, q, Option.some.injEq, Prod.mk.injEq] at e
        obtain ⟨rfl, rfl⟩ := e
        cases r with
        | ref hn =>
          have y := x.at_ n _ _ hn q
          cases t' with
          | false => obtain ⟨kvs, h1, h2⟩ := y; exact ⟨_, rfl, .inl ⟨rfl, kvs, h1, h2⟩⟩
          | true => obtain ⟨kvs, h1, h2⟩ := y; exact ⟨_, rfl, .inr ⟨rfl, kvs, h1, h2⟩⟩
      | _ => simp [asD, q] at e
  | _ => cases e
theorem keyD_V {k : Key} (e : keyD d = some k) (r : ReX X ι H d v) : v = kV k := by
  cases d <;> cases e <;> cases r <;> rfl
theorem keysD_V : ∀ {l : List D} {ks : List Key} {vs : List V}, keysD l = some ks → Res X.K ι H l vs → vs = ks.map kV
  | [], _, _, e, r => by cases e; cases r; rfl
  | d :: l, _, _, e, r => by
    cases r with
    | cons r1 r2 =>
      simp only [keysD, Option.bind_eq_bind, Option.bind_eq_some_iff, Option.some.injEq] at e
      obtain ⟨x, hx, y, hy, rfl⟩ := e
      rw [keyD_V hx r1, keysD_V hy r2]
      rfl
def RO (X : Cx) (ι : Ix) (H : Hp) : Option D → Option V → Prop
  | some d, some v => ReX X ι H d v
  | none, none => True
  | _, _ => False
theorem lookK {k : Key} : ∀ {l : List (D × D)} {kvs : List (Key × V)}, ReK X.K ι H l kvs → keyD d = some k → RO X ι H (look l d) (valV kvs k)
  | _, _, .nil, _ => trivial
  | _, _, .cons (k := k') (key := key) (v := w) (kvs := kvs) e1 r rr, e => by
    have z : kEq k' d = decide (key = k) := by
      rw [← keyD_eq e1 e]
      cases k' <;> cases e1 <;> rfl
    by_cases hk : key = k
    · rw [valV_pos (p := (key, w)) hk]
      simp only [look, z, hk, decide_true, if_true]
      exact r
    · rw [valV_neg (p := (key, w)) hk]
      simp only [look, z, hk, decide_false, Bool.false_eq_true, if_false]
      exact lookK rr e
theorem lookT {k : List Key} {ds : List D} : ∀ {l : List (D × D)} {kvs : List (List Key × V)}, ReT X.K ι H l kvs → keysD ds = some k → RO X ι H (look l (.tup ds)) (valV kvs k)
  | _, _, .nil, _ => trivial
  | _, _, .cons (ks := k') (keys := key) (v := w) (kvs := kvs) e1 r rr, e => by
    have z : kEq (.tup k') (.tup ds) = decide (key = k) := keysD_eq e1 e
    by_cases hk : key = k
    · rw [valV_pos (p := (key, w)) hk]
      simp only [look, z, hk, decide_true, if_true]
      exact r
    · rw [valV_neg (p := (key, w)) hk]
      simp only [look, z, hk, decide_false, Bool.false_eq_true, if_false]
      exact lookT rr e
theorem RO.some {o : Option D} {p : Option V} (r : RO X ι H o p) : o.isSome = p.isSome := by
  cases o <;> cases p <;> first | rfl | exact r.elim
/-- what is read of a dict -/
theorem get_ok {t : Bool} {l : List (D × D)} {dk : D} {k : V} (x : HX X ι H h) (r : ReX X ι H d v) (rk : ReX X ι H dk k) (e : asD h d = some (t, l)) (ok : keyOk t dk = true) : ∃ a o, v = .ref a ∧ DGet H a k o ∧ RO X ι H (look l dk) o := by
  obtain ⟨a, rfl, ⟨rfl, kvs, h1, h2⟩ | ⟨rfl, kvs, h1, h2⟩⟩ := asD_ok x r e
  · obtain ⟨key, ek⟩ := Option.isSome_iff_exists.mp (show (keyD dk).isSome = true from ok)
    refine ⟨a, _, rfl, ?_, lookK h2 ek⟩
    rw [keyD_V ek rk]
    exact DGet.k h1
  · cases dk with
    | tup ds =>
      obtain ⟨key, ek⟩ := Option.isSome_iff_exists.mp (show (keysD ds).isSome = true from ok)
      cases rk with
      | tup t1 _ t2 =>
        refine ⟨a, _, rfl, ?_, lookT h2 ek⟩
        rw [keysD_V ek t2] at t1
        exact DGet.t h1 t1
    | _ => cases ok
end
/-! ### a[b] -/
def atD (l : List D) (i : Int) : Option D := atI l i
def opIx (h : Hh) (x y : D) : Option D := match asD h x with
  | some (t, l) => if keyOk t y then look l y else none
  | none => match x, y with
    | .str z, .int i => if line z.length then (atI z.cps.toList i).map fun c => .str ⟨#[c]⟩ else none
    | x, .int i => (asS h x).bind fun l => atD l i
    | _, _ => none
section
variable {X : Cx}
theorem atI_res {ι : Ix} {H : Hp} {l : List D} {vs : List V} {i : Int} {d : D} (r : Res X.K ι H l vs) (e : atD l i = some d) : ∃ v, atI vs i = some v ∧ ReX X ι H d v := by
  unfold atD atI at e
  unfold atI
  rw [← r.len]
  cases q : ixN l.length i with
  | none => rw [q] at e; cases e
  | some j =>
    rw [q] at e
    exact r.get e
theorem dict_tail {X : Cx} {pins : List (Addr × Obj)} {s : Shared} {σ : L2.St} {H : Hp} {value slice : Expr} {a : Addr} {u : Value} {y w : V} {Q : VK} (hu : X.A.units + 1 < cLine) (I : Inv X pins σ H s) (g : DGet H a y (some w)) (ry : RelV y u) (q : Q w H)
    (hs : subscripted slice false (.ref a) u = operate [.ref a, u] (getItem (.ref a) u)) : wpAny (model X.prog X.w) X.A (subscriptTail value slice (.ref a) u) (EP X pins σ Q) X.xe s := by
  have hT := dict_typeIs I g
  unfold subscriptTail
  refine wpAny_bind ?_
  rw [getitemInPython_of_ne hT.not_modules]
  refine wpAny_bind (wpAny_specialOf hT PySem.F.slot_dict_getitem.lookup ?_)
  have fin : wpAny (model X.prog X.w) X.A (subscripted slice false (.ref a) u) (fun r s₃ => wpAny (model X.prog X.w) X.A (letTemporaryGo value (.ref a) r >>= fun _ => pure r) (EP X pins σ Q) X.xe s₃) X.xe s := by
    rw [hs]
    exact wpAny_operating (wpAny_mono (d_getItem hu I g ry fun w' s3 I3 rw' => (⟨w, H, I3, rw', q⟩ : EP X pins σ Q w' s3)) (fun r s₃ h₃ => wpAny_bind (wpAny_letTemporaryGo (wpAny_pure h₃))) fun _ _ x => x)
  first
    | exact wpAny_pure (wpAny_bind fin)
    | exact wpAny_bind (wpAny_pure (wpAny_bind fin))
    | exact wpAny_bind fin
theorem ix_D (hu : X.A.units + 1 < cLine) : IxR X (rD X opIx) := by
  intro value slice pins s σ H x y v u Q I rx ry hq hs
  obtain ⟨ι, h, dx, dy, d, hx, r1, r2, e, q⟩ := hq
  unfold opIx at e
  cases q1 : asD h dx with
  | some tl =>
    obtain ⟨t, l⟩ := tl
    simp only [q1] at e
    cases ok : keyOk t dy with
    | false => simp [ok] at e
    | true =>
      simp only [ok, if_true] at e
      obtain ⟨a, o, rfl, g, ro⟩ := get_ok hx r1 r2 q1 ok
      rw [e] at ro
      cases o with
      | none => exact ro.elim
      | some w =>
        cases rx
        exact dict_tail hu I g ry (q w H Step.refl hx ro) hs
  | none =>
    simp only [q1] at e
    have seq : ∀ i, dy = .int i → ((asS h dx).bind fun l => atD l i) = some d → wpAny (model X.prog X.w) X.A (subscriptTail value slice v u) (EP X pins σ Q) X.xe s := fun i ei e0 => by
      subst ei
      clear e
      obtain ⟨l, e1, e2⟩ := Option.bind_eq_some_iff.mp e0
      obtain ⟨a, xs, rfl, hs', rs⟩ := asS_ok hx r1 e1
      obtain ⟨w, h1, h2⟩ := atI_res rs e2
      cases r2
      rcases hs' with hs' | hs'
      · exact ix_list value slice pins s σ H _ _ v u Q I rx ry ⟨a, xs, i, w, rfl, rfl, hs', h1, q w H Step.refl hx h2⟩ hs
      · exact ix_tup value slice pins s σ H _ _ v u Q I rx ry ⟨a, xs, i, w, rfl, rfl, hs', h1, q w H Step.refl hx h2⟩ hs
    cases dy with
    | int i =>
      cases dx with
      | str z =>
        cases ln : line z.length with
        | false => simp [ln] at e
        | true =>
          simp only [ln, if_true] at e
          obtain ⟨c, e1, rfl⟩ := Option.map_eq_some_iff.mp e
          cases r1
          cases r2
          exact ix_str value slice pins s σ H _ _ v u Q I rx ry ⟨z, i, c, rfl, rfl, Nat.le_of_lt (line_ok ln), e1, q _ H Step.refl hx (.str _)⟩ hs
      | _ => exact seq i rfl e
    | _ => simp at e
variable {W : WX} {a b c : Expr} {fa fb fc : FE} {pos : Pos}
theorem re_ix (hu : X.A.units + 1 < cLine) (ha : RE X W a fa) (hb : RE X W b fb) (hs : PlainIx b := by exact fun _ _ => rfl) : RE X W (.Subscript a b pos) (fOp opIx fa fb) :=
  ⟨fun r x p => we_of (pe_ix (ix_D hu) pe_we pe_we hs) (fop_core ha hb r x p)⟩
/-! ### in, not in -/
def flatD : D → Bool
  | .non => true | .bl _ => true | .int _ => true | .str _ => true
  | _ => false
def eqF : D → D → Bool
  | .non, .non => true
  | .bl a, .bl b => a == b
  | .bl a, .int b => (if a then 1 else 0) == b
  | .int a, .bl b => a == (if b then 1 else 0)
  | .int a, .int b => a == b
  | .str a, .str b => a == b
  | _, _ => false
theorem flat_V {ι : Ix} {H : Hp} {d : D} {v : V} (r : ReX X ι H d v) (f : flatD d = true) : flatV v = true := by
  cases r <;> first | rfl | cases f
theorem eqF_V {ι : Ix} {H : Hp} {d e : D} {v w : V} (r : ReX X ι H d v) (s : ReX X ι H e w) (f : flatD d = true) (g : flatD e = true) : eqF d e = eqV v w := by
  cases r <;> first | (cases f; done) | (cases s <;> first | (cases g; done) | rfl)
theorem any_V {ι : Ix} {H : Hp} {d : D} {v : V} (r : ReX X ι H d v) (f : flatD d = true) : ∀ {l : List D} {vs : List V}, Res X.K ι H l vs → l.all flatD = true → vs.all flatV = true ∧ (l.any fun e => eqF e d) = inV v vs
  | _, _, .nil, _ => ⟨rfl, rfl⟩
  | _, _, .cons r1 r2, g => by
    simp only [List.all_cons, Bool.and_eq_true] at g
    obtain ⟨h1, h2⟩ := any_V r f r2 g.2
    refine ⟨by simp [flat_V r1 g.1, h1], ?_⟩
    simp only [List.any_cons, inV, eqF_V r1 r g.1 f]
    rw [h2]
    rfl
/-- is x among y: in a dict, in a list or tuple of flat things, in a list of data, in a text -/
def isIn (h : Hh) (x y : D) : Option Bool := match asD h y with
  | some (t, l) => if keyOk t x then some (look l x).isSome else none
  | none => match asS h y with
    | some l => if flatD x && l.all flatD then some (l.any fun e => eqF e x) else match asL h y, py h 66 x, py h 66 y with
      | some _, some p, some (.list ps) => if SeqAt.shaped p && SeqAt.shaped (.list ps) then some (ps.any fun z => PyData.eqv z p) else none
      | _, _, _ => none
    | none => match x, y with
      | .str i, .str j => some (!(Builtin.Str.occurrences j i 0 j.length 1).isEmpty)
      | _, _ => none
def opIn (h : Hh) (x y : D) : Option D := (isIn h x y).map .bl
def opNi (h : Hh) (x y : D) : Option D := (isIn h x y).map fun b => .bl (!b)
theorem isIn_cases {ι : Ix} {H : Hp} {h : Hh} {dx dy : D} {x y : V} {b : Bool} (hx : HX X ι H h) (r1 : ReX X ι H dx x) (r2 : ReX X ι H dy y) (e : isIn h dx dy = some b) :
    (∃ a o, y = .ref a ∧ DGet H a x o ∧ b = o.isSome) ∨ (∃ a xs, y = .ref a ∧ (SqL X.K H a xs ∨ SqT X.K H a xs) ∧ flatV x = true ∧ xs.all flatV = true ∧ b = inV x xs) ∨
    (∃ p ps, Dp X.K H x p ∧ Dp X.K H y (.list ps) ∧ SeqAt.shaped p = true ∧ SeqAt.shaped (.list ps) = true ∧ b = (ps.any fun z => PyData.eqv z p)) ∨ (∃ i j, x = .str i ∧ y = .str j ∧ b = !(Builtin.Str.occurrences j i 0 j.length 1).isEmpty) := by
  unfold isIn at e
  cases q1 : asD h dy with
  | some tl =>
    obtain ⟨t, l⟩ := tl
    simp only [q1] at e
    cases ok : keyOk t dx with
    | false => simp [ok] at e
    | true =>
      simp only [ok, if_true, Option.some.injEq] at e
      obtain ⟨a, o, rfl, g, ro⟩ := get_ok hx r2 r1 q1 ok
      exact .inl ⟨a, o, rfl, g, by rw [← e, ro.some]⟩
  | none =>
    simp only [q1] at e
    cases q2 : asS h dy with
    | some l =>
      simp only [q2] at e
      cases f : (flatD dx && l.all flatD) with
      | true =>
        simp only [f, if_true, Option.some.injEq] at e
        rw [Bool.and_eq_true] at f
        obtain ⟨a, xs, rfl, hs, rs⟩ := asS_ok hx r2 q2
        obtain ⟨h1, h2⟩ := any_V r1 f.1 rs f.2
        exact .inr (.inl ⟨a, xs, rfl, hs, flat_V r1 f.1, h1, by rw [← e, h2]⟩)
      | false =>
        simp only [f, Bool.false_eq_true, if_false] at e
        split at e
        · rename_i q3 q4 q5
          split at e
          · rename_i z
            rw [Bool.and_eq_true] at z
            exact .inr (.inr (.inl ⟨_, _, py_ok hx 66 _ _ _ q4 r1, py_ok hx 66 _ _ _ q5 r2, z.1, z.2, (Option.some.inj e).symm⟩))
          · cases e
        · cases e
    | none =>
      simp only [q2] at e
      split at e
      · cases e
        cases r1
        cases r2
        exact .inr (.inr (.inr ⟨_, _, rfl, rfl, rfl⟩))
      · cases e
theorem o_in (hu : X.A.units + 65 < cLine) : OpR X (compareOp .In) (rD X opIn) := by
  intro pins s σ H x y v u Q I rx ry hq
  obtain ⟨ι, h, dx, dy, d, hx, r1, r2, e, q⟩ := hq
  obtain ⟨b, e1, rfl⟩ := Option.map_eq_some_iff.mp e
  have fin := q (.bl b) H Step.refl hx (.bl b)
  rcases isIn_cases hx r1 r2 e1 with ⟨a, o, rfl, g, rfl⟩ | ⟨a, xs, rfl, hs, f1, f2, rfl⟩ | ⟨p, ps, d1, d2, s1, s2, rfl⟩ | ⟨i, j, rfl, rfl, rfl⟩
  · cases ry
    exact d_in (Nat.lt_of_le_of_lt (by omega) hu) I g rx fun s3 I3 => ⟨.bl o.isSome, H, I3, rfl, fin⟩
  · exact op_in_seq pins s σ H _ _ v u Q I rx ry ⟨a, xs, rfl, hs, f1, f2, fin⟩
  · exact op_inD hu pins s σ H _ _ v u Q I rx ry ⟨p, ps, d1, d2, s1, s2, fin⟩
  · exact op_in_str pins s σ H _ _ v u Q I rx ry ⟨i, j, rfl, rfl, fin⟩
theorem o_ni (hu : X.A.units + 65 < cLine) : OpR X (compareOp .NotIn) (rD X opNi) := by
  intro pins s σ H x y v u Q I rx ry hq
  obtain ⟨ι, h, dx, dy, d, hx, r1, r2, e, q⟩ := hq
  obtain ⟨b, e1, rfl⟩ := Option.map_eq_some_iff.mp e
  have fin := q (.bl (!b)) H Step.refl hx (.bl (!b))
  rcases isIn_cases hx r1 r2 e1 with ⟨a, o, rfl, g, rfl⟩ | ⟨a, xs, rfl, hs, f1, f2, rfl⟩ | ⟨p, ps, d1, d2, s1, s2, rfl⟩ | ⟨i, j, rfl, rfl, rfl⟩
  · cases ry
    exact d_notIn (Nat.lt_of_le_of_lt (by omega) hu) I g rx fun s3 I3 => ⟨.bl (!o.isSome), H, I3, rfl, fin⟩
  · exact op_notIn_seq pins s σ H _ _ v u Q I rx ry ⟨a, xs, rfl, hs, f1, f2, fin⟩
  · exact op_notInD hu pins s σ H _ _ v u Q I rx ry ⟨p, ps, d1, d2, s1, s2, fin⟩
  · exact op_notIn_str pins s σ H _ _ v u Q I rx ry ⟨i, j, rfl, rfl, fin⟩
/-! ### slices -/
def cutD (xs : List D) (lo hi : Option Int) : List D := (xs.drop (HT.sIx xs.length 0 lo)).take (HT.sIx xs.length xs.length hi - HT.sIx xs.length 0 lo)
abbrev FO := S → Hh → Oc (Option Int)
def fO0 : FO := fun _ h => .ok none h
def intD : D → Option Int
  | .int i => some i
  | _ => none
def fO (f : FE) : FO := fun s h => (f s h).bind fun d h1 => (ofO h1 (intD d)).bind fun i h2 => .ok (some i) h2
/-- a list, frozen or not -/
def asF (h : Hh) : D → Option (List D)
  | .frz l => some l
  | d => asL h d
theorem asF_ok {ι : Ix} {H : Hp} {h : Hh} {d : D} {v : V} {l : List D} (x : HX X ι H h) (r : ReX X ι H d v) (e : asF h d = some l) : ∃ a xs, v = .ref a ∧ SqL X.K H a xs ∧ Res X.K ι H l xs := by
  cases d with
  | frz l' =>
    cases e
    cases r with
    | frz h1 h2 => exact ⟨_, _, rfl, h1.sq, h2⟩
  | lst l' =>
    obtain ⟨a, xs, h1, h2, h3⟩ := asL_ok x r (show asL h _ = some l from e)
    exact ⟨a, xs, h1, .inl (.inl h2), h3⟩
  | ref n =>
    obtain ⟨a, xs, h1, h2, h3⟩ := asL_ok x r (show asL h _ = some l from e)
    exact ⟨a, xs, h1, .inl (.inl h2), h3⟩
  | _ => cases e
def opSl (h : Hh) (x : D) (lo hi : Option Int) : Option D := match x with
  | .tup l => some (.tup (cutD l lo hi))
  | x => (asF h x).map fun l => .lst (cutD l lo hi)
def fSl (f : FE) (l u : FO) : FE := fun s h => (f s h).bind fun x h1 => (l s h1).bind fun lo h2 => (u s h2).bind fun hi h3 => ofO h3 (opSl h3 x lo hi)
theorem Res.cut {ι : Ix} {H : Hp} {l : List D} {vs : List V} (r : Res X.K ι H l vs) (lo hi : Option Int) : Res X.K ι H (cutD l lo hi) (cutV vs lo hi) := by
  unfold cutD cutV
  rw [r.len]
  exact (r.drop _).take _
structure RO' (X : Cx) (W : WX) (e : Option Expr) (f : FO) : Prop where
  run : ∀ {s : S} {σ : L2.St} {H : Hp} {ι : Ix} {h : Hh} {Q : Option Int → Hp → Prop} {β : Type} {k : Option Int → Hh → Oc β} {G : β → Ix → Hp → Prop}, SR X.K ι H s σ → HX X ι H h → Po X W σ ι H ((f s h).bind k) G →
    (∀ o h1 H1 ι1, Step ι ι1 H H1 → SR X.K ι1 H1 s σ → HX X ι1 H1 h1 → Po X W σ ι1 H1 (k o h1) G → Q o H1) →
    ∀ (pins : List (Addr × Obj)) (sh : Shared), Inv X pins σ H sh → wpAny (model X.prog X.w) X.A (evalPart e X.env) (fun u s' => ∃ o H', Inv X pins σ H' s' ∧ IsPart u o ∧ Q o H') X.xe sh
theorem ro_none : RO' X W none fO0 := ⟨fun r x p n pins sh I => (po_none (X := X)).run pins sh _ _ _ I (n none _ _ _ Step.refl r x p)⟩
theorem ro_some {e : Expr} {f : FE} (t : RE X W e f) : RO' X W (some e) (fO f) := ⟨fun {s σ H ι h Q β k G} r x p n pins sh I => (po_some (X := X) pe_we).run pins sh σ H Q I (by
  have p' : Po X W σ ι H ((f s h).bind fun d h1 => ((ofO h1 (intD d)).bind fun i h2 => Oc.ok (some i) h2).bind k) G := by
    unfold fO at p
    cases q : f s h with
    | ok d h1 => rw [q] at p; exact p
    | ex y h1 => rw [q] at p; exact p
    | no => rw [q] at p; exact p
  refine t.next r x p' fun d h1 v H1 ι1 s1 r1 x1 rv p1 => ?_
  cases d with
  | int i => cases rv; exact ⟨i, rfl, n _ _ _ _ s1 r1 x1 p1⟩
  | _ => exact p1.elim)⟩
/-- a part of a slice, semantically -/
def Wo (X : Cx) (e : Option Expr) : TO := fun σ H Q => ∀ (pins : List (Addr × Obj)) (s : Shared), Inv X pins σ H s → wpAny (model X.prog X.w) X.A (evalPart e X.env) (fun u s' => ∃ o H', Inv X pins σ H' s' ∧ IsPart u o ∧ Q o H') X.xe s
theorem po_wo {e : Option Expr} : PO X e (Wo X e) := ⟨fun pins s σ H Q I h => h pins s I⟩
theorem sl_D : SlR X (fun x lo hi H Q => ∃ ι h dx d, HX X ι H h ∧ ReX X ι H dx x ∧ opSl h dx lo hi = some d ∧ ∀ z H', Step ι ι H H' → HX X ι H' h → ReX X ι H' d z → Q z H') := by
  intro pins s σ H x v vl vu lo hi sl Q I rx hs pl pu hq
  obtain ⟨ι, h, dx, d, hx, r1, e, q⟩ := hq
  have lists : ((asF h dx).map fun l => D.lst (cutD l lo hi)) = some d → ∃ T id, typeLookup (.type T) "__getitem__" = pure (some (.builtin id)) ∧ s.TypeIs v T ∧ wpAny (model X.prog X.w) X.A (getItem v (.ref sl)) (EP X pins σ Q) X.xe s := fun e => by
    obtain ⟨l, e1, rfl⟩ := Option.map_eq_some_iff.mp e
    obtain ⟨a, xs, rfl, hL, rs⟩ := asF_ok hx r1 e1
    exact sl_list pins s σ H _ v vl vu lo hi sl Q I rx hs pl pu ⟨a, xs, rfl, hL, fun p n => fin_new hx q n fun st np => .lst upd_same np ((rs.cut lo hi).step st)⟩
  cases dx with
  | tup l =>
    cases e
    cases r1 with
    | tup t1 n1 t2 =>
      refine sl_tupA pins s σ H _ v vl vu lo hi sl Q I rx hs pl pu ⟨_, _, rfl, .inl (.inl t1), fun z => ?_, fun z p n => fin_new hx q n fun st np => .tup upd_same np ((t2.cut lo hi).step st)⟩
      have : cutD l lo hi = l := by
        unfold cutD
        rw [t2.len, z.1, z.2, List.drop_zero, Nat.sub_zero, ← t2.len, List.take_length]
      rw [this] at q
      exact q _ H Step.refl hx (.tup t1 n1 t2)
  | _ => exact lists e
theorem re_sl {a : Expr} {fa : FE} {lo hi : Option Expr} {fl fu : FO} {p2 pos : Pos} (ha : RE X W a fa) (hl : RO' X W lo fl) (hu : RO' X W hi fu) : RE X W (.Subscript a (.Slice lo hi none p2) pos) (fSl fa fl fu) :=
  ⟨fun {s σ H ι h Q} r x p => we_of (pe_slice sl_D pe_we po_wo po_wo) (ha.next r x p fun d h1 v H1 ι1 s1 r1 x1 rv p1 => hl.run r1 x1 p1 fun lo h2 H2 ι2 s2 r2 x2 p2 => hu.run r2 x2 p2 fun hi h3 H3 ι3 s3 r3 x3 p3 => by
    cases e : opSl h3 d lo hi with
    | none => rw [e] at p3; exact p3.elim
    | some z =>
      rw [e] at p3
      exact ⟨ι3, h3, d, z, x3, (rv.step s2).step s3, e, fun w H4 s4 x4 r4 => p3.use' s4 x4 w r4⟩)⟩
/-- t[::-1] of a list -/
def fRev (f : FE) : FE := fun s h => (f s h).bind fun d h1 => ofO h1 ((asF h1 d).map fun l => .lst l.reverse)
theorem re_revL {e : Expr} {f : FE} {k : Nat} {p1 p2 p3 pos : Pos} (he : RE X W e f) : RE X W (.Subscript e (.Slice none none (some (.UnaryOp .USub (.Constant (.int 1) k p1) p2)) p3) pos) (fRev f) :=
  ⟨fun {s σ H ι h Q} r x p => we_of (pe_revL pe_we) (he.next r x p fun d h1 v H1 ι1 s1 r1 x1 rv p1 => by
    cases e : asF h1 d with
    | none => rw [e] at p1; exact p1.elim
    | some l =>
      rw [e] at p1
      obtain ⟨a, xs, rfl, hL, rs⟩ := asF_ok x1 rv e
      exact ⟨a, xs, rfl, hL, fun p n => p1.use' (Step.new n) (x1.new n) _ (.lst upd_same (x1.fresh n) (rs.rev.step (Step.new n)))⟩)⟩
/-- .. a new list that may be changed -/
def fRevN (f : FE) : FE := fun s h => (f s h).bind fun d h1 => match asF h1 d with
  | some l => .ok (.ref h1.length) (h1 ++ [.lst l.reverse])
  | none => .no
theorem re_revN {e : Expr} {f : FE} {k : Nat} {p1 p2 p3 pos : Pos} (he : RE X W e f) : RE X W (.Subscript e (.Slice none none (some (.UnaryOp .USub (.Constant (.int 1) k p1) p2)) p3) pos) (fRevN f) :=
  ⟨fun {s σ H ι h Q} r x p => we_of (pe_revL pe_we) (he.next r x p fun d h1 v H1 ι1 s1 r1 x1 rv p1 => by
    cases e : asF h1 d with
    | none => simp only [e] at p1; exact p1.elim
    | some l =>
      simp only [e] at p1
      obtain ⟨a, xs, rfl, hL, rs⟩ := asF_ok x1 rv e
      exact ⟨a, xs, rfl, hL, fun p n => p1.use' (Step.place n) (x1.place n ⟨_, upd_same, rs.rev.step (Step.place n)⟩) _ (.ref (by show (ι1.pl ++ [p])[h1.length]? = some p; rw [← x1.len]; simp))⟩)⟩
/-! ### tests -/
def truD (h : Hh) : D → Option Bool
  | .non => some false
  | .bl b => some b
  | .int i => some (i != 0)
  | .str x => if line x.length then some ((x.length : Int) != 0) else none
  | d => match asS h d with
    | some l => some (!l.isEmpty)
    | none => match asD h d with
      | some (false, l) => some (!l.isEmpty)
      | _ => none
theorem tru_D {ι : Ix} {H : Hp} {h : Hh} {d : D} {v : V} {b : Bool} (x : HX X ι H h) (r : ReX X ι H d v) (e : truD h d = some b) : TruV X.K v H b := by
  have rest : (match asS h d with
    | some l => some (!l.isEmpty)
    | none => match asD h d with
      | some (false, l) => some (!l.isEmpty)
      | _ => none) = some b → TruV X.K v H b := fun e => by
    cases q : asS h d with
    | some l =>
      simp only [q, Option.some.injEq] at e
      obtain ⟨a, xs, rfl, hs, rs⟩ := asS_ok x r q
      have z : b = !xs.isEmpty := by
        rw [← e]
        cases rs <;> rfl
      rcases hs with hs | hs
      · exact .inl ⟨xs, hs, z⟩
      · exact .inr (.inl ⟨xs, hs, z⟩)
    | none =>
      simp only [q] at e
      cases q2 : asD h d with
      | none => simp only [q2] at e; cases e
      | some tl =>
        obtain ⟨t, l⟩ := tl
        cases t with
        | true => simp only [q2] at e; cases e
        | false =>
          simp only [q2, Option.some.injEq] at e
          obtain ⟨a, rfl, ⟨_, kvs, h1, h2⟩ | ⟨z, _⟩⟩ := asD_ok x r q2
          · refine .inr (.inr ⟨kvs, h1, ?_⟩)
            rw [← e]
            cases h2 <;> rfl
          · cases z
  cases d with
  | non => cases e; cases r; exact rfl
  | bl k => cases e; cases r; exact rfl
  | int i => cases e; cases r; exact rfl
  | str y =>
    cases ln : line y.length with
    | false => simp [truD, ln] at e
    | true =>
      simp only [truD, ln, if_true, Option.some.injEq] at e
      cases r
      exact ⟨Nat.le_of_lt (line_ok ln), e.symm⟩
  | _ => exact rest e
def fTru (f : FE) : FT := fun s h => (f s h).bind fun d h1 => ofO h1 (truD h1 d)
theorem rt_tru {e : Expr} {f : FE} (t : RE X W e f) (he : ∀ whole, isTrue e X.env whole = (do let v ← whole; standAt e.pos; holding [v] (truthy v)) := by intro _; rfl) : RT X W e (fTru f) :=
  ⟨fun {s σ H ι h Q} r x p => wt_of (pt_truth pe_we he) (t.next r x p fun d h1 v H1 ι1 s1 r1 x1 rv p1 => by
    cases q : truD h1 d with
    | none => rw [q] at p1; exact p1.elim
    | some b => rw [q] at p1; exact ⟨b, tru_D x1 rv q, p1.use x1⟩)⟩
def fNot (f : FT) : FT := fun s h => (f s h).bind fun b h1 => .ok (!b) h1
def fAnd (f g : FT) : FT := fun s h => (f s h).bind fun b h1 => if b then g s h1 else .ok false h1
def fOr (f g : FT) : FT := fun s h => (f s h).bind fun b h1 => if b then .ok true h1 else g s h1
theorem rt_not {a : Expr} {f : FT} {pos : Pos} (t : RT X W a f) : RT X W (.UnaryOp .Not a pos) (fNot f) :=
  ⟨fun r x p => wt_of (pt_not pt_wt) (t.next r x p fun d h1 H1 ι1 s1 r1 x1 p1 => p1.use x1)⟩
/-- a test whatever its whole is -/
def Ww (X : Cx) (e : Expr) : TT := fun σ H Q => ∀ (whole : Sem Value) (pins : List (Addr × Obj)) (s : Shared), Inv X pins σ H s → wpAny (model X.prog X.w) X.A (isTrue e X.env whole) (TP X pins σ Q) X.xe s
theorem pw_ww {e : Expr} : PW X e (Ww X e) := ⟨fun wh pins s σ H Q I h => h wh pins s I⟩
structure RW' (X : Cx) (W : WX) (e : Expr) (f : FT) : Prop where
  run : ∀ {s : S} {σ : L2.St} {H : Hp} {ι : Ix} {h : Hh} {Q : Bool → Hp → Prop}, SR X.K ι H s σ → HX X ι H h → Po X W σ ι H (f s h) (fun b ι' H' => Q b H') → Ww X e σ H Q
theorem RW'.rt {e : Expr} {f : FT} (t : RW' X W e f) : RT X W e f := ⟨fun r x p pins s I => t.run r x p _ pins s I⟩
theorem ww_of {e : Expr} {t : TT} (p : PW X e t) {σ : L2.St} {H : Hp} {Q : Bool → Hp → Prop} (h : t σ H Q) : Ww X e σ H Q := fun wh pins s I => p.run wh pins s σ H Q I h
theorem rw_and1 {a : Expr} {f : FT} {pos : Pos} (t : RT X W a f) : RW' X W (.BoolOp .And [a] pos) f := ⟨fun r x p => ww_of (pw_and1 pt_wt) (t.run r x p)⟩
theorem rw_or1 {a : Expr} {f : FT} {pos : Pos} (t : RT X W a f) : RW' X W (.BoolOp .Or [a] pos) f := ⟨fun r x p => ww_of (pw_or1 pt_wt) (t.run r x p)⟩
theorem rw_and {a b : Expr} {rest : List Expr} {f g : FT} {pos : Pos} (t : RT X W a f) (u : RW' X W (.BoolOp .And (b :: rest) pos) g) : RW' X W (.BoolOp .And (a :: b :: rest) pos) (fAnd f g) :=
  ⟨fun {s σ H ι h Q} r x p => ww_of (pw_and pt_wt pw_ww) (t.next r x p fun d h1 H1 ι1 s1 r1 x1 p1 => by
    cases d with
    | true => exact iteT (u.run r1 x1 p1)
    | false => exact iteF (p1.use x1))⟩
theorem rw_or {a b : Expr} {rest : List Expr} {f g : FT} {pos : Pos} (t : RT X W a f) (u : RW' X W (.BoolOp .Or (b :: rest) pos) g) : RW' X W (.BoolOp .Or (a :: b :: rest) pos) (fOr f g) :=
  ⟨fun {s σ H ι h Q} r x p => ww_of (pw_or pt_wt pw_ww) (t.next r x p fun d h1 H1 ι1 s1 r1 x1 p1 => by
    cases d with
    | true => exact iteT (p1.use x1)
    | false => exact iteF (u.run r1 x1 p1))⟩
/-- .. as values, bools all but the last -/
def fAndV (f g : FE) : FE := fun s h => (f s h).bind fun d h1 => match d with
  | .bl true => g s h1
  | .bl false => .ok (.bl false) h1
  | _ => .no
def fOrV (f g : FE) : FE := fun s h => (f s h).bind fun d h1 => match d with
  | .bl true => .ok (.bl true) h1
  | .bl false => g s h1
  | _ => .no
def fNotV (f : FE) : FE := fun s h => (f s h).bind fun d h1 => match d with
  | .bl b => .ok (.bl (!b)) h1
  | _ => .no
variable {a b c : Expr} {fa fb : FE} {ft : FT} {rest : List Expr} {pos : Pos}
theorem re_one {op} (t : RE X W a fa) : RE X W (.BoolOp op [a] pos) fa := ⟨fun r x p => we_of (pe_one pe_we) (t.run r x p)⟩
theorem re_and (t : RE X W a fa) (u : RE X W (.BoolOp .And (b :: rest) pos) fb) : RE X W (.BoolOp .And (a :: b :: rest) pos) (fAndV fa fb) :=
  ⟨fun {s σ H ι h Q} r x p => we_of (pe_and pe_we pe_we) (t.next r x p fun d h1 v H1 ι1 s1 r1 x1 rv p1 => by
    cases d with
    | bl k =>
      cases rv
      refine ⟨k, rfl, ?_⟩
      cases k with
      | true => exact iteT (u.run r1 x1 p1)
      | false => exact iteF (p1.use x1 _ (.bl _))
    | _ => exact p1.elim)⟩
theorem re_or (t : RE X W a fa) (u : RE X W (.BoolOp .Or (b :: rest) pos) fb) : RE X W (.BoolOp .Or (a :: b :: rest) pos) (fOrV fa fb) :=
  ⟨fun {s σ H ι h Q} r x p => we_of (pe_or pe_we pe_we) (t.next r x p fun d h1 v H1 ι1 s1 r1 x1 rv p1 => by
    cases d with
    | bl k =>
      cases rv
      refine ⟨k, rfl, ?_⟩
      cases k with
      | true => exact iteT (p1.use x1 _ (.bl _))
      | false => exact iteF (u.run r1 x1 p1)
    | _ => exact p1.elim)⟩
theorem re_not (t : RE X W a fa) : RE X W (.UnaryOp .Not a pos) (fNotV fa) :=
  ⟨fun {s σ H ι h Q} r x p => we_of (pe_not pe_we) (t.next r x p fun d h1 v H1 ι1 s1 r1 x1 rv p1 => by
    cases d with
    | bl k => cases rv; exact ⟨k, rfl, p1.use x1 _ (.bl _)⟩
    | _ => exact p1.elim)⟩
def fIf (t : FT) (f g : FE) : FE := fun s h => (t s h).bind fun b h1 => if b then f s h1 else g s h1
theorem re_if (t : RT X W c ft) (ta : RE X W a fa) (tb : RE X W b fb) : RE X W (.IfExp c a b pos) (fIf ft fa fb) :=
  ⟨fun {s σ H ι h Q} r x p => we_of (pe_ifExp pt_wt pe_we pe_we) (t.next r x p fun d h1 H1 ι1 s1 r1 x1 p1 => by
    cases d with
    | true => exact iteT (ta.run r1 x1 p1)
    | false => exact iteF (tb.run r1 x1 p1))⟩
end
end Lg
set_option Elab.async false
set_option linter.all false
set_option maxRecDepth 100000
namespace Lg
open PySem PySem.Spec PyProof.Rows L2
/-- a statement's outcome -/
inductive Os where
  | nx (s : S) (h : Hh) | rt (d : D) (h : Hh) | bk (s : S) (h : Hh) | ct (s : S) (h : Hh) | ex (x : Xn) (s : S) (h : Hh) | no
def Oc.toS {α : Type} (s : S) : Oc α → (α → Hh → Os) → Os
  | .ok a h, k => k a h
  | .ex x h, _ => .ex x s h
  | .no, _ => .no
@[simp] theorem Oc.toS_ok {α : Type} (s : S) (a : α) (h : Hh) (k : α → Hh → Os) : (Oc.ok a h).toS s k = k a h := rfl
@[simp] theorem Oc.toS_ex {α : Type} (s : S) (x : Xn) (h : Hh) (k : α → Hh → Os) : (Oc.ex x h : Oc α).toS s k = .ex x s h := rfl
@[simp] theorem Oc.toS_no {α : Type} (s : S) (k : α → Hh → Os) : (Oc.no : Oc α).toS s k = .no := rfl
def PoS (X : Cx) (W : WX) (E : Ends) (ι : Ix) (H : Hp) (r : Os) : Prop := match r with
  | .nx s' h' => ∀ σ' H' ι', Step ι ι' H H' → HX X ι' H' h' → SR X.K ι' H' s' σ' → E.nx σ' H'
  | .rt d h' => ∀ v H' ι', Step ι ι' H H' → HX X ι' H' h' → ReX X ι' H' d v → E.rt v H'
  | .bk s' h' => ∀ σ' H' ι', Step ι ι' H H' → HX X ι' H' h' → SR X.K ι' H' s' σ' → E.bk σ' H'
  | .ct s' h' => ∀ σ' H' ι', Step ι ι' H H' → HX X ι' H' h' → SR X.K ι' H' s' σ' → E.ct σ' H'
  | .ex x s' h' => ∀ σ' H' ι' c d, Step ι ι' H H' → HX X ι' H' h' → SR X.K ι' H' s' σ' → XR X.K (clOf X.prog X.w X.mg) ι' H' x c d → W c d σ' H'
  | .no => False
theorem PoS.step {X : Cx} {W : WX} {E : Ends} {ι ι' : Ix} {H H' : Hp} {r : Os} (t : Step ι ι' H H') (p : PoS X W E ι H r) : PoS X W E ι' H' r := by
  cases r with
  | nx s h => exact fun σ2 H2 ι2 q => p σ2 H2 ι2 (t.trans q)
  | rt d h => exact fun v H2 ι2 q => p v H2 ι2 (t.trans q)
  | bk s h => exact fun σ2 H2 ι2 q => p σ2 H2 ι2 (t.trans q)
  | ct s h => exact fun σ2 H2 ι2 q => p σ2 H2 ι2 (t.trans q)
  | ex x s h => exact fun σ2 H2 ι2 c d q => p σ2 H2 ι2 c d (t.trans q)
  | no => exact p
def Ws (X : Cx) (st : Stmt) : TS := fun E σ H => ∀ (pins : List (Addr × Obj)) (s : Shared), Inv X pins σ H s → wpAny (model X.prog X.w) X.A (exec st X.env) (SP X pins E) X.xe s
def Wss (X : Cx) (st : List Stmt) : TS := fun E σ H => ∀ (pins : List (Addr × Obj)) (s : Shared), Inv X pins σ H s → wpAny (model X.prog X.w) X.A (execs st X.env) (SP X pins E) X.xe s
theorem ps_ws {X : Cx} {st : Stmt} : PS X st (Ws X st) := ⟨fun pins s σ H E I h => h pins s I⟩
theorem pss_wss {X : Cx} {st : List Stmt} : PSs X st (Wss X st) := ⟨fun pins s σ H E I h => h pins s I⟩
theorem ws_of {X : Cx} {st : Stmt} {t : TS} (p : PS X st t) {E : Ends} {σ : L2.St} {H : Hp} (h : t E σ H) : Ws X st E σ H := fun pins s I => p.run pins s σ H E I h
theorem wss_of {X : Cx} {st : List Stmt} {t : TS} (p : PSs X st t) {E : Ends} {σ : L2.St} {H : Hp} (h : t E σ H) : Wss X st E σ H := fun pins s I => p.run pins s σ H E I h
abbrev FS := S → Hh → Os
structure RS (X : Cx) (W : WX) (st : Stmt) (g : FS) : Prop where
  run : ∀ {s : S} {σ : L2.St} {H : Hp} {ι : Ix} {h : Hh} {E : Ends}, SR X.K ι H s σ → HX X ι H h → PoS X W E ι H (g s h) → Ws X st E σ H
structure RSs (X : Cx) (W : WX) (st : List Stmt) (g : FS) : Prop where
  run : ∀ {s : S} {σ : L2.St} {H : Hp} {ι : Ix} {h : Hh} {E : Ends}, SR X.K ι H s σ → HX X ι H h → PoS X W E ι H (g s h) → Wss X st E σ H
/-- a target: what is stored where -/
abbrev FG := D → S → Hh → Oc S
abbrev FGs := List D → S → Hh → Oc S
def Wg (X : Cx) (tg : Expr) : TG := fun v σ H Q => ∀ (pins : List (Addr × Obj)) (s : Shared) (u : Value), Inv X pins σ H s → RelV v u → wpAny (model X.prog X.w) X.A (assign tg X.env u) (fun _ s' => ∃ σ' H', Inv X pins σ' H' s' ∧ Q σ' H') X.xe s
def Wgs (X : Cx) (ts : List Expr) : TGs := fun vs σ H Q => ∀ (pins : List (Addr × Obj)) (s : Shared) (us : List Value), Inv X pins σ H s → Vals vs us → wpAny (model X.prog X.w) X.A (assignInOrder ((assignEach ts X.env).map (·.2)) us) (fun _ s' => ∃ σ' H', Inv X pins σ' H' s' ∧ Q σ' H') X.xe s
theorem pg_wg {X : Cx} {tg : Expr} : PG X tg (Wg X tg) := ⟨fun pins s σ H v u Q I r h => h pins s u I r⟩
theorem pgs_wgs {X : Cx} {ts : List Expr} : PGs X ts (Wgs X ts) := ⟨fun pins s σ H v u Q I r h => h pins s u I r⟩
theorem wg_of {X : Cx} {tg : Expr} {t : TG} (p : PG X tg t) {v : V} {σ : L2.St} {H : Hp} {Q : L2.St → Hp → Prop} (h : t v σ H Q) : Wg X tg v σ H Q := fun pins s u I r => p.run pins s σ H v u Q I r h
theorem wgs_of {X : Cx} {ts : List Expr} {t : TGs} (p : PGs X ts t) {vs : List V} {σ : L2.St} {H : Hp} {Q : L2.St → Hp → Prop} (h : t vs σ H Q) : Wgs X ts vs σ H Q := fun pins s u I r => p.run pins s σ H vs u Q I r h
structure RG (X : Cx) (W : WX) (tg : Expr) (g : FG) : Prop where
  run : ∀ {d : D} {v : V} {s : S} {σ : L2.St} {H : Hp} {ι : Ix} {h : Hh} {Q : L2.St → Hp → Prop}, SR X.K ι H s σ → HX X ι H h → ReX X ι H d v → Po X W σ ι H (g d s h) (fun s' ι' H' => ∀ σ', SR X.K ι' H' s' σ' → Q σ' H') → Wg X tg v σ H Q
structure RGs (X : Cx) (W : WX) (ts : List Expr) (g : FGs) : Prop where
  run : ∀ {ds : List D} {vs : List V} {s : S} {σ : L2.St} {H : Hp} {ι : Ix} {h : Hh} {Q : L2.St → Hp → Prop}, SR X.K ι H s σ → HX X ι H h → Res X.K ι H ds vs → (∃ s' , g ds s h = .ok s' h ∧ (∀ σ', SR X.K ι H s' σ' → Q σ' H)) → Wgs X ts vs σ H Q
section
variable {X : Cx} {W : WX} {e a b c : Expr} {es : List Expr} {f fa fb : FE} {ft : FT} {fs : FA} {pos : Pos} {s : S} {σ : L2.St} {H : Hp} {ι : Ix} {h : Hh} {E : Ends} {st : Stmt} {sts : List Stmt} {g k : FS}
theorem RE.nextS {kk : D → Hh → Os} {R : VK} (t : RE X W e f) (r : SR X.K ι H s σ) (x : HX X ι H h) (p : PoS X W E ι H ((f s h).toS s kk))
    (n : ∀ d h1 v H1 ι1, Step ι ι1 H H1 → SR X.K ι1 H1 s σ → HX X ι1 H1 h1 → ReX X ι1 H1 d v → PoS X W E ι1 H1 (kk d h1) → R v H1) : We X e σ H R := by
  refine t.run r x ?_
  cases q : f s h with
  | ok d h1 =>
    rw [q] at p
    exact fun H1 ι1 s1 x1 v rv => n d h1 v H1 ι1 s1 (r.step s1) x1 rv (PoS.step s1 p)
  | ex y h1 =>
    rw [q] at p
    exact fun H1 ι1 c d s1 x1 y1 => p σ H1 ι1 c d s1 x1 (r.step s1) y1
  | no => rw [q] at p; exact p
theorem RT.nextS {kk : Bool → Hh → Os} {R : Bool → Hp → Prop} (t : RT X W e ft) (r : SR X.K ι H s σ) (x : HX X ι H h) (p : PoS X W E ι H ((ft s h).toS s kk))
    (n : ∀ d h1 H1 ι1, Step ι ι1 H H1 → SR X.K ι1 H1 s σ → HX X ι1 H1 h1 → PoS X W E ι1 H1 (kk d h1) → R d H1) : Wt X e σ H R := by
  refine t.run r x ?_
  cases q : ft s h with
  | ok d h1 =>
    rw [q] at p
    exact fun H1 ι1 s1 x1 => n d h1 H1 ι1 s1 (r.step s1) x1 (PoS.step s1 p)
  | ex y h1 =>
    rw [q] at p
    exact fun H1 ι1 c d s1 x1 y1 => p σ H1 ι1 c d s1 x1 (r.step s1) y1
  | no => rw [q] at p; exact p
theorem RA.nextS {kk : List D → Hh → Os} {R : List V → Hp → Prop} (t : RA X W es fs) (r : SR X.K ι H s σ) (x : HX X ι H h) (p : PoS X W E ι H ((fs s h).toS s kk))
    (n : ∀ ds h1 vs H1 ι1, Step ι ι1 H H1 → SR X.K ι1 H1 s σ → HX X ι1 H1 h1 → Res X.K ι1 H1 ds vs → PoS X W E ι1 H1 (kk ds h1) → R vs H1) : Wa X es σ H R := by
  refine t.run r x ?_
  cases q : fs s h with
  | ok d h1 =>
    rw [q] at p
    exact fun H1 ι1 s1 x1 v rv => n d h1 v H1 ι1 s1 (r.step s1) x1 rv (PoS.step s1 p)
  | ex y h1 =>
    rw [q] at p
    exact fun H1 ι1 c d s1 x1 y1 => p σ H1 ι1 c d s1 x1 (r.step s1) y1
  | no => rw [q] at p; exact p
theorem PoS.useN {s' : S} (x : HX X ι H h) (r : SR X.K ι H s' σ) (p : PoS X W E ι H (.nx s' h)) : E.nx σ H := p σ H ι Step.refl x r
/-! ### blocks -/
def gNx : FS := fun s h => .nx s h
def gSeq (g k : FS) : FS := fun s h => match g s h with
  | .nx s' h' => k s' h'
  | o => o
theorem rss_nil : RSs X W [] gNx := ⟨fun r x p => wss_of pss_nil (p.useN x r)⟩
theorem rss_one (t : RS X W st g) : RSs X W [st] g := ⟨fun r x p => wss_of (pss_one ps_ws) (t.run r x p)⟩
theorem rss_cons (t : RS X W st g) (u : RSs X W sts k) : RSs X W (st :: sts) (gSeq g k) :=
  ⟨fun {s σ H ι h E} r x p => wss_of (pss_cons ps_ws pss_wss) (t.run (E := { E with nx := Wss X sts E }) r x (by
    unfold gSeq at p
    cases q : g s h with
    | nx s' h' =>
      rw [q] at p
      exact fun σ' H' ι' t1 x1 r1 => u.run r1 x1 (PoS.step t1 p)
    | rt d h' => rw [q] at p; exact p
    | bk s' h' => rw [q] at p; exact p
    | ct s' h' => rw [q] at p; exact p
    | ex y s' h' => rw [q] at p; exact p
    | no => rw [q] at p; exact p))⟩
theorem rs_pass : RS X W (.Pass pos) gNx := ⟨fun r x p => ws_of ps_pass (p.useN x r)⟩
def gBk : FS := fun s h => .bk s h
def gCt : FS := fun s h => .ct s h
theorem rs_break : RS X W (.Break pos) gBk := ⟨fun {s σ H ι h E} r x p => ws_of ps_break (p σ H ι Step.refl x r)⟩
theorem rs_continue : RS X W (.Continue pos) gCt := ⟨fun {s σ H ι h E} r x p => ws_of ps_continue (p σ H ι Step.refl x r)⟩
theorem rs_doc {y j pos'} : RS X W (.Expr (.Constant (.str y) j pos) pos') gNx := ⟨fun r x p => ws_of ps_doc (p.useN x r)⟩
def gEx (f : FE) : FS := fun s h => (f s h).toS s fun _ h1 => .nx s h1
theorem rs_expr (t : RE X W e f) (hs : swapsWith e none pos.line X.env = pure false := by rfl) : RS X W (.Expr e pos) (gEx f) :=
  ⟨fun r x p => ws_of (ps_expr pe_we hs) (t.nextS r x p fun d h1 v H1 ι1 s1 r1 x1 rv p1 => p1.useN x1 r1)⟩
def gRt (f : FE) : FS := fun s h => (f s h).toS s fun d h1 => .rt d h1
theorem rs_ret (t : RE X W e f) : RS X W (.Return (some e) pos) (gRt f) :=
  ⟨fun r x p => ws_of (ps_ret pe_we) (t.nextS r x p fun d h1 v H1 ι1 s1 r1 x1 rv p1 => p1 v H1 ι1 Step.refl x1 rv)⟩
def gRtN : FS := fun _ h => .rt .non h
theorem rs_retN : RS X W (.Return none pos) gRtN := ⟨fun {s σ H ι h E} r x p => ws_of ps_retN (p .non H ι Step.refl x .non)⟩
def gIf (t : FT) (g k : FS) : FS := fun s h => (t s h).toS s fun b h1 => if b then g s h1 else k s h1
theorem rs_if {as bs : List Stmt} (t : RT X W c ft) (u : RSs X W as g) (w : RSs X W bs k) : RS X W (.If c as bs pos) (gIf ft g k) :=
  ⟨fun r x p => ws_of (ps_if pt_wt pss_wss pss_wss) (t.nextS r x p fun d h1 H1 ι1 s1 r1 x1 p1 => by
    cases d with
    | true => exact iteT (u.run r1 x1 p1)
    | false => exact iteF (w.run r1 x1 p1))⟩
/-! ### stores -/
def gSet (i : Nat) (f : FE) : FS := fun s h => (f s h).toS s fun d h1 => .nx (s.set i (some d)) h1
theorem rs_set (i : Nat) {y : Str} {pos' : Pos} (hN : X.N.Nodup) (t : RE X W e f) (hi : X.N[i]? = some y := by rfl) (hx : Loc X.env.scope y := by first | exact Or.inl rfl | exact Or.inr rfl) (hs : swapsWith e (some (.Name y pos')) pos.line X.env = pure false := by rfl)
    (hf : X.fn y = true ∨ X.env.scope.names.lookup y = some .local := by first | exact .inl rfl | exact .inr rfl) : RS X W (.Assign [.Name y pos'] e pos) (gSet i f) :=
  ⟨fun r x p => ws_of (ps_set hN hi hx pe_we hs hf) (t.nextS r x p fun d h1 v H1 ι1 s1 r1 x1 rv p1 => p1.useN x1 (r1.set rv i))⟩
def gPar (i j : Nat) (fa fb : FE) : FS := fun s h => (fa s h).toS s fun d h1 => (fb s h1).toS s fun e h2 => .nx ((s.set i (some d)).set j (some e)) h2
theorem rs_par (i j : Nat) {y z : Str} {px py pt : Pos} {kt k2 pt2} (hc : X.calm = true) (hN : X.N.Nodup) (ta : RE X W a fa) (tb : RE X W b fb) (hi : X.N[i]? = some y := by rfl) (hj : X.N[j]? = some z := by rfl) (hij : i ≠ j := by decide)
    (hx : X.env.scope.names.lookup y = some .local := by rfl) (hy : X.env.scope.names.lookup z = some .local := by rfl)
    (hw : swappedStores [.Tuple [.Name y px, .Name z py] kt pt] (.Tuple [a, b] k2 pt2) X.env = pure (some [y, z]) := by rfl)
    (hs : swapsWithSole [.Tuple [.Name y px, .Name z py] kt pt] (.Tuple [a, b] k2 pt2) pos.line X.env = pure false := by rfl) (h2 : starEach [a, b] X.env = (false, eval a X.env) :: starEach [b] X.env := by rfl) (h3 : starEach [b] X.env = (false, eval b X.env) :: starEach [] X.env := by rfl) :
    RS X W (.Assign [.Tuple [.Name y px, .Name z py] kt pt] (.Tuple [a, b] k2 pt2) pos) (gPar i j fa fb) :=
  ⟨fun r x p => ws_of (ps_par hc hN hi hj hij hx hy (pa_cons pe_we (pa_cons pe_we pa_nil h3) h2) hw hs) (ta.nextS r x p fun d h1 v H1 ι1 s1 r1 x1 rv p1 => tb.nextS r1 x1 p1 fun e h2 u H2 ι2 s2 r2 x2 ru p2 => ⟨v, u, rfl, p2.useN x2 ((r2.set (rv.step s2) i).set ru j)⟩)⟩
def gAsg (f : FE) (g : FG) : FS := fun s h => (f s h).toS s fun d h1 => (g d s h1).toS s fun s' h2 => .nx s' h2
theorem rs_asg {tg : Expr} {gg : FG} (t : RE X W e f) (u : RG X W tg gg) (hs : swapsWithSole [tg] e pos.line X.env = pure false := by rfl) (hw : swappedStores [tg] e X.env = pure none := by rfl)
    (h1 : (assignEach [tg] X.env).map (·.2) = [assign tg X.env] := by rfl) : RS X W (.Assign [tg] e pos) (gAsg f gg) :=
  ⟨fun {s σ H ι h E} r x p => ws_of (ps_asg pe_we pg_wg hs hw h1) (t.nextS r x p fun d h1 v H1 ι1 s1 r1 x1 rv p1 => u.run r1 x1 rv (by
    cases q : gg d s h1 with
    | ok s' h2 =>
      rw [q] at p1
      exact fun H2 ι2 s2 x2 σ' r2 => p1 σ' H2 ι2 s2 x2 r2
    | ex y h2 =>
      rw [q] at p1
      exact fun H2 ι2 c d s2 x2 y2 => p1 σ H2 ι2 c d s2 x2 (r1.step s2) y2
    | no => rw [q] at p1; exact p1))⟩
def gN (i : Nat) : FG := fun d s h => .ok (s.set i (some d)) h
theorem rg_name (i : Nat) {y : Str} (hN : X.N.Nodup) (hi : X.N[i]? = some y := by rfl) (hx : Loc X.env.scope y := by first | exact Or.inl rfl | exact Or.inr rfl) (hf : X.fn y = true ∨ X.env.scope.names.lookup y = some .local := by first | exact .inl rfl | exact .inr rfl) : RG X W (.Name y pos) (gN i) :=
  ⟨fun r x rv p => wg_of (pg_name hN hi hx hf) (p.use x _ (r.set rv i))⟩
def gGs : List FG → FGs
  | [] => fun ds s h => match ds with
    | [] => .ok s h
    | _ => .no
  | g :: gs => fun ds s h => match ds with
    | d :: ds => (g d s h).bind fun s' h' => gGs gs ds s' h'
    | [] => .no
/-- a, b, .. = a tuple: the targets are names -/
def asT (h : Hh) : D → Option (List D)
  | .tup l => some l
  | .frt l => some l
  | _ => none
theorem asT_ok {d : D} {v : V} {l : List D} (r : ReX X ι H d v) (e : asT h d = some l) : ∃ a xs, v = .ref a ∧ SqT X.K H a xs ∧ Res X.K ι H l xs := by
  cases d with
  | tup l' => cases e; cases r with
    | tup h1 _ h2 => exact ⟨_, _, rfl, .inl (.inl h1), h2⟩
  | frt l' => cases e; cases r with
    | frt h1 h2 => exact ⟨_, _, rfl, h1.sq, h2⟩
  | _ => cases e
def sets : List Nat → List D → S → S
  | i :: is, d :: ds, s => sets is ds (s.set i (some d))
  | _, _, s => s
def gTup (is : List Nat) : FG := fun d s h => match asT h d with
  | some l => if l.length = is.length then .ok (sets is l s) h else .no
  | none => .no
/-- the names' places -/
inductive NameAt (X : Cx) : List Expr → List Nat → Prop
  | nil : NameAt X [] []
  | cons {y : Str} {p : Pos} {i : Nat} {es : List Expr} {is : List Nat} (hi : X.N[i]? = some y) (hx : Loc X.env.scope y) (hf : X.fn y = true ∨ X.env.scope.names.lookup y = some .local) (r : NameAt X es is) : NameAt X (.Name y p :: es) (i :: is)
theorem na_cons {y : Str} {p : Pos} (i : Nat) {es : List Expr} {is : List Nat} (r : NameAt X es is) (hi : X.N[i]? = some y := by rfl) (hx : Loc X.env.scope y := by first | exact Or.inl rfl | exact Or.inr rfl) (hf : X.fn y = true ∨ X.env.scope.names.lookup y = some .local := by first | exact .inl rfl | exact .inr rfl) : NameAt X (.Name y p :: es) (i :: is) := .cons hi hx hf r
theorem rgs_names (hN : X.N.Nodup) : ∀ {es : List Expr} {is : List Nat}, NameAt X es is → ∀ {ds : List D} {vs : List V} {s : S} {σ : L2.St} {Q : L2.St → Hp → Prop}, SR X.K ι H s σ → Res X.K ι H ds vs → ds.length = is.length → (∀ σ', SR X.K ι H (sets is ds s) σ' → Q σ' H) → Wgs X es vs σ H Q
  | _, _, .nil, ds, vs, s, σ, Q, r, rs, l, q => by
    cases rs with
    | nil => exact wgs_of pgs_nil ⟨rfl, q _ r⟩
    | cons _ _ => cases l
  | _, _, .cons (i := i) hi hx hf n, ds, vs, s, σ, Q, r, rs, l, q => by
    cases rs with
    | nil => cases l
    | cons r1 r2 =>
      refine wgs_of (pgs_cons (pg_name hN hi hx hf) pgs_wgs rfl) ⟨_, _, rfl, ?_⟩
      exact rgs_names hN n (r.set r1 i) r2 (by simpa using l) q
theorem rg_tup {es : List Expr} {is : List Nat} {kk : Nat} (hc : X.calm = true) (hN : X.N.Nodup) (n : NameAt X es is) (hn : (assignEach es X.env).length = is.length := by rfl) (hst : (assignEach es X.env).findIdx? (·.1) = none := by rfl) : RG X W (.Tuple es kk pos) (gTup is) :=
  ⟨fun {d v s σ H ι h Q} r x rv p => wg_of (pg_tup hc pgs_wgs hn hst) (by
    cases q : asT h d with
    | none => simp only [gTup, q] at p; exact p.elim
    | some l =>
      simp only [gTup, q] at p
      by_cases hl : l.length = is.length
      · rw [if_pos hl] at p
        obtain ⟨a, xs, rfl, h1, h2⟩ := asT_ok rv q
        exact ⟨a, xs, rfl, h1, by rw [← h2.len, hl], rgs_names hN n r h2 hl fun σ' r' => p.use x σ' r'⟩
      · rw [if_neg hl] at p; exact p.elim)⟩
/-! ### a[b] = c -/
def put (l : List (D × D)) (k v : D) : List (D × D) := if l.any (fun p => kEq p.1 k) then l.map (fun p => if kEq p.1 k then (p.1, v) else p) else l ++ [(k, v)]
theorem any_K {d : D} {k : Key} : ∀ {l : List (D × D)} {kvs : List (Key × V)}, ReK X.K ι H l kvs → keyD d = some k → l.any (fun p => kEq p.1 d) = kvs.any fun kv => decide (kv.1 = k)
  | _, _, .nil, _ => rfl
  | _, _, .cons (k := k') (key := key) e1 r rr, e => by
    have z : kEq k' d = decide (key = k) := by
      rw [← keyD_eq e1 e]
      cases k' <;> cases e1 <;> rfl
    simp only [List.any_cons, z, any_K rr e]
theorem map_K {d e : D} {v : V} {k : Key} (re : ReX X ι H e v) : ∀ {l : List (D × D)} {kvs : List (Key × V)}, ReK X.K ι H l kvs → keyD d = some k → ReK X.K ι H (l.map fun p => if kEq p.1 d then (p.1, e) else p) (kvs.map fun kv => if kv.1 = k then (kv.1, v) else kv)
  | _, _, .nil, _ => .nil
  | _, _, .cons (k := k') (key := key) e1 r rr, e => by
    have z : kEq k' d = decide (key = k) := by
      rw [← keyD_eq e1 e]
      cases k' <;> cases e1 <;> rfl
    have ih := map_K re rr e
    simp only [List.map_cons, z]
    by_cases hk : key = k
    · simp only [hk, decide_true, if_true]
      exact .cons (hk ▸ e1) re ih
    · simp only [hk, decide_false, Bool.false_eq_true, if_false]
      exact .cons e1 r ih
theorem app_K {l : List (D × D)} {kvs : List (Key × V)} : ∀ {m : List (D × D)} {nvs : List (Key × V)}, ReK X.K ι H m nvs → ReK X.K ι H l kvs → ReK X.K ι H (m ++ l) (nvs ++ kvs)
  | _, _, .nil, s => s
  | _, _, .cons e h r, s => .cons e h (app_K r s)
theorem put_K {d e : D} {v : V} {k : Key} {l : List (D × D)} {kvs : List (Key × V)} (r : ReK X.K ι H l kvs) (ed : keyD d = some k) (re : ReX X ι H e v) : ReK X.K ι H (put l d e) (putK kvs k v) := by
  unfold put putK
  rw [any_K r ed]
  split
  · exact map_K re r ed
  · exact app_K r (.cons ed re .nil)
theorem any_T {ks : List D} {k : List Key} : ∀ {l : List (D × D)} {kvs : List (List Key × V)}, ReT X.K ι H l kvs → keysD ks = some k → l.any (fun p => kEq p.1 (.tup ks)) = kvs.any fun kv => decide (kv.1 = k)
  | _, _, .nil, _ => rfl
  | _, _, .cons (ks := k') (keys := key) e1 r rr, e => by
    have z : kEq (.tup k') (.tup ks) = decide (key = k) := keysD_eq e1 e
    simp only [List.any_cons, z, any_T rr e]
theorem map_T {ks : List D} {e : D} {v : V} {k : List Key} (re : ReX X ι H e v) : ∀ {l : List (D × D)} {kvs : List (List Key × V)}, ReT X.K ι H l kvs → keysD ks = some k → ReT X.K ι H (l.map fun p => if kEq p.1 (.tup ks) then (p.1, e) else p) (kvs.map fun kv => if kv.1 = k then (kv.1, v) else kv)
  | _, _, .nil, _ => .nil
  | _, _, .cons (ks := k') (keys := key) e1 r rr, e => by
    have z : kEq (.tup k') (.tup ks) = decide (key = k) := keysD_eq e1 e
    have ih := map_T re rr e
    simp only [List.map_cons, z]
    by_cases hk : key = k
    · simp only [hk, decide_true, if_true]
      exact .cons (hk ▸ e1) re ih
    · simp only [hk, decide_false, Bool.false_eq_true, if_false]
      exact .cons e1 r ih
theorem app_T {l : List (D × D)} {kvs : List (List Key × V)} : ∀ {m : List (D × D)} {nvs : List (List Key × V)}, ReT X.K ι H m nvs → ReT X.K ι H l kvs → ReT X.K ι H (m ++ l) (nvs ++ kvs)
  | _, _, .nil, s => s
  | _, _, .cons e h r, s => .cons e h (app_T r s)
theorem put_T {ks : List D} {e : D} {v : V} {k : List Key} {l : List (D × D)} {kvs : List (List Key × V)} (r : ReT X.K ι H l kvs) (ed : keysD ks = some k) (re : ReX X ι H e v) : ReT X.K ι H (put l (.tup ks) e) (putK kvs k v) := by
  unfold put putK
  rw [any_T r ed]
  split
  · exact map_T re r ed
  · exact app_T r (.cons ed re .nil)
theorem ReK.len : ∀ {l : List (D × D)} {kvs : List (Key × V)}, ReK X.K ι H l kvs → l.length = kvs.length
  | _, _, .nil => rfl
  | _, _, .cons _ _ r => congrArg (· + 1) (ReK.len r)
theorem ReT.len : ∀ {l : List (D × D)} {kvs : List (List Key × V)}, ReT X.K ι H l kvs → l.length = kvs.length
  | _, _, .nil => rfl
  | _, _, .cons _ _ r => congrArg (· + 1) (ReT.len r)
def opSet (h : Hh) (o i v : D) : Option Hh := match o with
  | .ref n => match h[n]? with
    | some (.lst l) => match i with
      | .int k => (ixN l.length k).map fun j => h.set n (.lst (l.set j v))
      | _ => none
    | some (.dic t l) => if keyOk t i && line l.length then some (h.set n (.dic t (put l i v))) else none
    | _ => none
  | _ => none
theorem set_D (hu : X.A.units + 1 < cLine) : PSet X (fun o i v H Q => ∃ ι h dO di dv h', HX X ι H h ∧ ReX X ι H dO o ∧ ReX X ι H di i ∧ ReX X ι H dv v ∧ opSet h dO di dv = some h' ∧ ∀ H', Step ι ι H H' → HX X ι H' h' → Q H') := by
  intro pins s σ H o i v ov iv u Q I ro ri rv hq
  obtain ⟨ι, h, dO, di, dv, h', x, r1, r2, r3, e, q⟩ := hq
  cases dO with
  | ref n =>
    cases q1 : h[n]? with
    | none => simp [opSet, q1] at e
    | some ob =>
      cases r1 with
      | ref hn =>
        have y := x.at_ n _ _ hn q1
        have mem := List.mem_of_getElem? hn
        cases ob with
        | lst l =>
          cases di with
          | int k =>
            simp only [opSet, q1] at e
            obtain ⟨j, e1, rfl⟩ := Option.map_eq_some_iff.mp e
            obtain ⟨vs, h1, h2⟩ := y
            cases r2
            refine set_list pins s σ H _ _ v ov iv u Q I ro ri rv ⟨_, vs, k, j, rfl, rfl, h1, by rw [← h2.len]; exact e1, ?_⟩
            exact q _ (Step.write mem) (x.write hn ⟨_, upd_same, (Res.set r3 j h2).step (Step.write mem)⟩)
          | _ => simp [opSet, q1] at e
        | dic t l =>
          cases ok : (keyOk t di && line l.length) with
          | false => simp [opSet, q1, ok] at e
          | true =>
            simp only [opSet, q1, ok, if_true, Option.some.injEq] at e
            subst e
            rw [Bool.and_eq_true] at ok
            cases ro
            cases t with
            | false =>
              obtain ⟨kvs, h1, h2⟩ := y
              obtain ⟨key, ek⟩ := Option.isSome_iff_exists.mp (show (keyD di).isSome = true from ok.1)
              have ei := keyD_V ek r2
              subst ei
              refine d_setItem hu I (DPut.k h1 (by rw [← h2.len]; exact line_ok ok.2)) ri rv fun s' I' => ⟨_, I', ?_⟩
              exact q _ (Step.write mem) (x.write hn ⟨_, upd_same, (put_K h2 ek r3).step (Step.write mem)⟩)
            | true =>
              obtain ⟨kvs, h1, h2⟩ := y
              cases di with
              | tup ks =>
                obtain ⟨key, ek⟩ := Option.isSome_iff_exists.mp (show (keysD ks).isSome = true from ok.1)
                cases r2 with
                | tup t1 tn t2 =>
                  rw [keysD_V ek t2] at t1
                  refine d_setItem hu I (DPut.t h1 t1 (by rw [← h2.len]; exact line_ok ok.2)) ri rv fun s' I' => ⟨_, I', ?_⟩
                  exact q _ (Step.write mem) (x.write hn ⟨_, upd_same, (put_T h2 ek r3).step (Step.write mem)⟩)
              | _ => exact absurd ok.1 Bool.false_ne_true
        | _ => simp [opSet, q1] at e
  | _ => cases e
def gSub (fo fi : FE) : FG := fun d s h => (fo s h).bind fun o h1 => (fi s h1).bind fun i h2 => match opSet h2 o i d with
  | some h3 => .ok s h3
  | none => .no
theorem rg_sub {o i : Expr} {fo fi : FE} (hu : X.A.units + 1 < cLine) (t : RE X W o fo) (u : RE X W i fi) (ha : ∀ v, assign (.Subscript o i pos) X.env v = (do
      let ov ← holding [v] (eval o X.env)
      let iv ← holding [v, ov] (eval i X.env)
      standAt pos
      holding [v, ov, iv] (setItem ov iv v)
      release [v, ov, iv] []) := by intro _; rfl) : RG X W (.Subscript o i pos) (gSub fo fi) :=
  ⟨fun {d v s σ H ι h Q} r x rv p => wg_of (pg_sub pe_we pe_we (set_D hu) ha) (t.next r x p fun dO h1 vo H1 ι1 s1 r1 x1 ro p1 => u.next r1 x1 p1 fun di h2 vi H2 ι2 s2 r2 x2 ri p2 => by
    cases q : opSet h2 dO di d with
    | none => simp only [q] at p2; exact p2.elim
    | some h3 =>
      simp only [q] at p2
      exact ⟨ι2, h2, dO, di, d, h3, x2, ro.step s2, ri, rv.step (s1.trans s2), q, fun H3 s3 x3 => p2.use' s3 x3 _ (r2.step s3)⟩)⟩
/-! ### a op= b of a name -/
def gAug (i : Nat) (op : Hh → D → D → Option D) (f : FE) : FS := fun s h => match s[i]? with
  | some (some a) => (f s h).toS s fun b h1 => match op h1 a b with
    | some d => .nx (s.set i (some d)) h1
    | none => .no
  | _ => .no
theorem rs_aug (i : Nat) {y : Str} {o : Operator} {op : Hh → D → D → Option D} {pos' : Pos} (hN : X.N.Nodup) (ho : OpR X (inplaceOp o) (rD X op)) (t : RE X W e f) (hi : X.N[i]? = some y := by rfl) (hx : Loc X.env.scope y := by first | exact Or.inl rfl | exact Or.inr rfl)
    (hf : X.fn y = true ∨ X.env.scope.names.lookup y = some .local := by first | exact .inl rfl | exact .inr rfl) : RS X W (.AugAssign (.Name y pos') o e pos) (gAug i op f) :=
  ⟨fun {s σ H ι h E} r x p => ws_of (ps_aug (ti := rD X op) hN hi hx pe_we ho hf) (by
    cases q : s[i]? with
    | none => simp only [gAug, q] at p; exact p.elim
    | some o =>
      cases o with
      | none => simp only [gAug, q] at p; exact p.elim
      | some a =>
        simp only [gAug, q] at p
        obtain ⟨va, h1, h2⟩ := r.at_ i a q
        refine ⟨va, h1, t.nextS r x p fun b hh vb H1 ι1 s1 r1 x1 rv p1 => ?_⟩
        cases q2 : op hh a b with
        | none => simp only [q2] at p1; exact p1.elim
        | some d =>
          simp only [q2] at p1
          exact ⟨ι1, hh, a, b, d, x1, h2.step s1, rv, q2, fun z H2 s2 x2 r2 => p1 _ _ _ s2 x2 ((r1.step s2).set r2 i)⟩)⟩
def opIAdd : Hh → D → D → Option D := fun _ x y => match x, y with
  | .int i, .int j => some (.int (i + j))
  | .str a, .str b => if line (a.length + b.length) then some (.str (a ++ b)) else none
  | _, _ => none
theorem o_iadd : OpR X (inplaceOp .Add) (rD X opIAdd) := by
  intro pins s σ H x y v u Q I rx ry hq
  obtain ⟨ι, h, dx, dy, d, hx, r1, r2, e, q⟩ := hq
  cases dx with
  | int i =>
    cases dy with
    | int j =>
      cases e; cases r1; cases r2
      exact iop_add pins s σ H _ _ v u Q I rx ry ⟨i, j, rfl, rfl, q _ _ Step.refl hx (.int _)⟩
    | _ => cases e
  | str a =>
    cases dy with
    | str b =>
      cases ln : line (a.length + b.length) with
      | false => simp [opIAdd, ln] at e
      | true =>
        simp [opIAdd, ln] at e
        subst e
        cases r1; cases r2
        exact iop_add_str pins s σ H _ _ v u Q I rx ry ⟨a, b, rfl, rfl, Nat.le_of_lt (line_ok ln), q _ _ Step.refl hx (.str _)⟩
    | _ => cases e
  | _ => cases e
end
end Lg
set_option Elab.async false
set_option linter.all false
set_option maxRecDepth 100000
namespace Lg
open PySem PySem.Spec PyProof.Rows L2
/-! ### what is walked: so many items, each as the heap has it then; fin: may it stop -/
structure Wk where
  n : Nat
  at_ : Hh → Nat → Option D
  fin : Hh → Bool
structure WkJ (X : Cx) (wk : Wk) (ι : Ix) (H : Hp) (J : It) : Prop where
  go : ∀ ι2 H2 h2 (i : Nat) d, Step ι ι2 H H2 → HX X ι2 H2 h2 → wk.at_ h2 i = some d → J.go i H2 ∧ ∀ y H3, J.yld i H2 y H3 → Step ι2 ι2 H2 H3 ∧ HX X ι2 H3 h2 ∧ ReX X ι2 H3 d y
  stop : ∀ ι2 H2 h2, Step ι ι2 H H2 → HX X ι2 H2 h2 → wk.fin h2 = true → J.stop wk.n H2
theorem WkJ.step {X : Cx} {wk : Wk} {ι ι' : Ix} {H H' : Hp} {J : It} (w : WkJ X wk ι H J) (s : Step ι ι' H H') : WkJ X wk ι' H' J :=
  ⟨fun ι2 H2 h2 i d t => w.go ι2 H2 h2 i d (s.trans t), fun ι2 H2 h2 t => w.stop ι2 H2 h2 (s.trans t)⟩
abbrev FI := S → Hh → Oc Wk
def Wi (X : Cx) (tg e : Expr) : TI := fun σ H R => ∀ (pins : List (Addr × Obj)) (s : Shared), Inv X pins σ H s → wpAny (model X.prog X.w) X.A (eval e X.env) (fun v s1 => wpAny (model X.prog X.w) X.A (pyIter v) (PIE X pins σ tg R) X.xe s1) X.xe s
theorem pi_wi {X : Cx} {tg e : Expr} : PI X tg e (Wi X tg e) := ⟨fun pins s σ H R I h => h pins s I⟩
theorem wi_of {X : Cx} {tg e : Expr} {t : TI} (p : PI X tg e t) {σ : L2.St} {H : Hp} {R : It → Hp → Prop} (h : t σ H R) : Wi X tg e σ H R := fun pins s I => p.run pins s σ H R I h
structure RI (X : Cx) (W : WX) (tg e : Expr) (f : FI) : Prop where
  run : ∀ {s : S} {σ : L2.St} {H : Hp} {ι : Ix} {h : Hh} {R : It → Hp → Prop}, SR X.K ι H s σ → HX X ι H h → Po X W σ ι H (f s h) (fun wk ι' H' => ∀ J, WkJ X wk ι' H' J → R J H') → Wi X tg e σ H R
section
variable {X : Cx} {W : WX} {e a b tg : Expr} {es : List Expr} {f fa fb fe : FE} {ft : FT} {fi : FI} {fs : FA} {fg : FG} {pos : Pos} {s : S} {σ : L2.St} {H : Hp} {ι : Ix} {h : Hh} {E : Ends} {st : Stmt} {body : List Stmt} {g k : FS}
theorem RI.next {β : Type} {kk : Wk → Hh → Oc β} {G : β → Ix → Hp → Prop} {R : It → Hp → Prop} (t : RI X W tg e fi) (r : SR X.K ι H s σ) (x : HX X ι H h) (p : Po X W σ ι H ((fi s h).bind kk) G)
    (n : ∀ wk h1 J H1 ι1, Step ι ι1 H H1 → SR X.K ι1 H1 s σ → HX X ι1 H1 h1 → WkJ X wk ι1 H1 J → Po X W σ ι1 H1 (kk wk h1) G → R J H1) : Wi X tg e σ H R := by
  refine t.run r x ?_
  cases q : fi s h with
  | ok d h1 =>
    rw [q] at p
    exact fun H1 ι1 s1 x1 J j => n d h1 J H1 ι1 s1 (r.step s1) x1 j (Po.step s1 p)
  | ex y h1 => rw [q] at p; exact p
  | no => rw [q] at p; exact p
theorem RI.nextS {kk : Wk → Hh → Os} {R : It → Hp → Prop} (t : RI X W tg e fi) (r : SR X.K ι H s σ) (x : HX X ι H h) (p : PoS X W E ι H ((fi s h).toS s kk))
    (n : ∀ wk h1 J H1 ι1, Step ι ι1 H H1 → SR X.K ι1 H1 s σ → HX X ι1 H1 h1 → WkJ X wk ι1 H1 J → PoS X W E ι1 H1 (kk wk h1) → R J H1) : Wi X tg e σ H R := by
  refine t.run r x ?_
  cases q : fi s h with
  | ok d h1 =>
    rw [q] at p
    exact fun H1 ι1 s1 x1 J j => n d h1 J H1 ι1 s1 (r.step s1) x1 j (PoS.step s1 p)
  | ex y h1 =>
    rw [q] at p
    exact fun H1 ι1 c d s1 x1 y1 => p σ H1 ι1 c d s1 x1 (r.step s1) y1
  | no => rw [q] at p; exact p
/-- a list or a tuple that does not change -/
def wkL (l : List D) : Wk := ⟨l.length, fun _ i => l[i]?, fun _ => true⟩
/-- a list of ours, which keeps its length -/
def wkR (n m : Nat) : Wk := ⟨m, fun h i => match h[n]? with
  | some (.lst l) => if l.length = m then l[i]? else none
  | _ => none, fun h => match h[n]? with
  | some (.lst l) => decide (l.length = m)
  | _ => false⟩
def walkD (h : Hh) : D → Option Wk
  | .tup l => some (wkL l)
  | .frt l => some (wkL l)
  | .lst l => some (wkL l)
  | .frz l => some (wkL l)
  | .ref n => match h[n]? with
    | some (.lst l) => some (wkR n l.length)
    | _ => none
  | _ => none
theorem wkJ_L {l : List D} {vs : List V} {a : Addr} (hL : ∀ ι2 H2, Step ι ι2 H H2 → SqL X.K H2 a vs) (rs : Res X.K ι H l vs) : WkJ X (wkL l) ι H (Itl X.K a) :=
  ⟨fun ι2 H2 h2 i d t x e => by
    obtain ⟨v, h1, h2⟩ := (rs.step t).get (show l[i]? = some d from e)
    exact ⟨⟨vs, v, hL ι2 H2 t, h1⟩, fun y H3 ⟨e3, q⟩ => by
      subst e3
      have := q vs (hL ι2 _ t)
      rw [h1] at this
      cases this
      exact ⟨Step.refl, x, h2⟩⟩, fun ι2 H2 h2 t x _ => ⟨vs, hL ι2 H2 t, by rw [← rs.len]; exact Nat.le_refl _⟩⟩
theorem wkJ_T {l : List D} {vs : List V} {a : Addr} (hL : ∀ ι2 H2, Step ι ι2 H H2 → SqT X.K H2 a vs) (rs : Res X.K ι H l vs) : WkJ X (wkL l) ι H (Itt X.K a) :=
  ⟨fun ι2 H2 h2 i d t x e => by
    obtain ⟨v, h1, h2⟩ := (rs.step t).get (show l[i]? = some d from e)
    exact ⟨⟨vs, v, hL ι2 H2 t, h1⟩, fun y H3 ⟨e3, q⟩ => by
      subst e3
      have := q vs (hL ι2 _ t)
      rw [h1] at this
      cases this
      exact ⟨Step.refl, x, h2⟩⟩, fun ι2 H2 h2 t x _ => ⟨vs, hL ι2 H2 t, by rw [← rs.len]; exact Nat.le_refl _⟩⟩
theorem wkJ_R {n m : Nat} {a : Addr} (ha : ι.pl[n]? = some a) : WkJ X (wkR n m) ι H (Itl X.K a) := by
  refine ⟨fun ι2 H2 h2 i d t x e => ?_, fun ι2 H2 h2 t x e => ?_⟩
  · have e : (match h2[n]? with | some (.lst l) => if l.length = m then l[i]? else none | _ => none) = some d := e
    cases q : h2[n]? with
    | none => simp only [q] at e; cases e
    | some o =>
      cases o with
      | lst l =>
        simp only [q] at e
        by_cases hm : l.length = m
        · rw [if_pos hm] at e
          obtain ⟨vs, z1, z2⟩ := x.at_ n a _ (t.get ha) q
          obtain ⟨v, y1, y2⟩ := z2.get e
          exact ⟨⟨vs, v, SqL.of z1, y1⟩, fun y H3 ⟨e3, qq⟩ => by
            subst e3
            have := qq vs (SqL.of z1)
            rw [y1] at this
            cases this
            exact ⟨Step.refl, x, y2⟩⟩
        · rw [if_neg hm] at e; cases e
      | dic _ _ => simp only [q] at e; cases e
      | ins _ _ => simp only [q] at e; cases e
      | set _ => simp only [q] at e; cases e
  · have e : (match h2[n]? with | some (.lst l) => decide (l.length = m) | _ => false) = true := e
    cases q : h2[n]? with
    | none => simp only [q] at e; cases e
    | some o =>
      cases o with
      | lst l =>
        simp only [q] at e
        obtain ⟨vs, z1, z2⟩ := x.at_ n a _ (t.get ha) q
        exact ⟨vs, SqL.of z1, by rw [← z2.len, of_decide_eq_true e]; exact Nat.le_refl _⟩
      | dic _ _ => simp only [q] at e; cases e
      | ins _ _ => simp only [q] at e; cases e
      | set _ => simp only [q] at e; cases e
theorem iter_list {pins : List (Addr × Obj)} {sh : Shared} {R : It → Hp → Prop} {a : Addr} {xs : List V} (I : Inv X pins σ H sh) (hq : SqL X.K H a xs) (q : R (Itl X.K a) H) : wpAny (model X.prog X.w) X.A (pyIter (.ref a)) (PIE X pins σ tg R) X.xe sh := by
  obtain ⟨its, rv, p, hz⟩ := I.list hq
  refine wpAny_pyIter_list p.isList ?_
  refine ⟨sh.heap.objs.size, [sh.heap.objs.size], _, _, H, rfl, I.kept (t' := sh.toks) fun b o e => Heap.get?_push_of_some _ e, turn_list a _, ⟨_, Heap.get?_push_size _ rfl, rfl, rfl⟩, fun b hb => ?_, q⟩
  have e : b = sh.heap.objs.size := by simpa using hb
  subst e
  exact I.fpOk (Nat.le_refl _) (I.hok.fresh (Nat.le_refl _))
theorem iter_tup {pins : List (Addr × Obj)} {sh : Shared} {R : It → Hp → Prop} {a : Addr} {xs : List V} (I : Inv X pins σ H sh) (hq : SqT X.K H a xs) (q : R (Itt X.K a) H) : wpAny (model X.prog X.w) X.A (pyIter (.ref a)) (PIE X pins σ tg R) X.xe sh := by
  obtain ⟨its, rv, p, hz⟩ := I.tuple hq
  refine wpAny_pyIter_tuple (show sh.heap.IsTuple a its.toArray from p) ?_
  refine ⟨sh.heap.objs.size, [sh.heap.objs.size], _, _, H, rfl, I.kept (t' := sh.toks) fun b o e => Heap.get?_push_of_some _ e, turn_tuple a _, ⟨_, Heap.get?_push_size _ rfl, rfl, rfl⟩, fun b hb => ?_, q⟩
  have e : b = sh.heap.objs.size := by simpa using hb
  subst e
  exact I.fpOk (Nat.le_refl _) (I.hok.fresh (Nat.le_refl _))
/-- for .. in e: e a list or a tuple -/
def fWalk (f : FE) : FI := fun s h => (f s h).bind fun d h1 => ofO h1 (walkD h1 d)
theorem ri_seq (t : RE X W e f) : RI X W tg e (fWalk f) :=
  ⟨fun {s σ H ι h R} r x p pins sh I => by
    refine thn (t.next (R := fun v H1 => (∃ a xs, v = .ref a ∧ SqL X.K H1 a xs ∧ R (Itl X.K a) H1) ∨ ∃ a xs, v = .ref a ∧ SqT X.K H1 a xs ∧ R (Itt X.K a) H1) r x p (fun d h1 v H1 ι1 s1 r1 x1 rv p1 => ?_) pins sh I) fun v s1 ⟨y, H1, I1, r1, q1⟩ => ?_
    · cases q : walkD h1 d with
      | none => rw [q] at p1; exact p1.elim
      | some wk =>
        rw [q] at p1
        cases d with
        | tup l =>
          cases q
          cases rv with
          | tup z n rs => exact .inr ⟨_, _, rfl, .inl (.inl z), p1.use x1 _ (wkJ_T (fun ι2 H2 t => .inl (.inl (t.st _ _ z n.1))) rs)⟩
        | frt l =>
          cases q
          cases rv with
          | frt z rs => exact .inr ⟨_, _, rfl, z.sq, p1.use x1 _ (wkJ_T (fun ι2 H2 t => z.sq) rs)⟩
        | lst l =>
          cases q
          cases rv with
          | lst z n rs => exact .inl ⟨_, _, rfl, SqL.of z, p1.use x1 _ (wkJ_L (fun ι2 H2 t => SqL.of (t.st _ _ z n.1)) rs)⟩
        | frz l =>
          cases q
          cases rv with
          | frz z rs => exact .inl ⟨_, _, rfl, z.sq, p1.use x1 _ (wkJ_L (fun ι2 H2 t => (z.step t).sq) rs)⟩
        | ref n =>
          cases q2 : h1[n]? with
          | none => simp [walkD, q2] at q
          | some o =>
            cases o with
            | lst l =>
              simp only [walkD, q2, Option.some.injEq] at q
              subst q
              cases rv with
              | ref hn =>
                obtain ⟨vs, z1, z2⟩ := x1.at_ n _ _ hn q2
                exact .inl ⟨_, vs, rfl, SqL.of z1, p1.use x1 _ (wkJ_R hn)⟩
            | _ => simp [walkD, q2] at q
        | _ => cases q
    · rcases q1 with ⟨a, xs, rfl, hq, q⟩ | ⟨a, xs, rfl, hq, q⟩
      · cases r1
        exact iter_list I1 hq q
      · cases r1
        exact iter_tup I1 hq q⟩
/-- range -/
def wkI (lo : Int) (m : Nat) : Wk := ⟨m, fun _ i => if i < m then some (.int (lo + i)) else none, fun _ => true⟩
theorem wkJ_I {lo : Int} {m : Nat} : WkJ X (wkI lo m) ι H (Itr lo m) := by
  refine ⟨fun ι2 H2 h2 i d t x e => ?_, fun ι2 H2 h2 t x e => Nat.le_refl _⟩
  have e : (if i < m then some (D.int (lo + i)) else none) = some d := e
  by_cases hi : i < m
  · rw [if_pos hi] at e
    cases e
    exact ⟨hi, fun y H3 ⟨e1, e2⟩ => by subst e1 e2; exact ⟨Step.refl, x, .int _⟩⟩
  · rw [if_neg hi] at e; cases e
def rngOk (i : Int) : Bool := decide (-4611686018427387904 ≤ i ∧ i < 4611686018427387904)
def fRng1 (f : FE) : FI := fun s h => (f s h).bind fun d h1 => match d with
  | .int j => if rngOk j then .ok (wkI 0 j.toNat) h1 else .no
  | _ => .no
theorem ri_rng1 {p1 : Pos} (mz : X.mg "range" = none) (t : RE X W a fa) (hg : Gl X "range" := by rfl) (hs : starEach [a] X.env = [(false, eval a X.env)] := by rfl) : RI X W tg (.Call (.Name "range" p1) [a] [] pos) (fRng1 fa) :=
  ⟨fun {s σ H ι h R} r x p => wi_of (pi_range1 hg mz (pa_cons pe_we pa_nil (by rw [hs]; rfl)) hs) (t.next r x p fun d h1 v H1 ι1 s1 r1 x1 rv p1 => by
    cases d with
    | int j =>
      cases rv
      cases q : rngOk j with
      | false => simp only [q] at p1; exact p1.elim
      | true =>
        simp only [q, if_true] at p1
        have z := of_decide_eq_true q
        exact ⟨j, rfl, z.1, z.2, p1.use x1 _ wkJ_I⟩
    | _ => exact p1.elim)⟩
def fRng2 (f g : FE) : FI := fun s h => (f s h).bind fun d h1 => (g s h1).bind fun e h2 => match d, e with
  | .int i, .int j => if rngOk i && rngOk j then .ok (wkI i (j - i).toNat) h2 else .no
  | _, _ => .no
theorem ri_rng2 {p1 : Pos} (mz : X.mg "range" = none) (t : RE X W a fa) (u : RE X W b fb) (hg : Gl X "range" := by rfl) (hs : starEach [a, b] X.env = [(false, eval a X.env), (false, eval b X.env)] := by rfl) (hs2 : starEach [b] X.env = [(false, eval b X.env)] := by rfl) :
    RI X W tg (.Call (.Name "range" p1) [a, b] [] pos) (fRng2 fa fb) :=
  ⟨fun {s σ H ι h R} r x p => wi_of (pi_range2 hg mz (pa_cons pe_we (pa_cons pe_we pa_nil (by rw [hs2]; rfl)) (by rw [hs, hs2])) hs hs2) (t.next r x p fun d h1 v H1 ι1 s1 r1 x1 rv p1 => u.next r1 x1 p1 fun e h2 w H2 ι2 s2 r2 x2 rw p2 => by
    cases d with
    | int i =>
      cases e with
      | int j =>
        cases rv
        cases rw
        cases q : (rngOk i && rngOk j) with
        | false => simp only [q] at p2; exact p2.elim
        | true =>
          simp only [q, if_true] at p2
          rw [Bool.and_eq_true] at q
          have z := of_decide_eq_true q.1
          have y := of_decide_eq_true q.2
          exact ⟨i, j, rfl, ⟨z.1, z.2, y.1, y.2⟩, p2.use x2 _ wkJ_I⟩
      | _ => exact p2.elim
    | _ => cases e <;> exact p2.elim)⟩
/-! ### for -/
def gLoop (wk : Wk) (fg : FG) (g : FS) : Nat → Nat → S → Hh → Os
  | 0, _, s, h => if wk.fin h then .nx s h else .no
  | n + 1, i, s, h => match wk.at_ h i with
    | none => .no
    | some d => (fg d s h).toS s fun s1 h1 => match g s1 h1 with
      | .nx s2 h2 => gLoop wk fg g n (i + 1) s2 h2
      | .ct s2 h2 => gLoop wk fg g n (i + 1) s2 h2
      | .bk s2 h2 => .nx s2 h2
      | o => o
def gFor (fi : FI) (fg : FG) (g : FS) : FS := fun s h => (fi s h).toS s fun wk h1 => gLoop wk fg g wk.n 0 s h1
theorem rs_for (hp : PassesOwn (model X.prog X.w) X.A X.env X.xe) (hc : X.calm = true) (ti : RI X W tg e fi) (tg' : RG X W tg fg) (tb : RSs X W body g) (hs : ∀ x, foldedSetIterable e X.env x = pure x := by intro _; rfl) : RS X W (.For tg e body [] pos) (gFor fi fg g) :=
  ⟨fun {s σ H ι h E} r x p => ws_of (ps_for hp hc pi_wi pg_wg pss_wss hs) (ti.nextS r x p fun wk h1 J H1 ι1 s1 r1 x1 j p1 => by
    refine ⟨fun i m σ' H' => ∃ s' h' ι', m = wk.n - i ∧ i ≤ wk.n ∧ Step ι1 ι' H1 H' ∧ SR X.K ι' H' s' σ' ∧ HX X ι' H' h' ∧ PoS X W E ι' H' (gLoop wk fg g (wk.n - i) i s' h'), ⟨wk.n, s, h1, ι1, rfl, Nat.zero_le _, Step.refl, r1, x1, p1⟩, ?_⟩
    rintro i m σ' H' ⟨s', h', ι', rfl, hi, t', r', x', p'⟩
    by_cases hlt : i < wk.n
    · obtain ⟨n, hn⟩ : ∃ n, wk.n - i = n + 1 := ⟨wk.n - i - 1, by omega⟩
      rw [hn] at p'
      unfold gLoop at p'
      cases q : wk.at_ h' i with
      | none => simp only [q] at p'; exact p'.elim
      | some d =>
        simp only [q] at p'
        obtain ⟨g1, g2⟩ := j.go ι' H' h' i d t' x' q
        refine .inr ⟨g1, fun σ2 H2 => ∃ s2 h2 ι2, Step ι1 ι2 H1 H2 ∧ SR X.K ι2 H2 s2 σ2 ∧ HX X ι2 H2 h2 ∧ PoS X W E ι2 H2 (gLoop wk fg g n (i + 1) s2 h2), fun σ2 H2 ⟨s2, h2, ι2, z1, z2, z3, z4⟩ => ⟨wk.n - (i + 1), by omega, s2, h2, ι2, rfl, hlt, z1, z2, z3, by rw [show wk.n - (i + 1) = n by omega]; exact z4⟩, fun y H3 hy => ?_⟩
        obtain ⟨t3, x3, r3⟩ := g2 y H3 hy
        have p3 := PoS.step t3 p'
        refine tg'.run (r'.step t3) x3 r3 ?_
        cases q2 : fg d s' h' with
        | no => rw [q2] at p3; exact p3
        | ex z h4 =>
          rw [q2] at p3
          exact fun H4 ι4 c dd s4 x4 y4 => p3 σ' H4 ι4 c dd s4 x4 ((r'.step t3).step s4) y4
        | ok s4 h4 =>
          rw [q2] at p3
          intro H4 ι4 t4 x4 σ4 r4
          have p4 := PoS.step t4 p3
          refine tb.run r4 x4 ?_
          cases q3 : g s4 h4 with
          | nx s5 h5 =>
            simp only [Oc.toS_ok, q3] at p4
            exact fun σ5 H5 ι5 t5 x5 r5 => ⟨s5, h5, ι5, ((t'.trans t3).trans t4).trans t5, r5, x5, PoS.step t5 p4⟩
          | ct s5 h5 =>
            simp only [Oc.toS_ok, q3] at p4
            exact fun σ5 H5 ι5 t5 x5 r5 => ⟨s5, h5, ι5, ((t'.trans t3).trans t4).trans t5, r5, x5, PoS.step t5 p4⟩
          | bk s5 h5 => simp only [Oc.toS_ok, q3] at p4; exact p4
          | rt d5 h5 => simp only [Oc.toS_ok, q3] at p4; exact p4
          | ex z s5 h5 => simp only [Oc.toS_ok, q3] at p4; exact p4
          | no => simp only [Oc.toS_ok, q3] at p4; exact p4
    · have ei : i = wk.n := by omega
      subst ei
      rw [Nat.sub_self] at p'
      unfold gLoop at p'
      cases q : wk.fin h' with
      | false => simp only [q] at p'; exact p'.elim
      | true =>
        simp only [q, if_true] at p'
        exact .inl ⟨j.stop ι' H' h' t' x' q, p'.useN x' r'⟩)⟩
/-! ### while -/
def gWh (ft : FT) (g : FS) : Nat → FS
  | 0, _, _ => .no
  | n + 1, s, h => (ft s h).toS s fun b h1 => if b then (match g s h1 with
      | .nx s2 h2 => gWh ft g n s2 h2
      | .ct s2 h2 => gWh ft g n s2 h2
      | .bk s2 h2 => .nx s2 h2
      | o => o) else .nx s h1
/-- how often a while may turn at most -/
def FUEL : Nat := 1000000000
def gWhile (ft : FT) (g : FS) : FS := gWh ft g FUEL
theorem rs_while (hp : PassesOwn (model X.prog X.w) X.A X.env X.xe) (tt : RT X W e ft) (tb : RSs X W body g) : RS X W (.While e body [] pos) (gWhile ft g) :=
  ⟨fun {s σ H ι h E} r x p => ws_of (ps_while hp pt_wt pss_wss) (by
    refine ⟨fun m σ' H' => ∃ s' h' ι', SR X.K ι' H' s' σ' ∧ HX X ι' H' h' ∧ PoS X W E ι' H' (gWh ft g m s' h'), ⟨FUEL, s, h, ι, r, x, p⟩, ?_⟩
    rintro m σ' H' ⟨s', h', ι', r', x', p'⟩
    cases m with
    | zero => exact p'.elim
    | succ m =>
      unfold gWh at p'
      refine tt.nextS r' x' p' fun b h1 H1 ι1 s1 r1 x1 p1 => ?_
      cases b with
      | false => exact iteF (p1.useN x1 r1)
      | true =>
        refine iteT ⟨fun σ2 H2 => ∃ s2 h2 ι2, SR X.K ι2 H2 s2 σ2 ∧ HX X ι2 H2 h2 ∧ PoS X W E ι2 H2 (gWh ft g m s2 h2), fun σ2 H2 z => ⟨m, Nat.lt_succ_self m, z⟩, tb.run r1 x1 ?_⟩
        cases q3 : g s' h1 with
        | nx s5 h5 =>
          simp only [q3, if_true] at p1
          exact fun σ5 H5 ι5 t5 x5 r5 => ⟨s5, h5, ι5, r5, x5, PoS.step t5 p1⟩
        | ct s5 h5 =>
          simp only [q3, if_true] at p1
          exact fun σ5 H5 ι5 t5 x5 r5 => ⟨s5, h5, ι5, r5, x5, PoS.step t5 p1⟩
        | bk s5 h5 => simp only [q3, if_true] at p1; exact p1
        | rt d5 h5 => simp only [q3, if_true] at p1; exact p1
        | ex z s5 h5 => simp only [q3, if_true] at p1; exact p1
        | no => simp only [q3, if_true] at p1; exact p1)⟩
end
end Lg
set_option Elab.async false
set_option linter.all false
set_option maxRecDepth 100000
namespace Lg
open PySem PySem.Spec PyProof.Rows L2
def wipeD (s : S) : List Nat → S
  | [] => s
  | v :: vs => (wipeD s vs).set v none
theorem SR.wipe {K : PySem.W.Frag} {ι : Ix} {H : Hp} {s : S} {σ : L2.St} (r : SR K ι H s σ) : ∀ vs : List Nat, SR K ι H (wipeD s vs) (wipe σ vs)
  | [] => r
  | v :: vs => by
    have ih := SR.wipe r vs
    refine ⟨by simp [wipeD, L2.wipe, ih.len], fun j e h => ?_⟩
    have h : ((wipeD s vs).set v none)[j]? = some (some e) := h
    show ∃ v_1, ((L2.wipe σ vs).set v none)[j]? = some (some v_1) ∧ _
    by_cases hj : v = j
    · subst hj
      by_cases hl : v < (wipeD s vs).length
      · rw [List.getElem?_set_self hl] at h; cases h
      · rw [List.getElem?_eq_none (by simp; omega)] at h; cases h
    · rw [List.getElem?_set_ne hj] at h ⊢
      exact ih.at_ j e h
theorem SR.conv {K : PySem.W.Frag} {ι ι' : Ix} {H H' : Hp} {s : S} {σ : L2.St} (r : SR K ι H s σ) (c : ∀ a, ι.out a → ι'.out a ∧ H' a = H a) (g : ∀ (n : Nat) a, ι.pl[n]? = some a → ι'.pl[n]? = some a) : SR K ι' H' s σ :=
  ⟨r.len, fun i d e => let ⟨v, h1, h2⟩ := r.at_ i d e; ⟨v, h1, h2.conv c g⟩⟩
abbrev W0 : WX := fun _ _ _ _ => False
abbrev tsts (X : Cx) (ifs : List Expr) : Sem Bool := forIn ifs true fun c r => if r = true then do let ok ← isTrue c X.env (eval c X.env); pure (ForInStep.yield ok) else pure (ForInStep.yield r)
/-- the tests of a comprehension -/
structure RTs (X : Cx) (W : WX) (es : List Expr) (f : FT) : Prop where
  run : ∀ {s : S} {σ : L2.St} {H : Hp} {ι : Ix} {h : Hh} {Q : Bool → Hp → Prop}, SR X.K ι H s σ → HX X ι H h → Po X W σ ι H (f s h) (fun b ι' H' => Q b H') →
    ∀ (pins : List (Addr × Obj)) (sh : Shared), Inv X pins σ H sh → wpAny (model X.prog X.w) X.A (tsts X es) (TP X pins σ Q) X.xe sh
def Wts (X : Cx) (es : List Expr) : TT := fun σ H Q => ∀ (pins : List (Addr × Obj)) (sh : Shared), Inv X pins σ H sh → wpAny (model X.prog X.w) X.A (tsts X es) (TP X pins σ Q) X.xe sh
theorem pts_wts {X : Cx} {es : List Expr} : PTs X es (Wts X es) := ⟨fun pins s σ H Q I h => h pins s I⟩
def fYes : FT := fun _ h => .ok true h
theorem rts_nil {X : Cx} {W : WX} : RTs X W [] fYes := ⟨fun r x p pins sh I => (pts_nil (X := X)).run pins sh _ _ _ I (p.use x)⟩
theorem rts_one {X : Cx} {W : WX} {e : Expr} {f : FT} (t : RT X W e f) : RTs X W [e] f := ⟨fun r x p pins sh I => (pts_one pt_wt).run pins sh _ _ _ I (t.run r x p)⟩
/-- no exception is let out of a comprehension here -/
def Oc.bindN {α β : Type} : Oc α → (α → Hh → Oc β) → Oc β
  | .ok a h, k => k a h
  | _, _ => .no
@[simp] theorem Oc.bindN_ok {α β : Type} (a : α) (h : Hh) (k : α → Hh → Oc β) : (Oc.ok a h).bindN k = k a h := rfl
@[simp] theorem Oc.bindN_ex {α β : Type} (x : Xn) (h : Hh) (k : α → Hh → Oc β) : (Oc.ex x h : Oc α).bindN k = .no := rfl
@[simp] theorem Oc.bindN_no {α β : Type} (k : α → Hh → Oc β) : (Oc.no : Oc α).bindN k = .no := rfl
def lcLoop (wk : Wk) (fg : FG) (ft : FT) (fe : FE) (s0 : S) : Nat → Nat → List D → Hh → Oc (List D)
  | 0, _, acc, h => if wk.fin h then .ok acc h else .no
  | n + 1, i, acc, h => match wk.at_ h i with
    | none => .no
    | some d => (fg d s0 h).bindN fun s1 h1 => (ft s1 h1).bindN fun b h2 => if b then (fe s1 h2).bindN fun e h3 => if line acc.length then lcLoop wk fg ft fe s0 n (i + 1) (acc ++ [e]) h3 else .no else lcLoop wk fg ft fe s0 n (i + 1) acc h2
/-- [fe for fg in fi if ft]: a list that is only read; one that may be changed -/
def fLcL (fi : FI) (fg : FG) (ft : FT) (fe : FE) (own : List Nat) : S → Hh → Oc (List D) := fun s h => (fi s h).bind fun wk h1 => lcLoop wk fg ft fe (wipeD s own) wk.n 0 [] h1
def fLc (fi : FI) (fg : FG) (ft : FT) (fe : FE) (own : List Nat) : FE := fun s h => (fLcL fi fg ft fe own s h).bind fun l h1 => .ok (.lst l) h1
def fLcN (fi : FI) (fg : FG) (ft : FT) (fe : FE) (own : List Nat) : FE := fun s h => (fLcL fi fg ft fe own s h).bind fun l h1 => .ok (.ref h1.length) (h1 ++ [.lst l])
section
variable {X : Cx} {W : WX} {e a b tg iter elt : Expr} {ifs : List Expr} {fe : FE} {ft : FT} {fi : FI} {fg : FG} {pos : Pos} {own : List (Str × Nat)} {scope : Scope}
/-- a target within a block: the slots behind it are those ahead of it but for the block's own -/
structure RGo (X : Cx) (W : WX) (tg : Expr) (g : FG) (own : List Nat) : Prop where
  run : ∀ {d : D} {v : V} {s : S} {σ : L2.St} {H : Hp} {ι : Ix} {h : Hh} {Q : L2.St → Hp → Prop}, SR X.K ι H s σ → HX X ι H h → ReX X ι H d v → Po X W σ ι H (g d s h) (fun s' ι' H' => ∀ σ', SR X.K ι' H' s' σ' → wipe σ' own = wipe σ own → Q σ' H') → Wg X tg v σ H Q
theorem wipe_set {σ : L2.St} {v : Option V} {i : Nat} : ∀ {vs : List Nat}, i ∈ vs → wipe (σ.set i v) vs = wipe σ vs
  | w :: vs, h => by
    unfold wipe
    by_cases hi : i ∈ vs
    · rw [wipe_set hi]
    · have e : i = w := (List.mem_cons.mp h).resolve_right hi
      subst e
      have out : ∀ (vs : List Nat) (σ : L2.St), i ∉ vs → wipe (σ.set i v) vs = (wipe σ vs).set i v := by
        intro vs
        induction vs with
        | nil => intro σ _; rfl
        | cons z vs ih =>
          intro σ hn
          unfold wipe
          rw [ih σ (fun q => hn (List.mem_cons_of_mem _ q)), List.set_comm _ _ (fun q : i = z => hn (q ▸ List.mem_cons_self))]
      rw [out vs σ hi, List.set_set]
theorem rgo_name (i : Nat) {y : Str} (hN : X.N.Nodup) {own : List Nat} (hi : X.N[i]? = some y := by rfl) (hm : i ∈ own := by decide) (hx : Loc X.env.scope y := by first | exact Or.inl rfl | exact Or.inr rfl) (hf : X.fn y = true ∨ X.env.scope.names.lookup y = some .local := by first | exact .inl rfl | exact .inr rfl) : RGo X W (.Name y pos) (gN i) own :=
  ⟨fun r x rv p => wg_of (pg_name hN hi hx hf) (p.use x _ (r.set rv i) (wipe_set hm))⟩
theorem wipe_sets {ι : Ix} {H : Hp} (hN : X.N.Nodup) {own : List Nat} : ∀ {es : List Expr} {is : List Nat}, NameAt X es is → (∀ i ∈ is, i ∈ own) → ∀ {ds : List D} {vs : List V} {s : S} {σ : L2.St} {Q : L2.St → Hp → Prop}, SR X.K ι H s σ → Res X.K ι H ds vs → ds.length = is.length → (∀ σ', SR X.K ι H (sets is ds s) σ' → wipe σ' own = wipe σ own → Q σ' H) → Wgs X es vs σ H Q
  | _, _, .nil, _, ds, vs, s, σ, Q, r, rs, l, q => by
    cases rs with
    | nil => exact wgs_of pgs_nil ⟨rfl, q _ r rfl⟩
    | cons _ _ => cases l
  | _, _, .cons (i := i) hi hx hf n, ho, ds, vs, s, σ, Q, r, rs, l, q => by
    cases rs with
    | nil => cases l
    | cons r1 r2 =>
      refine wgs_of (pgs_cons (pg_name hN hi hx hf) pgs_wgs rfl) ⟨_, _, rfl, ?_⟩
      exact wipe_sets hN n (fun j hj => ho j (List.mem_cons_of_mem _ hj)) (r.set r1 i) r2 (by simpa using l) fun σ' r' w => q σ' r' (w.trans (wipe_set (ho i List.mem_cons_self)))
theorem rgo_tup {es : List Expr} {is : List Nat} {kk : Nat} {own : List Nat} (hc : X.calm = true) (hN : X.N.Nodup) (n : NameAt X es is) (ho : ∀ i ∈ is, i ∈ own := by decide) (hn : (assignEach es X.env).length = is.length := by rfl) (hst : (assignEach es X.env).findIdx? (·.1) = none := by rfl) : RGo X W (.Tuple es kk pos) (gTup is) own :=
  ⟨fun {d v s σ H ι h Q} r x rv p => wg_of (pg_tup hc pgs_wgs hn hst) (by
    cases q : asT h d with
    | none => simp only [gTup, q] at p; exact p.elim
    | some l =>
      simp only [gTup, q] at p
      by_cases hl : l.length = is.length
      · rw [if_pos hl] at p
        obtain ⟨a, xs, rfl, h1, h2⟩ := asT_ok rv q
        exact ⟨a, xs, rfl, h1, by rw [← h2.len, hl], wipe_sets hN n ho r h2 hl fun σ' r' w => p.use x σ' r' w⟩
      · rw [if_neg hl] at p; exact p.elim)⟩
/-- what a comprehension needs within its block -/
structure Blk (X : Cx) (scope : Scope) (tg elt : Expr) (ifs : List Expr) (fg : FG) (ft : FT) (fe : FE) (own : List Nat) : Prop where
  g : ∀ (s : Shared) (H : Hp) (C : Addr) (cl : List (Str × Addr)) (fp : List Addr), RGo (X.blk s H scope (compEnvC scope cl C X.env) fp) W0 tg fg own
  t : ∀ (s : Shared) (H : Hp) (C : Addr) (cl : List (Str × Addr)) (fp : List Addr), RTs (X.blk s H scope (compEnvC scope cl C X.env) fp) W0 ifs ft
  e : ∀ (s : Shared) (H : Hp) (C : Addr) (cl : List (Str × Addr)) (fp : List Addr), RE (X.blk s H scope (compEnvC scope cl C X.env) fp) W0 elt fe
/-- the weakest wishes of all blocks of this kind -/
def Bg (X : Cx) (scope : Scope) (tg : Expr) : TG := fun v σ H Q => ∀ s0 H0 C cl fp, Wg (X.blk s0 H0 scope (compEnvC scope cl C X.env) fp) tg v σ H Q
def Bt (X : Cx) (scope : Scope) (ifs : List Expr) : TT := fun σ H Q => ∀ s0 H0 C cl fp, Wts (X.blk s0 H0 scope (compEnvC scope cl C X.env) fp) ifs σ H Q
def Be (X : Cx) (scope : Scope) (elt : Expr) : TE := fun σ H Q => ∀ s0 H0 C cl fp, We (X.blk s0 H0 scope (compEnvC scope cl C X.env) fp) elt σ H Q
/-- the list that is made at D behind the elements that acc tells -/
structure LcI (X : Cx) (ι1 : Ix) (H1 : Hp) (D : Addr) (s0 : S) (σ0 : L2.St) (acc : List Lg.D) (ι : Ix) (H : Hp) (h : Hh) : Prop where
  st : Step ι1 (ι.bare D) H1 H
  m : D ∈ ι.rs
  x : HX X ι H h
  r : SR X.K ι H s0 σ0
  l : ∃ vs, H D = some (.lst vs) ∧ Res X.K ι H acc vs
theorem wipe_wipe {σ : L2.St} {vs : List Nat} : wipe (wipe σ vs) vs = wipe σ vs := by
  have gen : ∀ (ws vs : List Nat) (σ : L2.St), (∀ i ∈ ws, i ∈ vs) → wipe (wipe σ ws) vs = wipe σ vs := by
    intro ws
    induction ws with
    | nil => intro vs σ _; rfl
    | cons w ws ih =>
      intro vs σ h
      show wipe ((wipe σ ws).set w none) vs = _
      rw [wipe_set (h w List.mem_cons_self), ih vs σ fun i hi => h i (List.mem_cons_of_mem _ hi)]
  exact gen vs vs σ fun _ h => h
/-- a thing that was not there is written -/
theorem updN {ι ι' : Ix} {H H' : Hp} {p : Addr} {u : HO} (n : H p = none) (t : Step ι ι' H H') : Step ι ι' H (upd H' p u) :=
  ⟨fun a o e na => by rw [upd_ne (ne_of_none e n)]; exact t.st a o e na, fun a o e => by rw [upd_ne (ne_of_none e n)]; exact t.th a o e, t.ex, t.sub, t.nrs⟩
theorem lc_rd {s : S} {σ : L2.St} {H : Hp} {Q : VK} (P : Ix → Hp → Oc (List Lg.D) → Prop) (pno : ∀ ι H, ¬ P ι H .no)
    (start : ∀ R : It → Hp → Prop, (∀ wk h1 J H1 ι1, SR X.K ι1 H1 s σ → HX X ι1 H1 h1 → WkJ X wk ι1 H1 J → P ι1 H1 (lcLoop wk fg ft fe (wipeD s (own.map (·.2))) wk.n 0 [] h1) → R J H1) → Wi X tg iter σ H R) (B : Blk X scope tg elt ifs fg ft fe (own.map (·.2)))
    (fin : ∀ acc h' ι1 H1 D ι' H', SR X.K ι1 H1 s σ → H1 D = none → LcI X ι1 H1 D (wipeD s (own.map (·.2))) (wipe σ (own.map (·.2))) acc ι' H' h' → P ι1 H1 (.ok acc h') → Q (.ref D) H') :
    tLc (Wi X tg iter) (Bg X scope tg) (Bt X scope ifs) (Be X scope elt) (own.map (·.2)) σ H Q := by
  refine start _ fun wk h1 J H1 ι1 r1 x1 j p1 => fun D nD => ?_
  have x0 : HX X (ι1.hide D) (upd H1 D (.lst [])) h1 := x1.hide nD
  have st0 : Step ι1 (ι1.hide D) H1 (upd H1 D (.lst [])) := Step.hide nD
  have bst : ∀ {ι' : Ix} {H' : Hp}, Step ι1 ι' H1 H' → Step ι1 (ι'.bare D) H1 H' := fun {ι' H'} t =>
    ⟨t.st, t.th, t.ex, fun a ha => List.mem_filter.mpr ⟨t.sub a ha, decide_eq_true fun e => by
      obtain ⟨_, o, z⟩ := x1.rs a ha
      rw [e, nD] at z
      cases z⟩, fun a ha => t.nrs a (List.mem_filter.mp ha).1⟩
  refine ⟨fun i m H' => ∃ acc h' ι', m = wk.n - i ∧ i ≤ wk.n ∧ Step ι1 ι' H1 H' ∧ LcI X ι1 H1 D (wipeD s (own.map (·.2))) (wipe σ (own.map (·.2))) acc ι' H' h' ∧ P ι1 H1 (lcLoop wk fg ft fe (wipeD s (own.map (·.2))) (wk.n - i) i acc h'), ⟨wk.n, [], h1, ι1.hide D, rfl, Nat.zero_le _, st0, ⟨bst st0, List.mem_cons_self, x0, (r1.wipe _).step st0, [], upd_same, .nil⟩, p1⟩, ?_⟩
  rintro i m H' ⟨acc, h', ι', rfl, hi, tt', L, pp⟩
  by_cases hlt : i < wk.n
  · obtain ⟨n, hn⟩ : ∃ n, wk.n - i = n + 1 := ⟨wk.n - i - 1, by omega⟩
    rw [hn] at pp
    unfold lcLoop at pp
    cases q : wk.at_ h' i with
    | none => simp only [q] at pp; exact (pno _ _ pp).elim
    | some d =>
      simp only [q] at pp
      obtain ⟨g1, g2⟩ := j.go ι' H' h' i d tt' L.x q
      -- behind a turn
      let Nx : Hp → Prop := fun H' => ∃ acc h' ι', Step ι1 ι' H1 H' ∧ LcI X ι1 H1 D (wipeD s (own.map (·.2))) (wipe σ (own.map (·.2))) acc ι' H' h' ∧ P ι1 H1 (lcLoop wk fg ft fe (wipeD s (own.map (·.2))) n (i + 1) acc h')
      refine .inr ⟨g1, Nx, fun H2 ⟨acc2, h2, ι2, z1, z2, z3⟩ => ⟨wk.n - (i + 1), by omega, acc2, h2, ι2, rfl, hlt, z1, z2, by rw [show wk.n - (i + 1) = n by omega]; exact z3⟩, fun y H3 hy => ?_⟩
      obtain ⟨t3, x3, r3⟩ := g2 y H3 hy
      have keepL : ∀ {ι4 : Ix} {H4 : Hp}, Step ι' ι4 H' H4 → ∃ vs, H4 D = some (.lst vs) ∧ Res X.K ι4 H4 acc vs := fun {ι4 H4} t => by
        obtain ⟨vs, e1, e2⟩ := L.l
        exact ⟨vs, t.st _ _ e1 (L.x.rs D L.m).1, e2.step t⟩
      intro b0 bH bC bcl bfp
      refine (B.g b0 bH bC bcl bfp).run (s := wipeD s (own.map (·.2))) (L.r.step t3) x3 r3 ?_
      cases q2 : fg d (wipeD s (own.map (·.2))) h' with
      | no => rw [q2] at pp; exact (pno _ _ pp).elim
      | ex z h4 => rw [q2] at pp; exact (pno _ _ pp).elim
      | ok s4 h4 =>
        rw [q2] at pp
        intro H4 ι4 t4 x4 σ4 r4 w4
        have w4' : wipe σ4 (own.map (·.2)) = wipe σ (own.map (·.2)) := w4.trans wipe_wipe
        refine ⟨w4', ?_⟩
        have t14 : Step ι1 ι4 H1 H4 := (tt'.trans t3).trans t4
        intro b1 bH1 bC1 bcl1 bfp1 pins1 sh1 I1
        refine (B.t b1 bH1 bC1 bcl1 bfp1).run r4 x4 ?_ pins1 sh1 I1
        cases q3 : ft s4 h4 with
        | no => simp only [Oc.bindN_ok, q3] at pp; exact (pno _ _ pp).elim
        | ex z h5 => simp only [Oc.bindN_ok, q3] at pp; exact (pno _ _ pp).elim
        | ok bb h5 =>
          simp only [Oc.bindN_ok, q3] at pp
          intro H5 ι5 t5 x5
          have t15 := t14.trans t5
          have t'5 : Step ι' ι5 H' H5 := (t3.trans t4).trans t5
          have m5 : D ∈ ι5.rs := t'5.sub D L.m
          have r05 : SR X.K ι5 H5 (wipeD s (own.map (·.2))) (wipe σ (own.map (·.2))) := L.r.step t'5
          cases bb with
          | false =>
            refine iteF ⟨acc, h5, ι5, t15, ⟨bst t15, m5, x5, r05, keepL t'5⟩, pp⟩
          | true =>
            refine iteT ?_
            simp only [if_true] at pp
            intro b2 bH2 bC2 bcl2 bfp2 pins2 sh2 I2
            refine (B.e b2 bH2 bC2 bcl2 bfp2).run (r4.step t5) x5 ?_ pins2 sh2 I2
            cases q4 : fe s4 h5 with
            | no => simp only [q4] at pp; exact (pno _ _ pp).elim
            | ex z h6 => simp only [q4] at pp; exact (pno _ _ pp).elim
            | ok ee h6 =>
              simp only [q4, Oc.bindN_ok] at pp
              intro H6 ι6 t6 x6 v6 rv6
              cases ln : line acc.length with
              | false => simp only [ln] at pp; exact (pno _ _ pp).elim
              | true =>
                simp only [ln, if_true] at pp
                have t'6 := t'5.trans t6
                have t16 := t15.trans t6
                have m6 : D ∈ ι6.rs := t'6.sub D L.m
                obtain ⟨vs, e1, e2⟩ := keepL t'6
                refine ⟨vs, e1, by rw [← e2.len]; exact line_ok ln, acc ++ [ee], h6, ι6, ?_, ⟨?_, m6, x6.hid m6, (L.r.step t'6).conv (hid_c m6) (fun _ _ e => e), vs ++ [v6], upd_same, ?_⟩, pp⟩
                · exact updN nD t16
                · exact updN nD (bst t16)
                · exact ((e2.conv (hid_c m6) fun _ _ e => e).app (.cons (rv6.conv (hid_c m6) fun _ _ e => e) .nil))
  · have ei : i = wk.n := by omega
    subst ei
    rw [Nat.sub_self] at pp
    unfold lcLoop at pp
    cases q : wk.fin h' with
    | false => simp only [q] at pp; exact (pno _ _ pp).elim
    | true =>
      simp only [q, if_true] at pp
      exact .inl ⟨j.stop ι' H' h' tt' L.x q, fin acc h' ι1 H1 D ι' H' r1 nD L pp⟩
theorem lc_gen (hc : X.calm = true) (hN : X.N.Nodup) (ti : RI X W tg iter fi) (ok : BlkOk X.N X.env.scope scope own) (B : Blk X scope tg elt ifs fg ft fe (own.map (·.2))) (hs : ∀ x, foldedSetIterable iter X.env x = pure x)
    {s : S} {σ : L2.St} {H : Hp} {ι : Ix} {h : Hh} {Q : VK} {β : Type} {kk : List D → Hh → Oc β} {G : β → Ix → Hp → Prop} (r : SR X.K ι H s σ) (x : HX X ι H h) (p : Po X W σ ι H ((fLcL fi fg ft fe (own.map (·.2)) s h).bind kk) G)
    (fin : ∀ acc h' ι1 H1 D ι' H', SR X.K ι1 H1 s σ → H1 D = none → LcI X ι1 H1 D (wipeD s (own.map (·.2))) (wipe σ (own.map (·.2))) acc ι' H' h' → Po X W σ ι1 H1 (kk acc h') G → Q (.ref D) H') :
    We X (.ListComp elt [⟨tg, iter, ifs, 0⟩] scope pos) σ H Q := by
  have p' : Po X W σ ι H ((fi s h).bind fun wk h1 => (lcLoop wk fg ft fe (wipeD s (own.map (·.2))) wk.n 0 [] h1).bind kk) G := by
    unfold fLcL at p
    cases q : fi s h with
    | ok d h1 => rw [q] at p; exact p
    | ex y h1 => rw [q] at p; exact p
    | no => rw [q] at p; exact p
  exact we_of (pe_lc (g := Bg X scope tg) (tt := Bt X scope ifs) (te := Be X scope elt) hc hN pi_wi ok (fun s0 H0 C cl fp => ⟨fun pins sh σ H v u Q I q hq => hq s0 H0 C cl fp pins sh u I q⟩) (fun s0 H0 C cl fp => ⟨fun pins sh σ H Q I hq => hq s0 H0 C cl fp pins sh I⟩) (fun s0 H0 C cl fp => ⟨fun pins sh σ H Q I hq => hq s0 H0 C cl fp pins sh I⟩) hs)
    (lc_rd (fun ι1 H1 o => Po X W σ ι1 H1 (o.bind kk) G) (fun _ _ z => z) (fun R k => ti.next r x p' fun wk h1 J H1 ι1 s1 r1 x1 j p1 => k wk h1 J H1 ι1 r1 x1 j p1) B fin)
theorem lc_val {acc : List Lg.D} {h' : Hh} {ι1 ι' : Ix} {H1 H' : Hp} {D : Addr} {s0 : S} {σ0 : L2.St} (L : LcI X ι1 H1 D s0 σ0 acc ι' H' h') : HX X (ι'.bare D) H' h' ∧ ReX X (ι'.bare D) H' (.lst acc) (.ref D) := by
  obtain ⟨vs, e1, e2⟩ := L.l
  have z : H' = upd H' D (.lst vs) := by
    funext b
    by_cases hb : b = D
    · rw [hb, upd_same, e1]
    · rw [upd_ne hb]
  have xb : HX X (ι'.bare D) H' h' := by
    have := L.x.bare L.m (u := .lst vs)
    rwa [← z] at this
  have rb : Res X.K (ι'.bare D) H' acc vs := by
    have := e2.bare L.m (u := .lst vs)
    rwa [← z] at this
  exact ⟨xb, .lst e1 (L.x.outB L.m) rb⟩
theorem lc_new {acc : List Lg.D} {h' : Hh} {ι1 ι' : Ix} {H1 H' : Hp} {D : Addr} {s0 : S} {σ0 : L2.St} (nD : H1 D = none) (L : LcI X ι1 H1 D s0 σ0 acc ι' H' h') : HX X ((ι'.bare D).add D) H' (h' ++ [.lst acc]) ∧ Step ι1 ((ι'.bare D).add D) H1 H' ∧ ReX X ((ι'.bare D).add D) H' (.ref h'.length) (.ref D) := by
  obtain ⟨vs, e1, e2⟩ := L.l
  have z : H' = upd H' D (.lst vs) := by
    funext b
    by_cases hb : b = D
    · rw [hb, upd_same, e1]
    · rw [upd_ne hb]
  have xb : HX X ((ι'.bare D).add D) H' (h' ++ [.lst acc]) := by
    have := L.x.unhide L.m (u := .lst vs) (o := .lst acc) ⟨vs, upd_same, e2.conv (place_c L.m) place_g⟩
    rwa [← z] at this
  refine ⟨xb, ⟨L.st.st, L.st.th, ?_, L.st.sub, L.st.nrs⟩, .ref (by show (ι'.pl ++ [D])[h'.length]? = some D; rw [← L.x.len]; simp)⟩
  obtain ⟨new, e, zz⟩ := L.st.ex
  refine ⟨new ++ [D], ?_, fun a ha => ?_⟩
  · show ι'.pl ++ [D] = _
    rw [show ι'.pl = ι1.pl ++ new from e, List.append_assoc]
  · rcases List.mem_append.mp ha with ha | ha
    · exact zz a ha
    · rw [List.mem_singleton.mp ha]; exact nD
theorem re_lc (hc : X.calm = true) (hN : X.N.Nodup) (ti : RI X W tg iter fi) (ok : BlkOk X.N X.env.scope scope own) (B : Blk X scope tg elt ifs fg ft fe (own.map (·.2))) (hs : ∀ x, foldedSetIterable iter X.env x = pure x := by intro _; rfl) :
    RE X W (.ListComp elt [⟨tg, iter, ifs, 0⟩] scope pos) (fLc fi fg ft fe (own.map (·.2))) :=
  ⟨fun {s σ H ι h Q} r x p => lc_gen hc hN ti ok B hs r x p fun acc h' ι1 H1 D ι' H' r1 nD L pp => pp.use' L.st (lc_val L).1 _ (lc_val L).2⟩
theorem re_lcN (hc : X.calm = true) (hN : X.N.Nodup) (ti : RI X W tg iter fi) (ok : BlkOk X.N X.env.scope scope own) (B : Blk X scope tg elt ifs fg ft fe (own.map (·.2))) (hs : ∀ x, foldedSetIterable iter X.env x = pure x := by intro _; rfl) :
    RE X W (.ListComp elt [⟨tg, iter, ifs, 0⟩] scope pos) (fLcN fi fg ft fe (own.map (·.2))) :=
  ⟨fun {s σ H ι h Q} r x p => lc_gen hc hN ti ok B hs r x p fun acc h' ι1 H1 D ι' H' r1 nD L pp => pp.use' (lc_new nD L).2.1 (lc_new nD L).1 _ (lc_new nD L).2.2⟩
/-- y = [..] on one line: it is stored within -/
theorem lc_st (i : Nat) {y : Str} {py spos : Pos} (hc : X.calm = true) (hN : X.N.Nodup) (hy : X.N[i]? = some y) (hyl : X.env.scope.names.lookup y = some .local) (hsw : swapsWith (.ListComp elt [⟨tg, iter, ifs, 0⟩] scope pos) (some (.Name y py)) spos.line X.env = pure true)
    (ti : RI X W tg iter fi) (ok : BlkOk X.N X.env.scope scope own) (B : Blk X scope tg elt ifs fg ft fe (own.map (·.2))) (hs : ∀ x, foldedSetIterable iter X.env x = pure x)
    {s : S} {σ : L2.St} {H : Hp} {ι : Ix} {h : Hh} {E : Ends} {kk : List D → Hh → Os} (r : SR X.K ι H s σ) (x : HX X ι H h) (p : PoS X W E ι H ((fLcL fi fg ft fe (own.map (·.2)) s h).toS s kk))
    (fin : ∀ acc h' ι1 H1 D ι' H', SR X.K ι1 H1 s σ → H1 D = none → LcI X ι1 H1 D (wipeD s (own.map (·.2))) (wipe σ (own.map (·.2))) acc ι' H' h' → PoS X W E ι1 H1 (kk acc h') → E.nx (σ.set i (some (.ref D))) H') :
    Ws X (.Assign [.Name y py] (.ListComp elt [⟨tg, iter, ifs, 0⟩] scope pos) spos) E σ H := by
  have p' : PoS X W E ι H ((fi s h).toS s fun wk h1 => (lcLoop wk fg ft fe (wipeD s (own.map (·.2))) wk.n 0 [] h1).toS s kk) := by
    unfold fLcL at p
    cases q : fi s h with
    | ok d h1 => rw [q] at p; exact p
    | ex y h1 => rw [q] at p; exact p
    | no => rw [q] at p; exact p
  exact ws_of (ps_setLc (g := Bg X scope tg) (tt := Bt X scope ifs) (te := Be X scope elt) hc hN hy hyl hsw pi_wi ok (fun s0 H0 C cl fp => ⟨fun pins sh σ H v u Q I q hq => hq s0 H0 C cl fp pins sh u I q⟩) (fun s0 H0 C cl fp => ⟨fun pins sh σ H Q I hq => hq s0 H0 C cl fp pins sh I⟩) (fun s0 H0 C cl fp => ⟨fun pins sh σ H Q I hq => hq s0 H0 C cl fp pins sh I⟩) hs)
    (lc_rd (Q := fun v H1 => E.nx (σ.set i (some v)) H1) (fun ι1 H1 o => PoS X W E ι1 H1 (o.toS s kk)) (fun _ _ z => z) (fun R k => ti.nextS r x p' fun wk h1 J H1 ι1 s1 r1 x1 j p1 => k wk h1 J H1 ι1 r1 x1 j p1) B fin)
theorem fLc_toS {fi : FI} {fg : FG} {ft : FT} {fe : FE} {own : List Nat} {s s0 : S} {h : Hh} {kk : Lg.D → Hh → Os} : (fLc fi fg ft fe own s h).toS s0 kk = (fLcL fi fg ft fe own s h).toS s0 fun l h1 => kk (.lst l) h1 := by
  unfold fLc
  cases fLcL fi fg ft fe own s h <;> rfl
theorem fLcN_toS {fi : FI} {fg : FG} {ft : FT} {fe : FE} {own : List Nat} {s s0 : S} {h : Hh} {kk : Lg.D → Hh → Os} : (fLcN fi fg ft fe own s h).toS s0 kk = (fLcL fi fg ft fe own s h).toS s0 fun l h1 => kk (.ref h1.length) (h1 ++ [.lst l]) := by
  unfold fLcN
  cases fLcL fi fg ft fe own s h <;> rfl
theorem rs_setLc (i : Nat) {y : Str} {py spos : Pos} (hc : X.calm = true) (hN : X.N.Nodup) (ti : RI X W tg iter fi) (ok : BlkOk X.N X.env.scope scope own) (B : Blk X scope tg elt ifs fg ft fe (own.map (·.2))) (hsw : swapsWith (.ListComp elt [⟨tg, iter, ifs, 0⟩] scope pos) (some (.Name y py)) spos.line X.env = pure true) (hy : X.N[i]? = some y := by rfl) (hyl : X.env.scope.names.lookup y = some .local := by rfl)
    (hs : ∀ x, foldedSetIterable iter X.env x = pure x := by intro _; rfl) : RS X W (.Assign [.Name y py] (.ListComp elt [⟨tg, iter, ifs, 0⟩] scope pos) spos) (gSet i (fLc fi fg ft fe (own.map (·.2)))) :=
  ⟨fun {s σ H ι h E} r x p => lc_st i hc hN hy hyl hsw ti ok B hs r x (by unfold gSet at p; rw [fLc_toS] at p; exact p) (kk := fun l h1 => .nx (s.set i (some (.lst l))) h1) fun acc h' ι1 H1 D ι' H' r1 nD L pp => pp _ _ _ L.st (lc_val L).1 ((r1.step L.st).set (lc_val L).2 i)⟩
theorem rs_setLcN (i : Nat) {y : Str} {py spos : Pos} (hc : X.calm = true) (hN : X.N.Nodup) (ti : RI X W tg iter fi) (ok : BlkOk X.N X.env.scope scope own) (B : Blk X scope tg elt ifs fg ft fe (own.map (·.2))) (hsw : swapsWith (.ListComp elt [⟨tg, iter, ifs, 0⟩] scope pos) (some (.Name y py)) spos.line X.env = pure true) (hy : X.N[i]? = some y := by rfl) (hyl : X.env.scope.names.lookup y = some .local := by rfl)
    (hs : ∀ x, foldedSetIterable iter X.env x = pure x := by intro _; rfl) : RS X W (.Assign [.Name y py] (.ListComp elt [⟨tg, iter, ifs, 0⟩] scope pos) spos) (gSet i (fLcN fi fg ft fe (own.map (·.2)))) :=
  ⟨fun {s σ H ι h E} r x p => lc_st i hc hN hy hyl hsw ti ok B hs r x (by unfold gSet at p; rw [fLcN_toS] at p; exact p) (kk := fun l h1 => .nx (s.set i (some (.ref h1.length))) (h1 ++ [.lst l])) fun acc h' ι1 H1 D ι' H' r1 nD L pp => pp _ _ _ (lc_new nD L).2.1 (lc_new nD L).1 ((r1.step (lc_new nD L).2.1).set (lc_new nD L).2.2 i)⟩
end
end Lg
set_option Elab.async false
set_option linter.all false
set_option maxRecDepth 100000
namespace Lg
open PySem PySem.Spec PyProof.Rows L2
/-- what is wanted behind a call -/
def PoC (P : Program) (w : World) (K : PySem.W.Frag) (mg : Str → Option Value) (E : XK) (ι : Ix) (H : Hp) (r : Oc D) (Q : VK) : Prop := match r with
  | .ok d h' => ∀ v H' ι', Step ι ι' H H' → HR K (clOf P w mg) ι' H' h' → Re K ι' H' d v → Q v H'
  | .ex x h' => ∀ H' ι' c d, Step ι ι' H H' → HR K (clOf P w mg) ι' H' h' → XR K (clOf P w mg) ι' H' x c d → E c d H'
  | .no => False
/-- the def at f reckons F of its arguments (the positional ones, then those of the keywords ks) -/
structure FnD (P : Program) (w : World) (K : PySem.W.Frag) (mg : Str → Option Value) (base : Heap) (k : Nat) (f : Addr) (ks : List Str) (F : List D → Hh → Oc D) : Prop where
  run : ∀ {A : Around} {outer : List Env} {s : Shared} {H : Hp} {us ws : List Value} {vs zs : List V} {ds es : List D} {ι : Ix} {h : Hh} {Q : VK} {E : XK}, Room k A → A.guards = some [] → Env0 P w K mg base A outer s H → Vals vs us → Vals zs ws →
    HR K (clOf P w mg) ι H h → Res K ι H ds vs → Res K ι H es zs → es.length = ks.length → PoC P w K mg E ι H (F (ds ++ es) h) Q → codeAny (model P w) A (.call (.ref f) ⟨us, ks.zip ws⟩) (CR (CX P w) outer P w H s Q E) s
theorem FnD.mono {P : Program} {w : World} {K : PySem.W.Frag} {mg : Str → Option Value} {base : Heap} {j k : Nat} {f : Addr} {ks : List Str} {F : List D → Hh → Oc D} (t : FnD P w K mg base j f ks F) (h : j ≤ k) : FnD P w K mg base k f ks F :=
  ⟨fun hr => t.run (hr.mono h)⟩
/-- a def by a less told function -/
theorem FnD.imp {P : Program} {w : World} {K : PySem.W.Frag} {mg : Str → Option Value} {base : Heap} {k : Nat} {f : Addr} {ks : List Str} {F G : List D → Hh → Oc D} (t : FnD P w K mg base k f ks F)
    (h : ∀ ds ι H hh vs Q E, HR K (clOf P w mg) ι H hh → Res K ι H ds vs → PoC P w K mg E ι H (G ds hh) Q → PoC P w K mg E ι H (F ds hh) Q) : FnD P w K mg base k f ks G :=
  ⟨fun hr hg e0 r1 r2 x rd re hl p => t.run hr hg e0 r1 r2 x rd re hl (h _ _ _ _ _ _ _ x (rd.app re) p)⟩
def startD (N : List Str) (ds : List D) : S := ds.map some ++ List.replicate (N.length - ds.length) none
theorem sr_start {K : PySem.W.Frag} {ι : Ix} {H : Hp} {N : List Str} {ds : List D} {vs : List V} (r : Res K ι H ds vs) : SR K ι H (startD N ds) (L2.start N vs) := by
  refine ⟨by simp [startD, L2.start, r.len], fun i d e => ?_⟩
  unfold startD at e
  by_cases hi : i < ds.length
  · rw [List.getElem?_append_left (by simpa using hi), List.getElem?_map] at e
    cases q : ds[i]? with
    | none => rw [q] at e; cases e
    | some d' =>
      rw [q] at e
      cases e
      obtain ⟨v, h1, h2⟩ := r.get q
      refine ⟨v, ?_, h2⟩
      unfold L2.start
      rw [List.getElem?_append_left (by rw [List.length_map, ← r.len]; exact hi), List.getElem?_map, h1]
      rfl
  · rw [List.getElem?_append_right (by simpa using hi), List.getElem?_replicate] at e
    split at e <;> cases e
/-- a body's outcome as a call's -/
def Os.fin : Os → Oc D
  | .nx _ h => .ok .non h
  | .rt d h => .ok d h
  | .ex x _ h => .ex x h
  | _ => .no
/-- pm: the arguments as they are written, in the parameters' order (with defaults); n: how many are written -/
def callB (N : List Str) (n : Nat) (pm : List D → List D) (g : FS) : List D → Hh → Oc D := fun ds h => if ds.length = n then (g (startD N (pm ds)) h).fin else .no
section
variable {P : Program} {w : World} {K : PySem.W.Frag} {mg : Str → Option Value} {base : Heap}
theorem fnd_of {x qual : Str} {st : Stmt} {f : Addr} {fd : FuncData} {N ps ks : List Str} {k n : Nat} {pm : List D → List D} {pv : List V → List V} {pu : List Value → List Value} {g : FS} (F : Fun K x qual st f fd) (S : FnScope N ps (defScope st))
    (hb : ∀ (s : Shared) (us ws : List Value), K.In s.heap → (us ++ ws).length = n → ws.length = ks.length → BindsTo s fd ⟨us, ks.zip ws⟩ (ps.zip (pu (us ++ ws))))
    (hl : ∀ vs : List V, vs.length = n → (pv vs).length = ps.length) (hv : ∀ {vs : List V} {us : List Value}, Vals vs us → vs.length = n → Vals (pv vs) (pu us)) (hd : ∀ {ι : Ix} {H : Hp} {ds : List D} {vs : List V}, Res K ι H ds vs → ds.length = n → Res K ι H (pm ds) (pv vs))
    (body : ∀ (cdv : Value) (A : Around) (outer : List Env) (s : Shared) (H : Hp) (E : XK), Room k (A.deeper (envOfC qual (defScope st) s.heap.objs.size f cdv)) → (A.deeper (envOfC qual (defScope st) s.heap.objs.size f cdv)).guards = some [] →
      RSs (cxOf (L2.CX P w) P w K mg base N qual (defScope st) f cdv A outer s H E) (fun c d _ H => E c d H) (defBody st) g) : FnD P w K mg base (k + 1) f ks (callB N n pm g) := by
  obtain ⟨oc, od, kV, doc, pmm, an, cdv, ct, osl, rfl, lk, hcd⟩ := F.ex
  refine ⟨fun {A outer s H us ws vs zs ds es ι h Q E} hr hg e0 r1 r2 x rd re hlen p => ?_⟩
  unfold callB at p
  by_cases hn : (ds ++ es).length = n
  · rw [if_pos hn] at p
    have rv : Vals (vs ++ zs) (us ++ ws) := r1.append r2
    have rds : Res K ι H (ds ++ es) (vs ++ zs) := rd.app re
    have hn2 : (vs ++ zs).length = n := by rw [← rds.len]; exact hn
    have hn3 : (us ++ ws).length = n := by rw [← rv.length]; exact hn2
    have hw : ws.length = ks.length := by rw [← r2.length, ← re.len]; exact hlen
    have up : ∀ {b : Addr} {o : Obj}, base.get? b = some o → s.heap.get? b = some o := fun e => (e0.bs _ _ e).1
    have KX : K.In s.heap := e0.mod.kin.keeps fun b o e => up e
    have lim : s.heap.NoLimit := e0.mod.nolimit.keeps fun b o e => up e
    have rvp := hv rv hn2
    have kinds : ∀ y ∈ ps.zip (pu (us ++ ws)), (defScope st).names.lookup y.1 = some .local ∨ ((defScope st).names.lookup y.1 = some .cell ∧ ((cellsFrom (s.heap.objs.size + 1) (defScope st).names []).lookup y.1).isSome = true) := by
      rintro ⟨n, v⟩ hy
      exact (S.par n (List.of_mem_zip hy).1).imp id fun q => ⟨q, PySem.W.cellsFrom_some _ _ _ (.inl q)⟩
    refine codeAny_call_function hr.depth (KX _ _ lk) rfl S.co S.gen rfl (PySem.W.codeRec_of KX hcd) (hb s us ws KX hn3 hw _ _ _ _ (wpAny_newFunctionEnv_cells S.kind kinds fun env he s1 y => ?_))
    subst he
    have I := inv_start (CX := L2.CX P w) (P := P) (w := w) (mg := mg) (E := E) (N := N) S hr.hd e0 (hl _ hn2) rvp y
    have out : ∀ {σ' : L2.St} {H' : Hp} {s' : Shared} {v : V} {u : Value}, Inv (cxOf (L2.CX P w) P w K mg base N qual (defScope st) f cdv A outer s H E) [] σ' H' s' → RelV v u → Q v H' → CE outer P w H s Q u s' := fun {σ' H' s' v u} J rv q => ⟨v, H', J.os, J.bare, J.base, J.hok, rv, q⟩
    have wss := (body cdv A outer s H E (hr.deeper _) hg).run (s := startD N (pm (ds ++ es))) (σ := L2.start N (pv (vs ++ zs))) (H := H) (ι := ι) (h := h) (E := { nx := fun _ H' => Q .non H', rt := Q }) (sr_start (hd rds hn)) x (by
      cases q : g (startD N (pm (ds ++ es))) h with
      | nx s' h' => rw [q] at p; exact fun σ' H' ι' t x' r' => p .non H' ι' t x' .non
      | rt d h' => rw [q] at p; exact p
      | bk s' h' => rw [q] at p; exact p.elim
      | ct s' h' => rw [q] at p; exact p.elim
      | ex z s' h' => rw [q] at p; exact fun σ' H' ι' c d t x' r' y' => p H' ι' c d t x' y'
      | no => rw [q] at p; exact p.elim)
    refine ⟨lim.keeps y.toInCall.keep, codeAny_func (wpAny_mono (wss [] s1 I) (fun fl s' z => ?_) fun e s' z => z)⟩
    cases fl with
    | ret u =>
      obtain ⟨v, σ', H', J, rv, q⟩ := z
      exact out J rv q
    | next =>
      obtain ⟨σ', H', J, q⟩ := z
      exact out (v := V.non) (u := Value.none) J rfl q
    | brk =>
      obtain ⟨_, _, _, q⟩ := z
      exact q.elim
    | cont =>
      obtain ⟨_, _, _, q⟩ := z
      exact q.elim
  · rw [if_neg hn] at p
    exact p.elim
/-- all arguments by position, none by default -/
theorem fnd_pos {x qual : Str} {st : Stmt} {f : Addr} {fd : FuncData} {N ps : List Str} {k : Nat} {g : FS} (F : Fun K x qual st f fd) (S : FnScope N ps (defScope st)) (hb : Binds K fd ps [])
    (body : ∀ (cdv : Value) (A : Around) (outer : List Env) (s : Shared) (H : Hp) (E : XK), Room k (A.deeper (envOfC qual (defScope st) s.heap.objs.size f cdv)) → (A.deeper (envOfC qual (defScope st) s.heap.objs.size f cdv)).guards = some [] →
      RSs (cxOf (L2.CX P w) P w K mg base N qual (defScope st) f cdv A outer s H E) (fun c d _ H => E c d H) (defBody st) g) : FnD P w K mg base (k + 1) f [] (callB N ps.length id g) :=
  fnd_of (pv := id) (pu := id) F S (fun s us ws hk hl hw => by
    obtain rfl : ws = [] := List.eq_nil_of_length_eq_zero hw
    have := hb s us hk (by simpa using hl)
    simpa using this) (fun vs h => h) (fun r _ => r) (fun r _ => r) body
end
/-! ### the context of a body -/
section
variable {X : Cx} {W : WX} {e o : Expr} {es : List Expr} {fs : FA} {fo : FE} {pos p apos : Pos} {k : Nat} {f : Addr} {F : List D → Hh → Oc D} {y : Str}
/-- f(e, ..) -/
def fCall (F : List D → Hh → Oc D) (fs : FA) : FE := fun s h => (fs s h).bind fun ds h1 => F ds h1
theorem run_D {pins : List (Addr × Obj)} {σ : L2.St} {H : Hp} {sh : Shared} {Q : VK} {ι : Ix} {h : Hh} {ks : List Str} {us ws : List Value} {vs zs : List V} {ds es : List D} (t : FnD X.prog X.w X.K X.mg X.base k f ks F) (hr : Room k X.A) (hg : X.A.guards = some []) (tk : Takes X W)
    (I : Inv X pins σ H sh) (r1 : Vals vs us) (r2 : Vals zs ws) (x : HX X ι H h) (rd : Res X.K ι H ds vs) (re : Res X.K ι H es zs) (hl : es.length = ks.length) (q : Po X W σ ι H (F (ds ++ es) h) (fun d ι' H' => ∀ v, ReX X ι' H' d v → Q v H')) :
    wpAny (model X.prog X.w) X.A (call (.ref f) us (ks.zip ws)) (EP X pins σ Q) X.xe sh := by
  refine wpAny_call (codeAny_mono (t.run (Q := Q) (E := fun c d H' => W c d σ H') hr hg I.env0 r1 r2 x rd re hl (by
    cases z : F (ds ++ es) h with
    | ok d h' => rw [z] at q; exact fun v H' ι' t x' r' => q H' ι' t x' v r'
    | ex y h' => rw [z] at q; exact q
    | no => rw [z] at q; exact q)) fun r s' z => ?_)
  cases r with
  | error e => exact tk e s' (XE.of_call I (fun cls d H' h => h) z)
  | ok fl =>
    cases fl with
    | ret u => exact I.after z
    | next => exact False.elim z
    | brk => exact False.elim z
    | cont => exact False.elim z
theorem re_call (t : FnD X.prog X.w X.K X.mg X.base k f [] F) (hr : Room k X.A) (hgd : X.A.guards = some []) (tk : Takes X W) (hm : X.mg y = some (.ref f)) (hk : PySem.W.keepIn X.K (.ref f) = true) (ta : RA X W (e :: es) fs)
    (hg : Gl X y := by rfl) (hdb : (y == ("__debug__" : Str)) = false := by decide) (he : starEach (e :: es) X.env = (false, eval e X.env) :: starEach es X.env := by rfl) (hpl : (backTo pos (starEach es X.env)).any (·.1) = false := by rfl) :
    RE X W (.Call (.Name y p) (e :: es) [] pos) (fCall F fs) := by
  refine ⟨fun {s σ H ι h Q} r x q pins sh I => ?_⟩
  refine wpAny_Call_Name_kw (ld_glob I hg hm ?_ hdb)
  refine PySem.W.callWith_K (h₀ := X.base) I.ok.mod.kin hk (thn (ta.next (R := fun vs H1 => ∃ ι1 h1 ds, Res X.K ι1 H1 ds vs ∧ HX X ι1 H1 h1 ∧ Po X W σ ι1 H1 (F ds h1) (fun d ι' H' => ∀ v, ReX X ι' H' d v → Q v H')) r x q (fun ds h1 vs H1 ι1 s1 r1 x1 rvs p1 => ⟨ι1, h1, ds, rvs, x1, p1⟩) pos pins sh I) fun us s1 ⟨vs, H1, I1, rv, ι1, h1, ds, rvs, x1, p1⟩ => ⟨I1.kIn, ?_⟩) he hpl
  have := run_D (us := us) (ws := []) (zs := []) (es := []) t hr hgd tk I1 rv .nil x1 rvs .nil rfl (by rw [List.append_nil]; exact p1)
  exact this
theorem re_call0 (t : FnD X.prog X.w X.K X.mg X.base k f [] F) (hr : Room k X.A) (hgd : X.A.guards = some []) (tk : Takes X W) (hm : X.mg y = some (.ref f)) (hk : PySem.W.keepIn X.K (.ref f) = true)
    (hg : Gl X y := by rfl) (hdb : (y == ("__debug__" : Str)) = false := by decide) : RE X W (.Call (.Name y p) [] [] pos) (fCall F fN) := by
  refine ⟨fun {s σ H ι h Q} r x q pins sh I => ?_⟩
  refine wpAny_Call_Name_kw (ld_glob I hg hm ?_ hdb)
  exact PySem.W.callWith_K0 I.kIn hk (run_D (us := []) (ws := []) (vs := []) (zs := []) (ds := []) (es := []) t hr hgd tk I .nil .nil x .nil .nil rfl q)
/-- o.m(e, ..), o an instance of the class called y -/
def insAt (h : Hh) (C : Str) : D → Option (List (Str × D))
  | .ref n => match h[n]? with
    | some (.ins c fs) => if c = C then some fs else none
    | _ => none
  | _ => none
theorem insAt_ok {ι : Ix} {H : Hp} {h : Hh} {C : Str} {d : D} {v : V} {fs : List (Str × D)} (x : HX X ι H h) (r : ReX X ι H d v) (e : insAt h C d = some fs) : ∃ n a c dx vs, d = .ref n ∧ v = .ref a ∧ ι.pl[n]? = some a ∧ h[n]? = some (.ins C fs) ∧ clAt X.mg C = some c ∧ H a = some (.ins c dx vs) ∧ ReF X.K ι H fs vs := by
  cases d with
  | ref n =>
    cases q : h[n]? with
    | none => simp [insAt, q] at e
    | some o =>
      cases o with
      | ins c fs' =>
        simp only [insAt, q] at e
        by_cases hc : c = C
        · rw [if_pos hc] at e
          cases e
          subst hc
          cases r with
          | ref hn =>
            obtain ⟨cc, dx, vs, e0, e1, rf⟩ := x.at_ n _ _ hn q
            exact ⟨n, _, cc, dx, vs, rfl, rfl, hn, q, e0, e1, rf⟩
        · rw [if_neg hc] at e; cases e
      | _ => simp [insAt, q] at e
  | _ => cases e
theorem look_none {ι : Ix} {H : Hp} {fs : List (Str × D)} {vs : List (Str × V)} {m : Str} (r : ReF X.K ι H fs vs) (e : fs.lookup m = none) : vs.lookup m = none := by
  rcases r.lookup (f := m) with ⟨_, z⟩ | ⟨d, v, z, _⟩
  · exact z
  · rw [e] at z; cases z
def fMeth (C m : Str) (F : List D → Hh → Oc D) (fo : FE) (fs : FA) : FE := fun s h => (fo s h).bind fun d h1 => match insAt h1 C d with
  | none => .no
  | some fl => if (fl.lookup m).isSome then .no else (fs s h1).bind fun ds h2 => F (d :: ds) h2
theorem re_meth {C m : Str} {c : Addr} {pl : Sem Bool} (hC : X.mg C = some (.ref c)) (cl : Cls X.K c) (hm : Meth X.K c m f) (t : FnD X.prog X.w X.K X.mg X.base k f [] F) (hr : Room k X.A) (hgd : X.A.guards = some []) (tk : Takes X W) (to : RE X W o fo) (ta : RA X W (e :: es) fs)
    (hst : starEach (e :: es) X.env = (false, eval e X.env) :: starEach es X.env := by rfl) (hpl : (backTo pos (starEach es X.env)).any (·.1) = false := by rfl)
    (ht : eval (.Call (.Attribute o m apos) (e :: es) [] pos) X.env = (do
      let ov ← eval o X.env
      standAt apos.atName
      let (f, first) ← holding [ov] (getMethod ov m pl)
      callWith pos f first (backTo pos (starEach (e :: es) X.env)) (backToKw pos (keywordEach [] X.env))) := by rfl) :
    RE X W (.Call (.Attribute o m apos) (e :: es) [] pos) (fMeth C m F fo fs) := by
  refine ⟨fun {s σ H ι h Q} r x q pins sh I => ?_⟩
  refine PySem.W.methodCall_KW (pl := pl) (thn (to.next (R := fun v H1 => ∃ ι1 h1 d, SR X.K ι1 H1 s σ ∧ HX X ι1 H1 h1 ∧ ReX X ι1 H1 d v ∧ Po X W σ ι1 H1 (match insAt h1 C d with
    | none => .no
    | some fl => if (fl.lookup m).isSome then .no else (fs s h1).bind fun ds h2 => F (d :: ds) h2) (fun d ι' H' => ∀ v, ReX X ι' H' d v → Q v H')) r x q (fun d h1 v H1 ι1 s1 r1 x1 rv p1 => ⟨ι1, h1, d, r1, x1, rv, p1⟩) pins sh I) fun u s1 ⟨v, H1, I1, rx, ι1, h1, d, r1, x1, rv, p1⟩ => ?_) ht
  cases q1 : insAt h1 C d with
  | none => simp only [q1] at p1; exact p1.elim
  | some fl =>
    simp only [q1] at p1
    cases q2 : (fl.lookup m).isSome with
    | true => simp only [q2, if_true] at p1; exact p1.elim
    | false =>
      simp only [q2, Bool.false_eq_true, if_false] at p1
      obtain ⟨n, a, cc, dx, vs, rfl, rfl, hn, hh, ec, ea, rf⟩ := insAt_ok x1 rv q1
      obtain rfl : u = Value.ref a := rx
      have ecc : cc = c := by
        change clAt X.mg C = _ at ec
        unfold clAt at ec
        rw [hC] at ec
        exact (Option.some.inj ec).symm
      subst ecc
      refine getmeth_ok I1 ea cl hm (look_none rf (by simpa using q2)) ?_
      refine PySem.W.callWith_K (first := [.ref a]) (h₀ := X.base) I.ok.mod.kin hm.kp (thn (ta.next (R := fun vs H2 => ∃ ι2 h2 ds, ReX X ι2 H2 (.ref n) (.ref a) ∧ Res X.K ι2 H2 ds vs ∧ HX X ι2 H2 h2 ∧ Po X W σ ι2 H2 (F (.ref n :: ds) h2) (fun d ι' H' => ∀ v, ReX X ι' H' d v → Q v H')) r1 x1 p1 (fun ds h2 vs H2 ι2 s2 r2 x2 rvs p2 => ⟨ι2, h2, ds, rv.step s2, rvs, x2, p2⟩) pos pins s1 I1) fun us s2 ⟨vs, H2, I2, r, ι2, h2, ds, rn, rvs, x2, p2⟩ => ⟨I2.kIn, ?_⟩) hst hpl
      have := run_D (us := .ref a :: us) (ws := []) (vs := .ref a :: vs) (zs := []) (ds := .ref n :: ds) (es := []) t hr hgd tk I2 (.cons rfl r) .nil x2 (.cons rn rvs) .nil rfl (by rw [List.append_nil]; exact p2)
      exact this
def fMeth0 (C m : Str) (F : List D → Hh → Oc D) (fo : FE) : FE := fun s h => (fo s h).bind fun d h1 => match insAt h1 C d with
  | none => .no
  | some fl => if (fl.lookup m).isSome then .no else F [d] h1
theorem re_meth0 {C m : Str} {c : Addr} {pl : Sem Bool} (hC : X.mg C = some (.ref c)) (cl : Cls X.K c) (hm : Meth X.K c m f) (t : FnD X.prog X.w X.K X.mg X.base k f [] F) (hr : Room k X.A) (hgd : X.A.guards = some []) (tk : Takes X W) (to : RE X W o fo)
    (ht : eval (.Call (.Attribute o m apos) [] [] pos) X.env = (do
      let ov ← eval o X.env
      standAt apos.atName
      let (f, first) ← holding [ov] (getMethod ov m pl)
      callWith pos f first (backTo pos (starEach [] X.env)) (backToKw pos (keywordEach [] X.env))) := by rfl) :
    RE X W (.Call (.Attribute o m apos) [] [] pos) (fMeth0 C m F fo) := by
  refine ⟨fun {s σ H ι h Q} r x q pins sh I => ?_⟩
  refine PySem.W.methodCall_KW (pl := pl) (thn (to.next (R := fun v H1 => ∃ ι1 h1 d, HX X ι1 H1 h1 ∧ ReX X ι1 H1 d v ∧ Po X W σ ι1 H1 (match insAt h1 C d with
    | none => .no
    | some fl => if (fl.lookup m).isSome then .no else F [d] h1) (fun d ι' H' => ∀ v, ReX X ι' H' d v → Q v H')) r x q (fun d h1 v H1 ι1 s1 r1 x1 rv p1 => ⟨ι1, h1, d, x1, rv, p1⟩) pins sh I) fun u s1 ⟨v, H1, I1, rx, ι1, h1, d, x1, rv, p1⟩ => ?_) ht
  cases q1 : insAt h1 C d with
  | none => simp only [q1] at p1; exact p1.elim
  | some fl =>
    simp only [q1] at p1
    cases q2 : (fl.lookup m).isSome with
    | true => simp only [q2, if_true] at p1; exact p1.elim
    | false =>
      simp only [q2, Bool.false_eq_true, if_false] at p1
      obtain ⟨n, a, cc, dx, vs, rfl, rfl, hn, hh, ec, ea, rf⟩ := insAt_ok x1 rv q1
      obtain rfl : u = Value.ref a := rx
      have ecc : cc = c := by
        change clAt X.mg C = _ at ec
        unfold clAt at ec
        rw [hC] at ec
        exact (Option.some.inj ec).symm
      subst ecc
      refine getmeth_ok I1 ea cl hm (look_none rf (by simpa using q2)) ?_
      exact PySem.W.callWith_K0 (first := [.ref a]) I1.kIn hm.kp (run_D (us := [.ref a]) (ws := []) (vs := [.ref a]) (zs := []) (ds := [.ref n]) (es := []) t hr hgd tk I1 (.cons rfl .nil) .nil x1 (.cons rv .nil) .nil rfl (by rw [List.append_nil]; exact p1))
/-! ### fields -/
def fFld (C f : Str) (fo : FE) : FE := fun s h => (fo s h).bind fun d h1 => match insAt h1 C d with
  | none => .no
  | some fl => ofO h1 (fl.lookup f)
theorem re_fld {C g : Str} {c : Addr} (hC : X.mg C = some (.ref c)) (cl : Cls X.K c) (hn : NoAttr X.K c g) (to : RE X W o fo) (hb : attributeBase o g X.env (eval o X.env) = eval o X.env := by rfl) : RE X W (.Attribute o g pos) (fFld C g fo) :=
  ⟨fun {s σ H ι h Q} r x q => we_of (pe_fld pe_we hb) (to.next r x q fun d h1 v H1 ι1 s1 r1 x1 rv p1 => by
    cases q1 : insAt h1 C d with
    | none => simp only [q1] at p1; exact p1.elim
    | some fl =>
      simp only [q1] at p1
      obtain ⟨n, a, cc, dx, vs, rfl, rfl, hnn, hh, ec, ea, rf⟩ := insAt_ok x1 rv q1
      have ecc : cc = c := by
        change clAt X.mg C = _ at ec
        unfold clAt at ec
        rw [hC] at ec
        exact (Option.some.inj ec).symm
      subst ecc
      rcases rf.lookup (f := g) with ⟨z, _⟩ | ⟨dd, vv, z1, z2, z3⟩
      · rw [z] at p1; exact p1.elim
      · rw [z1] at p1
        exact ⟨a, cc, dx, vs, vv, rfl, ea, cl, hn, z2, p1.use x1 _ z3⟩)⟩
end
end Lg
set_option Elab.async false
set_option linter.all false
set_option maxRecDepth 100000
set_option maxHeartbeats 1000000
namespace Lg
open PySem PySem.Spec PyProof.Rows L2
/-! ### calls of what is built in -/
abbrev BF := List D → Hh → Option (D × Hh)
def ofP : Option (D × Hh) → Oc D
  | some (d, h) => .ok d h
  | none => .no
@[simp] theorem ofP_some (d : D) (h : Hh) : ofP (some (d, h)) = .ok d h := rfl
@[simp] theorem ofP_none : ofP none = .no := rfl
def rC (X : Cx) (op : BF) : List V → Hp → VK → Prop := fun vs H Q => ∃ ι h ds d h', HX X ι H h ∧ Res X.K ι H ds vs ∧ op ds h = some (d, h') ∧ ∀ v H' ι', Step ι ι' H H' → HX X ι' H' h' → ReX X ι' H' d v → Q v H'
def fCB (op : BF) (fs : FA) : FE := fun s h => (fs s h).bind fun ds h1 => ofP (op ds h1)
section
variable {X : Cx} {W : WX} {e o : Expr} {es : List Expr} {fs : FA} {fo : FE} {pos p apos cpos : Pos} {y : Str} {bid T : String} {op : BF}
theorem cb_core {s : S} {σ : L2.St} {H : Hp} {ι : Ix} {h : Hh} {Q : VK} (ta : RA X W es fs) (r : SR X.K ι H s σ) (x : HX X ι H h) (q : Po X W σ ι H (fCB op fs s h) (fun d ι' H' => ∀ v, ReX X ι' H' d v → Q v H')) : tCB (rC X op) (Wa X es) σ H Q :=
  ta.next r x q fun ds h1 vs H1 ι1 s1 r1 x1 rvs p1 => by
    cases z : op ds h1 with
    | none => rw [z] at p1; exact p1.elim
    | some dh =>
      obtain ⟨d, h'⟩ := dh
      rw [z] at p1
      exact ⟨ι1, h1, ds, d, h', x1, rvs, z, fun v H' ι' t x' r' => p1 H' ι' t x' v r'⟩
theorem re_cb (hc : CallR X (.builtin bid) (rC X op)) (hm : X.mg y = none) (hv : bootBuiltins y = some (.builtin bid)) (ta : RA X W (e :: es) fs) (hg : Gl X y := by rfl) (hn : y ≠ "__name__" := by decide) (hdb : (y == ("__debug__" : Str)) = false := by decide)
    (he : starEach (e :: es) X.env = (false, eval e X.env) :: starEach es X.env := by rfl) (hpl : (backTo pos (starEach es X.env)).any (·.1) = false := by rfl) : RE X W (.Call (.Name y p) (e :: es) [] pos) (fCB op fs) :=
  ⟨fun r x q => we_of (pe_callB hc hg hm hv pa_wa hn hdb he hpl) (cb_core ta r x q)⟩
theorem re_ct (hc : CallR X (.type T) (rC X op)) (hm : X.mg y = none) (hv : bootBuiltins y = some (.type T)) (ta : RA X W (e :: es) fs) (hg : Gl X y := by rfl) (hn : y ≠ "__name__" := by decide) (hdb : (y == ("__debug__" : Str)) = false := by decide)
    (he : starEach (e :: es) X.env = (false, eval e X.env) :: starEach es X.env := by rfl) (hpl : (backTo pos (starEach es X.env)).any (·.1) = false := by rfl) : RE X W (.Call (.Name y p) (e :: es) [] pos) (fCB op fs) :=
  ⟨fun r x q => we_of (pe_callTy hc hg hm hv pa_wa hn hdb he hpl) (cb_core ta r x q)⟩
theorem Res.one {ι : Ix} {H : Hp} {d : D} {vs : List V} (r : Res X.K ι H [d] vs) : ∃ v, vs = [v] ∧ ReX X ι H d v := by
  cases r with
  | cons h r => cases r; exact ⟨_, rfl, h⟩
theorem Res.two {ι : Ix} {H : Hp} {d e : D} {vs : List V} (r : Res X.K ι H [d, e] vs) : ∃ v w, vs = [v, w] ∧ ReX X ι H d v ∧ ReX X ι H e w := by
  cases r with
  | cons h r => cases r with
    | cons h2 r => cases r; exact ⟨_, _, rfl, h, h2⟩
/-! ### len -/
def bLen : BF
  | [.str z], h => if line z.length then some (.int z.length, h) else none
  | [d], h => match asS h d with
    | some l => some (.int l.length, h)
    | none => match asD h d with
      | some (false, l) => some (.int l.length, h)
      | _ => none
  | _, _ => none
theorem c_len : CallR X (.builtin "len") (rC X bLen) := by
  intro pins s σ H vs us Q I r ⟨ι, h, ds, d, h', x, rs, e, q⟩
  match ds, e with
  | [dd], e =>
    obtain ⟨v, rfl, rv⟩ := rs.one
    have gen : (match asS h dd with
      | some l => some (D.int l.length, h)
      | none => match asD h dd with
        | some (false, l) => some (D.int l.length, h)
        | _ => none) = some (d, h') → wpAny (model X.prog X.w) X.A (call (.builtin "len") us) (EP X pins σ Q) X.xe s := fun e => by
      cases z : asS h dd with
      | some l =>
        simp only [z, Option.some.injEq, Prod.mk.injEq] at e
        obtain ⟨rfl, rfl⟩ := e
        obtain ⟨a, xs, rfl, hs, rl⟩ := asS_ok x rv z
        exact call_len_seq pins s σ H _ us Q I r ⟨a, xs, rfl, hs, by rw [← rl.len]; exact q _ _ _ Step.refl x (.int _)⟩
      | none =>
        simp only [z] at e
        cases z2 : asD h dd with
        | none => simp [z2] at e
        | some tl =>
          obtain ⟨t, l⟩ := tl
          cases t with
          | true => simp [z2] at e
          | false =>
            simp only [z2, Option.some.injEq, Prod.mk.injEq] at e
            obtain ⟨rfl, rfl⟩ := e
            obtain ⟨a, rfl, ⟨_, kvs, h1, h2⟩ | ⟨w, _⟩⟩ := asD_ok x rv z2
            · obtain ⟨u, rfl, ru⟩ := vals1 r
              cases ru
              exact d_len I (.inl h1) fun t s' I' => ⟨.int kvs.length, H, I', ⟨t, rfl⟩, by rw [← h2.len]; exact q _ _ _ Step.refl x (.int _)⟩
            · cases w
    cases dd with
    | str z =>
      cases ln : line z.length with
      | false => simp [bLen, ln] at e
      | true =>
        simp only [bLen, ln, if_true, Option.some.injEq, Prod.mk.injEq] at e
        obtain ⟨rfl, rfl⟩ := e
        cases rv
        exact call_len_str pins s σ H _ us Q I r ⟨z, rfl, Nat.le_of_lt (line_ok ln), q _ _ _ Step.refl x (.int _)⟩
    | _ => exact gen e
  | [], e => cases e
  | _ :: _ :: _, e => simp [bLen] at e
/-! ### list, tuple -/
def bList : BF
  | [d], h => (asS h d).map fun l => (.lst l, h)
  | _, _ => none
def bListN : BF
  | [d], h => (asS h d).map fun l => (.ref h.length, h ++ [.lst l])
  | _, _ => none
def bTup : BF
  | [.tup l], h => some (.tup l, h)
  | [d], h => (asF h d).map fun l => (.tup l, h)
  | _, _ => none
theorem c_list : CallR X (.type "list") (rC X bList) := by
  intro pins s σ H vs us Q I r ⟨ι, h, ds, d, h', x, rs, e, q⟩
  match ds, e with
  | [dd], e =>
    obtain ⟨v, rfl, rv⟩ := rs.one
    obtain ⟨l, z, e⟩ := Option.map_eq_some_iff.mp (show (asS h dd).map (fun l => (D.lst l, h)) = some (d, h') from e)
    cases e
    obtain ⟨a, xs, rfl, hs, rl⟩ := asS_ok x rv z
    exact call_list_of pins s σ H _ us Q I r ⟨a, xs, rfl, hs, fun p n => q _ _ _ (Step.new n) (x.new n) (.lst upd_same (x.fresh n) (rl.step (Step.new n)))⟩
  | [], e => cases e
  | _ :: _ :: _, e => cases e
theorem c_listN : CallR X (.type "list") (rC X bListN) := by
  intro pins s σ H vs us Q I r ⟨ι, h, ds, d, h', x, rs, e, q⟩
  match ds, e with
  | [dd], e =>
    obtain ⟨v, rfl, rv⟩ := rs.one
    obtain ⟨l, z, e⟩ := Option.map_eq_some_iff.mp (show (asS h dd).map (fun l => (D.ref h.length, h ++ [O.lst l])) = some (d, h') from e)
    cases e
    obtain ⟨a, xs, rfl, hs, rl⟩ := asS_ok x rv z
    exact call_list_of pins s σ H _ us Q I r ⟨a, xs, rfl, hs, fun p n => q _ _ _ (Step.place n) (x.place n ⟨xs, upd_same, rl.step (Step.place n)⟩) (.ref (by show (ι.pl ++ [p])[h.length]? = some p; rw [← x.len]; simp))⟩
  | [], e => cases e
  | _ :: _ :: _, e => cases e
theorem c_tup : CallR X (.type "tuple") (rC X bTup) := by
  intro pins s σ H vs us Q I r ⟨ι, h, ds, d, h', x, rs, e, q⟩
  match ds, e with
  | [dd], e =>
    obtain ⟨v, rfl, rv⟩ := rs.one
    have gen : (asF h dd).map (fun l => (D.tup l, h)) = some (d, h') → wpAny (model X.prog X.w) X.A (call (.type "tuple") us) (EP X pins σ Q) X.xe s := fun e => by
      obtain ⟨l, z, e⟩ := Option.map_eq_some_iff.mp e
      cases e
      obtain ⟨a, xs, rfl, hs, rl⟩ := asF_ok x rv z
      exact call_tuple_of pins s σ H _ us Q I r ⟨a, xs, rfl, .inl ⟨hs, fun p n => q _ _ _ (Step.new n) (x.new n) (.tup upd_same (x.fresh n) (rl.step (Step.new n)))⟩⟩
    cases dd with
    | tup l =>
      cases e
      cases rv with
      | tup t1 n1 t2 => exact call_tuple_of pins s σ H _ us Q I r ⟨_, _, rfl, .inr ⟨.inl (.inl t1), q _ _ _ Step.refl x (.tup t1 n1 t2)⟩⟩
    | _ => exact gen e
  | [], e => cases e
  | _ :: _ :: _, e => simp [bTup] at e
/-! ### int, str, repr -/
def bInt : BF
  | [.int i], h => some (.int i, h)
  | [.bl b], h => some (.int (if b then 1 else 0), h)
  | _, _ => none
theorem c_int : CallR X (.type "int") (rC X bInt) := by
  intro pins s σ H vs us Q I r ⟨ι, h, ds, d, h', x, rs, e, q⟩
  match ds, e with
  | [.int i], e =>
    cases e
    obtain ⟨v, rfl, rv⟩ := rs.one
    cases rv
    exact call_int1 pins s σ H _ us Q I r (.inl ⟨i, rfl, q _ _ _ Step.refl x (.int _)⟩)
  | [.bl b], e =>
    cases e
    obtain ⟨v, rfl, rv⟩ := rs.one
    cases rv
    exact call_int1 pins s σ H _ us Q I r (.inr ⟨b, rfl, q _ _ _ Step.refl x (.int _)⟩)
def smlLog (i : Int) : Bool := decide (i.natAbs.log2 < 1920)
def bStr : BF
  | [.int i], h => if smlLog i then some (.str (toString i), h) else none
  | [.str z], h => some (.str z, h)
  | _, _ => none
theorem c_str : CallR X (.type "str") (rC X bStr) := by
  intro pins s σ H vs us Q I r ⟨ι, h, ds, d, h', x, rs, e, q⟩
  match ds, e with
  | [.int i], e =>
    cases ln : smlLog i with
    | false => simp [bStr, ln] at e
    | true =>
      simp only [bStr, ln, if_true, Option.some.injEq, Prod.mk.injEq] at e
      obtain ⟨rfl, rfl⟩ := e
      obtain ⟨v, rfl, rv⟩ := rs.one
      cases rv
      exact call_str_int pins s σ H _ us Q I r ⟨i, rfl, of_decide_eq_true ln, q _ _ _ Step.refl x (.str _)⟩
  | [.str z], e =>
    cases e
    obtain ⟨v, rfl, rv⟩ := rs.one
    cases rv
    exact SkE.call_str_str pins s σ H _ us Q I r ⟨z, rfl, q _ _ _ Step.refl x (.str _)⟩
/-- repr(x), x data without dicts -/
def rRepr (K : PySem.W.Frag) : List V → Hp → VK → Prop := fun xs H Q => ∃ (x : V) (d : PyData), xs = [x] ∧ Dp K H x d ∧ (d.canLay0 = true ∧ d.depth ≤ 60) ∧ d.showable = true ∧ d.shown.length ≤ sizeLine ∧ Q (.str d.shown) H
theorem call_reprD (hg : X.A.guards = some []) (hu : X.A.units + 200 < cLine) : CallR X (.builtin "repr") (rRepr X.K) := fun pins s σ H xs us Q I r h => by
  obtain ⟨x, d, rfl, dp, fi, sh, sz, q⟩ := h
  obtain ⟨u, rfl, ru⟩ := vals1 r
  have back : ∀ {a : Addr}, Value.ref a = u → wpAny (model X.prog X.w) X.A (call (.builtin "repr") [u]) (EP X pins σ Q) X.xe s := fun {a} e => by
    subst e
    obtain ⟨as, rd⟩ := Dp.reads I d x _ dp ru
    refine repr_of_reads' rd sh (fun z => ?_) hg (by have := fi.2; omega) (fun b o e => e) (fun h' t tk k => ⟨.str d.shown, H, I.kept k, ⟨_, rfl⟩, q⟩) sz
    rw [PyData.hasDict_of_canLay d fi.1] at z
    cases z
  cases dp with
  | non =>
    obtain rfl : u = Value.none := ru
    exact PySem.P.repr_of_none ⟨.str _, H, I.tok _, ⟨_, rfl⟩, q⟩
  | bl b =>
    obtain rfl : u = Value.bool b := ru
    exact PySem.P.repr_of_bool ⟨.str _, H, I.tok _, ⟨_, rfl⟩, q⟩
  | int i =>
    obtain ⟨t, rfl⟩ := ru
    exact PySem.P.repr_of_int (by simpa [PyData.showable] using sh) ⟨.str _, H, I.tok _, ⟨_, rfl⟩, q⟩
  | str y =>
    obtain ⟨t, rfl⟩ := ru
    exact PySem.P.repr_of_str ⟨.str _, H, I.tok _, ⟨_, rfl⟩, q⟩ sz
  | lst h1 h2 => exact back ru.symm
  | tup h1 h2 => exact back ru.symm
/-- may it be shown within the line -/
def showOk (d : PyData) : Bool := d.canLay0 && decide (d.depth ≤ 60) && d.showable && decide (d.shown.length ≤ 16000000)
def bRepr : BF
  | [d], h => match py h 66 d with
    | some p => if showOk p then some (.str p.shown, h) else none
    | none => none
  | _, _ => none
theorem c_repr (hg : X.A.guards = some []) (hu : X.A.units + 200 < cLine) : CallR X (.builtin "repr") (rC X bRepr) := by
  intro pins s σ H vs us Q I r ⟨ι, h, ds, d, h', x, rs, e, q⟩
  match ds, e with
  | [dd], e =>
    obtain ⟨v, rfl, rv⟩ := rs.one
    cases z : py h 66 dd with
    | none => simp [bRepr, z] at e
    | some p =>
      cases sh : showOk p with
      | false => simp [bRepr, z, sh] at e
      | true =>
        simp only [bRepr, z, sh, if_true, Option.some.injEq, Prod.mk.injEq] at e
        obtain ⟨rfl, rfl⟩ := e
        unfold showOk at sh
        simp only [Bool.and_eq_true, decide_eq_true_eq] at sh
        exact call_reprD hg hu pins s σ H _ us Q I r ⟨v, p, rfl, py_ok x 66 _ _ _ z rv, ⟨sh.1.1.1, sh.1.1.2⟩, sh.1.2, Nat.le_trans sh.2 (by decide), q _ _ _ Step.refl x (.str _)⟩
  | [], e => cases e
  | _ :: _ :: _, e => simp [bRepr] at e
/-! ### max, min of two; all, any, sum of a list -/
def bMax2 : BF
  | [.int i, .int j], h => some (.int (if j > i then j else i), h)
  | _, _ => none
def bMin2 : BF
  | [.int i, .int j], h => some (.int (if j < i then j else i), h)
  | _, _ => none
theorem c_max2 (hc : X.calm = true) : CallR X (.builtin "max") (rC X bMax2) := by
  intro pins s σ H vs us Q I r ⟨ι, h, ds, d, h', x, rs, e, q⟩
  match ds, e with
  | [.int i, .int j], e =>
    cases e
    obtain ⟨v, w, rfl, r1, r2⟩ := rs.two
    cases r1; cases r2
    exact call_max2 hc pins s σ H _ us Q I r ⟨i, j, rfl, q _ _ _ Step.refl x (.int _)⟩
theorem c_min2 (hc : X.calm = true) : CallR X (.builtin "min") (rC X bMin2) := by
  intro pins s σ H vs us Q I r ⟨ι, h, ds, d, h', x, rs, e, q⟩
  match ds, e with
  | [.int i, .int j], e =>
    cases e
    obtain ⟨v, w, rfl, r1, r2⟩ := rs.two
    cases r1; cases r2
    exact call_min2 hc pins s σ H _ us Q I r ⟨i, j, rfl, q _ _ _ Step.refl x (.int _)⟩
def bls (l : List D) : Option (List Bool) := l.mapM blD
theorem bls_ok {ι : Ix} {H : Hp} : ∀ {l : List D} {bs : List Bool} {vs : List V}, bls l = some bs → Res X.K ι H l vs → vs = bs.map V.bl
  | [], bs, vs, e, r => by
    cases r
    simp [bls] at e
    subst e
    rfl
  | d :: l, bs, vs, e, r => by
    cases r with
    | cons r1 r2 =>
      simp only [bls, List.mapM_cons, Option.bind_eq_bind, Option.bind_eq_some_iff, Option.pure_def, Option.some.injEq] at e
      obtain ⟨b, h1, bs', h2, rfl⟩ := e
      cases d with
      | bl k =>
        cases h1
        cases r1
        rw [bls_ok h2 r2]
        rfl
      | _ => cases h1
def bAll : BF
  | [d], h => ((asF h d).bind bls).map fun bs => (.bl (bs.all id), h)
  | _, _ => none
def bAny : BF
  | [d], h => ((asF h d).bind bls).map fun bs => (.bl (bs.any id), h)
  | _, _ => none
theorem c_all (hc : X.calm = true) : CallR X (.builtin "all") (rC X bAll) := by
  intro pins s σ H vs us Q I r ⟨ι, h, ds, d, h', x, rs, e, q⟩
  match ds, e with
  | [dd], e =>
    obtain ⟨v, rfl, rv⟩ := rs.one
    obtain ⟨bs, z, e⟩ := Option.map_eq_some_iff.mp (show ((asF h dd).bind bls).map (fun bs => (D.bl (bs.all id), h)) = some (d, h') from e)
    cases e
    obtain ⟨l, z1, z2⟩ := Option.bind_eq_some_iff.mp z
    obtain ⟨a, xs, rfl, hs, rl⟩ := asF_ok x rv z1
    rw [bls_ok z2 rl] at hs
    exact cr_all hc pins s σ H _ us Q I r ⟨a, bs, rfl, hs, q _ _ _ Step.refl x (.bl _)⟩
  | [], e => cases e
  | _ :: _ :: _, e => cases e
theorem c_any (hc : X.calm = true) : CallR X (.builtin "any") (rC X bAny) := by
  intro pins s σ H vs us Q I r ⟨ι, h, ds, d, h', x, rs, e, q⟩
  match ds, e with
  | [dd], e =>
    obtain ⟨v, rfl, rv⟩ := rs.one
    obtain ⟨bs, z, e⟩ := Option.map_eq_some_iff.mp (show ((asF h dd).bind bls).map (fun bs => (D.bl (bs.any id), h)) = some (d, h') from e)
    cases e
    obtain ⟨l, z1, z2⟩ := Option.bind_eq_some_iff.mp z
    obtain ⟨a, xs, rfl, hs, rl⟩ := asF_ok x rv z1
    rw [bls_ok z2 rl] at hs
    exact cr_any hc pins s σ H _ us Q I r ⟨a, bs, rfl, hs, q _ _ _ Step.refl x (.bl _)⟩
  | [], e => cases e
  | _ :: _ :: _, e => cases e
end
end Lg
set_option Elab.async false
set_option linter.all false
set_option maxRecDepth 100000
set_option maxHeartbeats 1000000
namespace Lg
open PySem PySem.Spec PyProof.Rows L2
/-! ### sorted -/
def noL : Nat → D → Bool
  | 0, _ => false
  | n + 1, d => match d with
    | .tup l => l.all (noL n)
    | .frt l => l.all (noL n)
    | .non => true | .bl _ => true | .int _ => true | .str _ => true
    | _ => false
theorem reads_all {h0 : Heap} {X : Cx} {ι : Ix} {H : Hp} {g : D → Option PyData} {t : D → Bool} (hg : ∀ d p v u, g d = some p → t d = true → ReX X ι H d v → RelV v u → Reads h0 u p []) : ∀ {l : List D} {ps : List PyData} {vs : List V} {us : List Value}, l.mapM g = some ps → l.all t = true → Res X.K ι H l vs → Vals vs us → ReadsAll h0 us ps []
  | [], ps, vs, us, e, _, r, rv => by
    cases r
    cases rv
    simp at e
    subst e
    exact .nil
  | d :: l, ps, vs, us, e, ht, r, rv => by
    cases r with
    | cons r1 r2 =>
      cases rv with
      | cons v1 v2 =>
        simp only [List.mapM_cons, Option.bind_eq_bind, Option.bind_eq_some_iff, Option.pure_def, Option.some.injEq] at e
        obtain ⟨p, h1, ps', h2, e⟩ := e
        subst e
        simp only [List.all_cons, Bool.and_eq_true] at ht
        exact .cons (as := []) (bs := []) (hg _ _ _ _ h1 ht.1 r1 v1) (reads_all hg h2 ht.2 r2 v2)
theorem py_reads {X : Cx} {pins : List (Addr × Obj)} {σ : L2.St} {s : Shared} {ι : Ix} {H : Hp} {h : Hh} (I : Inv X pins σ H s) : ∀ (n m : Nat) (d : D) (p : PyData) (v : V) (u : Value), py h n d = some p → noL m d = true → ReX X ι H d v → RelV v u → Reads s.heap u p []
  | 0, _, _, _, _, _, e, _, _, _ => by cases e
  | _ + 1, 0, _, _, _, _, _, e, _, _ => by cases e
  | n + 1, m + 1, d, p, v, u, e, ht, r, rv => by
    have ih := py_reads (h := h) (ι := ι) I n m
    cases d with
    | non => cases e; cases r; cases rv; exact Reads.none
    | bl b => cases e; cases r; cases rv; exact Reads.bool b
    | int i => cases e; cases r; obtain ⟨t, rfl⟩ := rv; exact Reads.int i t
    | str y => cases e; cases r; obtain ⟨t, rfl⟩ := rv; exact Reads.str y t
    | tup l =>
      obtain ⟨ps, e1, rfl⟩ := Option.map_eq_some_iff.mp (show (l.mapM (py h n)).map PyData.tuple = some p from e)
      cases r with
      | tup h1 _ h2 =>
        cases rv
        obtain ⟨its, rv, ⟨o, ho, hc, k, hd⟩, _⟩ := I.tuple (SqT.of h1)
        exact Reads.tuple ho hc hd (reads_all ih e1 ht h2 rv)
    | frt l =>
      obtain ⟨ps, e1, rfl⟩ := Option.map_eq_some_iff.mp (show (l.mapM (py h n)).map PyData.tuple = some p from e)
      cases r with
      | frt h1 h2 =>
        cases rv
        obtain ⟨its, rv, ⟨o, ho, hc, k, hd⟩, _⟩ := I.tuple (h1.sq (H := H))
        exact Reads.tuple ho hc hd (reads_all ih e1 ht h2 rv)
    | _ => cases ht
def sortOk (ps : List PyData) : Bool := (ps.all fun p => match p with | .tuple (_ :: _) => true | _ => false) || ps.all fun p => match p with | .none => false | .tuple _ => false | _ => true
def alikeOk (ps : List PyData) : Bool := ps.all fun p => ps.all fun q => PySem.W.alike p q
theorem sortOk_ok {ps : List PyData} (h : sortOk ps = true) : PySem.W.Sortable ps := by
  unfold sortOk at h
  rcases (Bool.or_eq_true _ _ ▸ h) with h | h
  · refine .inl fun d hd => ?_
    have := List.all_eq_true.mp h d hd
    cases d with
    | tuple l => cases l with
      | nil => cases this
      | cons x r => exact ⟨x, r, rfl⟩
    | _ => cases this
  · refine .inr fun d hd => ?_
    have := List.all_eq_true.mp h d hd
    cases d with
    | none => cases this
    | tuple l => cases this
    | _ => exact ⟨(by intro z; cases z), (by intro xs z; cases z)⟩
theorem alikeOk_ok {ps : List PyData} (h : alikeOk ps = true) : PySem.W.AllAlike ps := fun d hd d' hd' => List.all_eq_true.mp (List.all_eq_true.mp h d hd) d' hd'
def sortD (h : Hh) (l : List D) : Option (List D) := match l.mapM (py h 66) with
  | some ps => if l.all (noL 66) && alikeOk ps && sortOk ps && ps.all SeqAt.shaped then some (((l.zip ps).mergeSort (PySem.W.dataLe false Prod.snd)).map Prod.fst) else none
  | none => none
/-- sorted(t), t a list or a tuple of values that read as data -/
theorem sorted_seq {prog : Program} {w : World} {A : Around} {E : Value → Shared → Prop} {s : Shared} {β : Type} {vs : List Value} {bs : List β} {enc : β → PyData} {R : Value → β → Prop} {a : Addr} {o : Obj} {n : Nat} {T : String} {Q : Value → Shared → Prop}
    (hT : T = "list" ∨ T = "tuple") (ho : s.heap.get? a = some o) (hc : o.cls = .type T) (hd : o.data = .seq vs.toArray n) (hz : vs.length ≤ sizeLine) (e : PySem.W.EachIs R vs bs) (er : PySem.W.EachIs (fun v b => Reads s.heap v (enc b) []) vs bs)
    (hal : PySem.W.AllAlike (bs.map enc)) (hk : PySem.W.Sortable (bs.map enc)) (hu : ∀ b, b ∈ bs → A.units + 3 + (enc b).depth < cLine)
    (h : ∀ (h1 h' : Heap) (p : Addr) (ep : Nat) (out : List Value), (∀ b u, s.heap.get? b = some u → h1.get? b = some u) → h1.objs.size ≤ p → (∀ b u, s.heap.get? b = some u → h'.get? b = some u) → h'.get? p = some (seqObj "list" out.toArray ep) → out.length = bs.length → PySem.W.EachIs R out (bs.mergeSort (PySem.W.dataLe false enc)) → Q (.ref p) { s with heap := h' }) :
    wpAny (model prog w) A (call (.builtin "sorted") [.ref a]) Q E s := by
  refine Calls.call_function_entry kind_sorted plain_sorted entry_sorted (args_sorted1 _) ?_
  unfold Builtin.«sorted»
  refine wpAny_bind (m := checkCount "sorted" 1 1 _) (wpAny_pure ?_)
  refine wpAny_bind (wpAny_collect_seq a hT ho hc hd (fun h1 k1 => ?_) (by simpa using hz))
  refine wpAny_bind (wpAny_newList ?_ (by simpa using hz))
  have hoL : (h1.push (seqObj "list" vs.toArray 0)).get? h1.objs.size = some (seqObj "list" vs.toArray 0) := Heap.get?_push_size _ rfl
  have keep : ∀ b u, s.heap.get? b = some u → (h1.push (seqObj "list" vs.toArray 0)).get? b = some u := fun b u q => Heap.get?_push_of_some _ (k1 _ _ q)
  refine wpAny_bind (wpAny_holding (PySem.W.list_sort_data (s := { s with heap := h1.push (seqObj "list" vs.toArray 0) }) (enc := enc) (R := R) hoL e (er.mono fun v b r => ⟨[], Reads.keeps keep r, by simp⟩) hal hk (by rw [← e.length]; exact hz) (fun b hb => by have := hu b hb; show A.units + 1 + 1 + (enc b).depth < _; omega) fun out ol oe => ?_))
  obtain ⟨ep, hep⟩ := sortedHeap_at (vs := vs) (out := out.toArray) hoL
  refine wpAny_pure ⟨_, rfl, h h1 _ _ ep out k1 (Nat.le_refl _) (fun b u q => ?_) hep ol oe⟩
  have lt : b < h1.objs.size := Heap.lt_size (k1 _ _ q)
  rw [sortedHeap_old (Nat.ne_of_lt lt) (by rw [size_push']; exact Nat.lt_succ_of_lt lt)]
  exact keep _ _ q
section
variable {X : Cx}
theorem each_res {ι : Ix} {H : Hp} : ∀ {l : List D} {vs : List V} {us : List Value} {ps : List PyData}, Res X.K ι H l vs → Vals vs us → ps.length = l.length → PySem.W.EachIs (fun u (z : D × PyData) => ∃ v, RelV v u ∧ ReX X ι H z.1 v) us (l.zip ps)
  | [], _, _, [], .nil, .nil, _ => .nil
  | d :: l, _, _, p :: ps, .cons h r, .cons v rv, e => .cons ⟨_, v, h⟩ (each_res r rv (by simpa using e))
  | [], _, _, _ :: _, _, _, e => by cases e
  | _ :: _, _, _, [], _, _, e => by cases e
theorem res_each {ι : Ix} {H : Hp} : ∀ {us : List Value} {zs : List (D × PyData)}, PySem.W.EachIs (fun u (z : D × PyData) => ∃ v, RelV v u ∧ ReX X ι H z.1 v) us zs → ∃ vs, Vals vs us ∧ Res X.K ι H (zs.map Prod.fst) vs
  | _, _, .nil => ⟨[], .nil, .nil⟩
  | _, _, .cons h k => by
    obtain ⟨v, h1, h2⟩ := h
    obtain ⟨vs, h3, h4⟩ := res_each k
    exact ⟨v :: vs, .cons h1 h3, .cons h2 h4⟩
theorem each_reads {pins : List (Addr × Obj)} {σ : L2.St} {s : Shared} {ι : Ix} {H : Hp} {h : Hh} (I : Inv X pins σ H s) : ∀ {l : List D} {vs : List V} {us : List Value} {ps : List PyData}, l.mapM (py h 66) = some ps → l.all (noL 66) = true → Res X.K ι H l vs → Vals vs us → PySem.W.EachIs (fun u (z : D × PyData) => Reads s.heap u z.2 []) us (l.zip ps)
  | [], vs, us, ps, e, _, r, rv => by
    cases r
    cases rv
    simp at e
    subst e
    exact .nil
  | d :: l, vs, us, ps, e, ht, r, rv => by
    cases r with
    | cons r1 r2 =>
      cases rv with
      | cons v1 v2 =>
        simp only [List.mapM_cons, Option.bind_eq_bind, Option.bind_eq_some_iff, Option.pure_def, Option.some.injEq] at e
        obtain ⟨p, h1, ps', h2, e⟩ := e
        subst e
        simp only [List.all_cons, Bool.and_eq_true] at ht
        exact .cons (py_reads I 66 66 _ _ _ _ h1 ht.1 r1 v1) (each_reads I h2 ht.2 r2 v2)
theorem mapM_len {α β : Type} {g : α → Option β} : ∀ {l : List α} {ps : List β}, l.mapM g = some ps → ps.length = l.length
  | [], ps, e => by simp at e; subst e; rfl
  | d :: l, ps, e => by
    simp only [List.mapM_cons, Option.bind_eq_bind, Option.bind_eq_some_iff, Option.pure_def, Option.some.injEq] at e
    obtain ⟨p, h1, ps', h2, e⟩ := e
    subst e
    simp [mapM_len h2]
theorem zip_snd {α β : Type} : ∀ {l : List α} {ps : List β}, ps.length = l.length → (l.zip ps).map Prod.snd = ps
  | [], [], _ => rfl
  | _ :: _, _ :: _, e => by simp [zip_snd (by simpa using e)]
  | [], _ :: _, e => by cases e
  | _ :: _, [], e => by cases e
theorem sort_core (hu : X.A.units + 200 < cLine) {pins : List (Addr × Obj)} {s : Shared} {σ : L2.St} {H : Hp} {Q : VK} {ι : Ix} {h : Hh} {dd : D} {v : V} {u : Value} {l out : List D} (I : Inv X pins σ H s) (x : HX X ι H h) (rv : ReX X ι H dd v) (ru : RelV v u) (e : asS h dd = some l) (es : sortD h l = some out)
    (q : ∀ p ys, H p = none → Res X.K ι H out ys → Q (.ref p) (upd H p (.lst ys))) : wpAny (model X.prog X.w) X.A (call (.builtin "sorted") [u]) (EP X pins σ Q) X.xe s := by
  unfold sortD at es
  cases z : l.mapM (py h 66) with
  | none => simp [z] at es
  | some ps =>
    simp only [z] at es
    split at es
    · rename_i c
      simp only [Bool.and_eq_true] at c
      obtain ⟨⟨⟨c1, c2⟩, c3⟩, c4⟩ := c
      cases es
      obtain ⟨a, xs, rfl, hs, rl⟩ := asS_ok x rv e
      obtain rfl : u = Value.ref a := ru
      have pl := mapM_len z
      have fin : ∀ {T : String} {o : Obj} {its : List Value} {n : Nat}, T = "list" ∨ T = "tuple" → s.heap.get? a = some o → o.cls = .type T → o.data = .seq its.toArray n → xs.length ≤ sizeLine → Vals xs its → wpAny (model X.prog X.w) X.A (call (.builtin "sorted") [.ref a]) (EP X pins σ Q) X.xe s := fun {T o its n} hT ho hc hd hz rvv => by
        refine sorted_seq (enc := Prod.snd) (R := fun u (z : D × PyData) => ∃ v, RelV v u ∧ ReX X ι H z.1 v) (bs := l.zip ps) hT ho hc hd (by rw [← rvv.length]; exact hz) (each_res rl rvv pl) (each_reads I z c1 rl rvv) (by rw [zip_snd pl]; exact alikeOk_ok c2) (by rw [zip_snd pl]; exact sortOk_ok c3) (fun b hb => ?_) fun h1 h' p ep out k1 kp k hp ol oe => ?_
        · have hm : b.2 ∈ ps := (List.of_mem_zip hb).2
          have := List.all_eq_true.mp c4 _ hm
          unfold SeqAt.shaped at this
          rw [Bool.and_eq_true] at this
          have := of_decide_eq_true this.2
          omega
        · have hn : H p = none := (I.hok.kept k1).fresh kp
          have hpn : s.heap.get? p = none := by
            cases e : s.heap.get? p with
            | none => rfl
            | some u => exact absurd (Nat.lt_of_lt_of_le (Heap.lt_size (k1 _ _ e)) kp) (Nat.lt_irrefl _)
          obtain ⟨ys, y1, y2⟩ := res_each oe
          have hl : ys.length ≤ sizeLine := by
            rw [← y2.len, List.length_map, List.length_mergeSort, List.length_zip]
            refine Nat.le_trans (Nat.min_le_left _ _) ?_
            rw [rl.len]
            exact hz
          exact ⟨.ref p, upd H p (.lst ys), I.laidN (t' := s.toks) k hpn hn ⟨hl, out, ep, y1, hp⟩, rfl, q p ys hn y2⟩
      rcases hs with hs | hs
      · obtain ⟨its, rvv, ⟨o, n, ho, hc, _, hd⟩, hz⟩ := I.list hs
        exact fin (.inl rfl) ho hc hd hz rvv
      · obtain ⟨its, rvv, ⟨o, ho, hc, n, hd⟩, hz⟩ := I.tuple hs
        exact fin (.inr rfl) ho hc hd hz rvv
    · cases es
def bSort : BF
  | [d], h => ((asS h d).bind (sortD h)).map fun l => (.lst l, h)
  | _, _ => none
def bSortN : BF
  | [d], h => ((asS h d).bind (sortD h)).map fun l => (.ref h.length, h ++ [.lst l])
  | _, _ => none
theorem c_sort (hu : X.A.units + 200 < cLine) : CallR X (.builtin "sorted") (rC X bSort) := by
  intro pins s σ H vs us Q I r ⟨ι, h, ds, d, h', x, rs, e, q⟩
  match ds, e with
  | [dd], e =>
    obtain ⟨v, rfl, rv⟩ := Res.one rs
    obtain ⟨l, z, e⟩ := Option.map_eq_some_iff.mp (show ((asS h dd).bind (sortD h)).map (fun l => (D.lst l, h)) = some (d, h') from e)
    cases e
    obtain ⟨l0, z1, z2⟩ := Option.bind_eq_some_iff.mp z
    obtain ⟨u, rfl, ru⟩ := vals1 r
    exact sort_core hu I x rv ru z1 z2 fun p ys n ry => q _ _ _ (Step.new n) (x.new n) (.lst upd_same (x.fresh n) (ry.step (Step.new n)))
  | [], e => cases e
  | _ :: _ :: _, e => cases e
theorem c_sortN (hu : X.A.units + 200 < cLine) : CallR X (.builtin "sorted") (rC X bSortN) := by
  intro pins s σ H vs us Q I r ⟨ι, h, ds, d, h', x, rs, e, q⟩
  match ds, e with
  | [dd], e =>
    obtain ⟨v, rfl, rv⟩ := Res.one rs
    obtain ⟨l, z, e⟩ := Option.map_eq_some_iff.mp (show ((asS h dd).bind (sortD h)).map (fun l => (D.ref h.length, h ++ [O.lst l])) = some (d, h') from e)
    cases e
    obtain ⟨l0, z1, z2⟩ := Option.bind_eq_some_iff.mp z
    obtain ⟨u, rfl, ru⟩ := vals1 r
    exact sort_core hu I x rv ru z1 z2 fun p ys n ry => q _ _ _ (Step.place n) (x.place n ⟨ys, upd_same, ry.step (Step.place n)⟩) (.ref (by show (ι.pl ++ [p])[h.length]? = some p; rw [← x.len]; simp))
  | [], e => cases e
  | _ :: _ :: _, e => cases e
end
/-! ### isinstance with what is built in -/
def tyD (h : Hh) : D → Option String
  | .non => some "NoneType" | .bl _ => some "bool" | .int _ => some "int" | .str _ => some "str"
  | .tup _ => some "tuple" | .frt _ => some "tuple" | .lst _ => some "list" | .frz _ => some "list" | .dic _ _ => some "dict"
  | .ref n => match h[n]? with
    | some (.lst _) => some "list"
    | some (.dic _ _) => some "dict"
    | _ => none
  | .fix _ => none
  | .exc _ _ _ _ => none
section
variable {X : Cx} {W : WX} {e o : Expr} {es : List Expr} {fs : FA} {fe fo f1 f2 : FE} {pos p p2 apos cpos : Pos} {y z : Str} {T : String}
/-- bool is an int -/
def isT (t T : String) : Bool := t == T || (t == "bool" && T == "int")
theorem kit_T {K : PySem.W.Frag} (t T : String) (ht : t ∈ ["NoneType", "bool", "int", "str", "tuple", "list", "dict"]) (hT : T ∈ ["bool", "int", "str", "tuple", "list", "dict"]) : PySem.W.kitOne K (.type t) (.type T) = some (isT t T) := by
  simp only [List.mem_cons, List.not_mem_nil, or_false] at ht hT
  rcases ht with rfl | rfl | rfl | rfl | rfl | rfl | rfl <;> rcases hT with rfl | rfl | rfl | rfl | rfl | rfl <;> (with_unfolding_all rfl)
theorem tyD_ok {ι : Ix} {H : Hp} {h : Hh} {d : D} {v : V} {t : String} (x : HX X ι H h) (r : ReX X ι H d v) (e : tyD h d = some t) : TyX X.K H v (.type t) ∧ t ∈ ["NoneType", "bool", "int", "str", "tuple", "list", "dict"] := by
  cases d with
  | non => cases e; cases r; exact ⟨.base .non, by decide⟩
  | bl b => cases e; cases r; exact ⟨.base (.bl b), by decide⟩
  | int i => cases e; cases r; exact ⟨.base (.int i), by decide⟩
  | str s => cases e; cases r; exact ⟨.base (.str s), by decide⟩
  | tup l => cases e; cases r with
    | tup h1 _ _ => exact ⟨.base (.tup h1), by decide⟩
  | frt l => cases e; cases r with
    | frt h1 _ => obtain ⟨o, its, n, h1, h2, _⟩ := h1; exact ⟨.kTuple h1 h2, by decide⟩
  | lst l => cases e; cases r with
    | lst h1 _ _ => exact ⟨.base (.lst h1), by decide⟩
  | frz l => cases e; cases r with
    | frz h1 _ =>
      rcases h1 with ⟨h1 | ⟨o, h1⟩, _⟩ | ⟨o, its, n, h1, h2, _⟩
      · exact ⟨.base (.lst h1), by decide⟩
      · exact ⟨.base (.frz h1), by decide⟩
      · exact ⟨.kList h1 h2, by decide⟩
  | dic t l => cases e; cases r with
    | dicK h1 _ _ => exact ⟨.base (.dK h1), by decide⟩
    | dicT h1 _ _ => exact ⟨.base (.dT h1), by decide⟩
  | fix a => cases e
  | exc _ _ _ _ => cases e
  | ref n =>
    cases q : h[n]? with
    | none => simp [tyD, q] at e
    | some o =>
      cases r with
      | ref hn =>
        have w := x.at_ n _ _ hn q
        cases o with
        | lst l =>
          simp only [tyD, q, Option.some.injEq] at e
          subst e
          obtain ⟨vs, h1, _⟩ := w
          exact ⟨.base (.lst h1), by decide⟩
        | dic t l =>
          simp only [tyD, q, Option.some.injEq] at e
          subst e
          cases t with
          | false => obtain ⟨kvs, h1, _⟩ := w; exact ⟨.base (.dK h1), by decide⟩
          | true => obtain ⟨kvs, h1, _⟩ := w; exact ⟨.base (.dT h1), by decide⟩
        | ins c fs => simp [tyD, q] at e
        | set l => simp [tyD, q] at e
def fIsI (T : String) (fe : FE) : FE := fun s h => (fe s h).bind fun d h1 => match tyD h1 d with
  | some t => .ok (.bl (isT t T)) h1
  | none => .no
theorem re_isi (hT : T ∈ ["bool", "int", "str", "tuple", "list", "dict"]) (hm : X.mg y = none) (hv : bootBuiltins y = some (.builtin "isinstance")) (hz : X.mg z = none) (hvz : bootBuiltins z = some (.type T)) (t : RE X W e fe) (hg : Gl X y := by rfl) (hgz : Gl X z := by rfl) (hn : y ≠ "__name__" := by decide) (hnz : z ≠ "__name__" := by decide)
    (hdb : (y == ("__debug__" : Str)) = false := by decide) (hdz : (z == ("__debug__" : Str)) = false := by decide) (he : starEach [e, .Name z p2] X.env = (false, eval e X.env) :: starEach [.Name z p2] X.env := by rfl) (he2 : starEach [.Name z p2] X.env = (false, eval (.Name z p2) X.env) :: starEach [] X.env := by rfl)
    (hpl : (backTo pos (starEach [.Name z p2] X.env)).any (·.1) = false := by rfl) : RE X W (.Call (.Name y p) [e, .Name z p2] [] pos) (fIsI T fe) :=
  ⟨fun {s σ H ι h Q} r x q => we_of (pe_callB call_isi hg hm hv (pa_cons pe_we (pa_cons (pe_bltn (v := .ty T) hgz hz hvz rfl hnz hdz) pa_nil he2) he) hn hdb he hpl) (t.next r x q fun d h1 v H1 ι1 s1 r1 x1 rv p1 => by
    cases q1 : tyD h1 d with
    | none => simp only [q1] at p1; exact p1.elim
    | some t =>
      simp only [q1] at p1
      obtain ⟨ty, mem⟩ := tyD_ok x1 rv q1
      exact ⟨v, .ty T, .type t, .type T, isT t T, rfl, .ty T, ty, kit_T t T mem hT, p1.use x1 _ (.bl _)⟩)⟩
/-! ### methods of lists -/
def fApp (fo fe : FE) : FE := fun s h => (fo s h).bind fun d h1 => match d with
  | .ref n => match h1[n]? with
    | some (.lst _) => (fe s h1).bind fun e h2 => match h2[n]? with
      | some (.lst l) => if line l.length then .ok .non (h2.set n (.lst (l ++ [e]))) else .no
      | _ => .no
    | _ => .no
  | _ => .no
theorem ref_lst {ι : Ix} {H : Hp} {h : Hh} {n : Nat} {v : V} {l : List D} (x : HX X ι H h) (r : ReX X ι H (.ref n) v) (e : h[n]? = some (.lst l)) : ∃ a xs, v = .ref a ∧ ι.pl[n]? = some a ∧ H a = some (.lst xs) ∧ Res X.K ι H l xs := by
  cases r with
  | ref hn =>
    obtain ⟨vs, h1, h2⟩ := x.at_ n _ _ hn e
    exact ⟨_, vs, rfl, hn, h1, h2⟩
theorem re_app (to : RE X W o fo) (te : RE X W e fe) (hbase : attributeBase o "append" X.env (eval o X.env) = eval o X.env := by rfl)
    (hfew : ((backTo cpos (starEach [e] X.env)).all (fun x => !x.1) && (backToKw cpos (keywordEach [] X.env)).all (fun x => x.1.isSome) && decide (([e] : List Expr).length + ([] : List Keyword).length + (if ([] : List Keyword).isEmpty then 0 else 1) < 30)) = true := by rfl)
    (hline : (apos.endLine == cpos.line) = true := by rfl) (hs : starEach [e] X.env = (false, eval e X.env) :: starEach [] X.env := by rfl) (hplain : (backTo cpos (starEach [] X.env)).any (·.1) = false := by rfl) :
    RE X W (.Call (.Attribute o "append" apos) [e] [] cpos) (fApp fo fe) :=
  ⟨fun {s σ H ι h Q} r x q => we_of (pe_bm PySem.F.plainAttrs_list PySem.F.slot_list_append PySem.F.type_list_append mt_append pe_we (pa_cons pe_we pa_nil hs) hbase hfew hline hs hplain) (to.next r x q fun d h1 v H1 ι1 s1 r1 x1 rv p1 => by
    cases d with
    | ref n =>
      cases q1 : h1[n]? with
      | none => simp only [q1] at p1; exact p1.elim
      | some ob =>
        cases ob with
        | lst l0 =>
          simp only [q1] at p1
          obtain ⟨a, xs, rfl, hn, h2, h3⟩ := ref_lst x1 rv q1
          refine ⟨.inl ⟨rfl, xs, SqL.of h2⟩, te.next r1 x1 p1 fun ee h4 w H2 ι2 s2 r2 x2 rw p2 => ?_⟩
          cases q2 : h4[n]? with
          | none => simp only [q2] at p2; exact p2.elim
          | some ob =>
            cases ob with
            | lst l =>
              simp only [q2] at p2
              cases ln : line l.length with
              | false => simp only [ln] at p2; exact p2.elim
              | true =>
                simp only [ln, if_true] at p2
                obtain ⟨a', ys, ea, hn', h5, h6⟩ := ref_lst x2 (rv.step s2) q2
                cases ea
                have mem := List.mem_of_getElem? hn'
                refine ⟨a, ys, w, rfl, rfl, h5, by rw [← h6.len]; exact line_ok ln, ?_⟩
                exact p2.use' (Step.write mem) (x2.write hn' ⟨_, upd_same, (h6.app (.cons rw .nil)).step (Step.write mem)⟩) _ .non
            | _ => simp only [q2] at p2; exact p2.elim
        | _ => simp only [q1] at p1; exact p1.elim
    | _ => exact p1.elim)⟩
def fPop (fo : FE) : FE := fun s h => (fo s h).bind fun d h1 => match d with
  | .ref n => match h1[n]? with
    | some (.lst l) => match l[l.length - 1]? with
      | some e => .ok e (h1.set n (.lst l.dropLast))
      | none => .no
    | _ => .no
  | _ => .no
theorem Res.dropL {ι : Ix} {H : Hp} {l : List D} {vs : List V} (r : Res X.K ι H l vs) : Res X.K ι H l.dropLast vs.dropLast := by
  rw [List.dropLast_eq_take, List.dropLast_eq_take, r.len]
  exact r.take _
theorem re_pop (to : RE X W o fo) (hbase : attributeBase o "pop" X.env (eval o X.env) = eval o X.env := by rfl) (hline : (apos.endLine == cpos.line) = true := by rfl) : RE X W (.Call (.Attribute o "pop" apos) [] [] cpos) (fPop fo) :=
  ⟨fun {s σ H ι h Q} r x q => we_of (pe_bm0 PySem.F.plainAttrs_list PySem.F.slot_list_pop PySem.F.type_list_pop mt_pop pe_we hbase hline) (to.next r x q fun d h1 v H1 ι1 s1 r1 x1 rv p1 => by
    cases d with
    | ref n =>
      cases q1 : h1[n]? with
      | none => simp only [q1] at p1; exact p1.elim
      | some ob =>
        cases ob with
        | lst l =>
          simp only [q1] at p1
          obtain ⟨a, xs, rfl, hn, h2, h3⟩ := ref_lst x1 rv q1
          cases q2 : l[l.length - 1]? with
          | none => simp only [q2] at p1; exact p1.elim
          | some e =>
            simp only [q2] at p1
            obtain ⟨w, w1, w2⟩ := h3.get q2
            have mem := List.mem_of_getElem? hn
            refine ⟨.inl ⟨rfl, xs, SqL.of h2⟩, a, xs, w, rfl, rfl, h2, by rw [← h3.len]; exact w1, ?_⟩
            exact p1.use' (Step.write mem) (x1.write hn ⟨_, upd_same, h3.dropL.step (Step.write mem)⟩) _ (w2.step (Step.write mem))
        | _ => simp only [q1] at p1; exact p1.elim
    | _ => exact p1.elim)⟩
def popIx (i : Int) (n : Nat) : Option Nat := if -9223372036854775808 ≤ i ∧ i < 9223372036854775808 then seqIndex? i n else none
def fPopAt (fo fe : FE) : FE := fun s h => (fo s h).bind fun d h1 => match d with
  | .ref n => match h1[n]? with
    | some (.lst _) => (fe s h1).bind fun e h2 => match e, h2[n]? with
      | .int i, some (.lst l) => match popIx i l.length with
        | some k => match l[k]? with
          | some e => .ok e (h2.set n (.lst (l.eraseIdx k)))
          | none => .no
        | none => .no
      | _, _ => .no
    | _ => .no
  | _ => .no
theorem re_popAt (to : RE X W o fo) (te : RE X W e fe) (hbase : attributeBase o "pop" X.env (eval o X.env) = eval o X.env := by rfl)
    (hfew : ((backTo cpos (starEach [e] X.env)).all (fun x => !x.1) && (backToKw cpos (keywordEach [] X.env)).all (fun x => x.1.isSome) && decide (([e] : List Expr).length + ([] : List Keyword).length + (if ([] : List Keyword).isEmpty then 0 else 1) < 30)) = true := by rfl)
    (hline : (apos.endLine == cpos.line) = true := by rfl) (hs : starEach [e] X.env = (false, eval e X.env) :: starEach [] X.env := by rfl) (hplain : (backTo cpos (starEach [] X.env)).any (·.1) = false := by rfl) :
    RE X W (.Call (.Attribute o "pop" apos) [e] [] cpos) (fPopAt fo fe) :=
  ⟨fun {s σ H ι h Q} r x q => we_of (pe_bm PySem.F.plainAttrs_list PySem.F.slot_list_pop PySem.F.type_list_pop mt_popAt pe_we (pa_cons pe_we pa_nil hs) hbase hfew hline hs hplain) (to.next r x q fun d h1 v H1 ι1 s1 r1 x1 rv p1 => by
    cases d with
    | ref n =>
      cases q1 : h1[n]? with
      | none => simp only [q1] at p1; exact p1.elim
      | some ob =>
        cases ob with
        | lst l0 =>
          simp only [q1] at p1
          obtain ⟨a, xs, rfl, hn, h2, h3⟩ := ref_lst x1 rv q1
          refine ⟨.inl ⟨rfl, xs, SqL.of h2⟩, te.next r1 x1 p1 fun ee h4 w H2 ι2 s2 r2 x2 rw p2 => ?_⟩
          cases ee with
          | int i =>
            cases q2 : h4[n]? with
            | none => simp only [q2] at p2; exact p2.elim
            | some ob =>
              cases ob with
              | lst l =>
                simp only [q2] at p2
                cases q3 : popIx i l.length with
                | none => simp only [q3] at p2; exact p2.elim
                | some k =>
                  simp only [q3] at p2
                  cases q4 : l[k]? with
                  | none => simp only [q4] at p2; exact p2.elim
                  | some e' =>
                    simp only [q4] at p2
                    obtain ⟨a', ys, ea, hn', h5, h6⟩ := ref_lst x2 (rv.step s2) q2
                    cases ea
                    cases rw
                    have mem := List.mem_of_getElem? hn'
                    obtain ⟨w', w1, w2⟩ := h6.get q4
                    unfold popIx at q3
                    split at q3
                    · rename_i c
                      refine ⟨a, ys, i, k, w', rfl, rfl, h5, c.1, c.2, by rw [← h6.len]; exact q3, w1, ?_⟩
                      exact p2.use' (Step.write mem) (x2.write hn' ⟨_, upd_same, (h6.erase k).step (Step.write mem)⟩) _ (w2.step (Step.write mem))
                    · cases q3
              | _ => simp only [q2] at p2; exact p2.elim
          | _ => exact p2.elim
        | _ => simp only [q1] at p1; exact p1.elim
    | _ => exact p1.elim)⟩
/-! ### methods of texts -/
def fSplit (fo fe : FE) : FE := fun s h => (fo s h).bind fun d h1 => match d with
  | .str a => (fe s h1).bind fun e h2 => match e with
    | .str b => if b.length == 0 || !line (a.length + 2) then .no else .ok (.lst ((Txt.split a b).map .str)) h2
    | _ => .no
  | _ => .no
def fSplitN (fo fe : FE) : FE := fun s h => (fo s h).bind fun d h1 => match d with
  | .str a => (fe s h1).bind fun e h2 => match e with
    | .str b => if b.length == 0 || !line (a.length + 2) then .no else .ok (.ref h2.length) (h2 ++ [.lst ((Txt.split a b).map .str)])
    | _ => .no
  | _ => .no
theorem res_strs {ι : Ix} {H : Hp} : ∀ l : List Str, Res X.K ι H (l.map D.str) (l.map V.str)
  | [] => .nil
  | x :: l => .cons (.str x) (res_strs l)
theorem re_split (to : RE X W o fo) (te : RE X W e fe) (hs : starEach [e] X.env = [(false, eval e X.env)] := by rfl) (hbase : attributeBase o "split" X.env (eval o X.env) = eval o X.env := by rfl) (hline : (apos.endLine == pos.line) = true := by rfl) : RE X W (.Call (.Attribute o "split" apos) [e] [] pos) (fSplit fo fe) :=
  ⟨fun {s σ H ι h Q} r x q => we_of (pe_split pe_we pe_we hs hbase hline) (to.next r x q fun d h1 v H1 ι1 s1 r1 x1 rv p1 => by
    cases d with
    | str a =>
      cases rv
      refine ⟨⟨a, rfl⟩, te.next r1 x1 p1 fun ee h4 w H2 ι2 s2 r2 x2 rw p2 => ?_⟩
      cases ee with
      | str b =>
        cases rw
        cases c : (b.length == 0 || !line (a.length + 2)) with
        | true => simp only [c, if_true] at p2; exact p2.elim
        | false =>
          simp only [c, Bool.false_eq_true, if_false] at p2
          rw [Bool.or_eq_false_iff] at c
          refine ⟨a, b, rfl, rfl, c.1, Nat.le_of_lt (line_ok (by simpa using c.2)), fun p n => p2.use' (Step.new n) (x2.new n) _ (.lst upd_same (x2.fresh n) (res_strs _))⟩
      | _ => exact p2.elim
    | _ => exact p1.elim)⟩
theorem re_splitN (to : RE X W o fo) (te : RE X W e fe) (hs : starEach [e] X.env = [(false, eval e X.env)] := by rfl) (hbase : attributeBase o "split" X.env (eval o X.env) = eval o X.env := by rfl) (hline : (apos.endLine == pos.line) = true := by rfl) : RE X W (.Call (.Attribute o "split" apos) [e] [] pos) (fSplitN fo fe) :=
  ⟨fun {s σ H ι h Q} r x q => we_of (pe_split pe_we pe_we hs hbase hline) (to.next r x q fun d h1 v H1 ι1 s1 r1 x1 rv p1 => by
    cases d with
    | str a =>
      cases rv
      refine ⟨⟨a, rfl⟩, te.next r1 x1 p1 fun ee h4 w H2 ι2 s2 r2 x2 rw p2 => ?_⟩
      cases ee with
      | str b =>
        cases rw
        cases c : (b.length == 0 || !line (a.length + 2)) with
        | true => simp only [c, if_true] at p2; exact p2.elim
        | false =>
          simp only [c, Bool.false_eq_true, if_false] at p2
          rw [Bool.or_eq_false_iff] at c
          refine ⟨a, b, rfl, rfl, c.1, Nat.le_of_lt (line_ok (by simpa using c.2)), fun p n => p2.use' (Step.place n) (x2.place n ⟨_, upd_same, res_strs _⟩) _ (.ref (by show (ι2.pl ++ [p])[h4.length]? = some p; rw [← x2.len]; simp))⟩
      | _ => exact p2.elim
    | _ => exact p1.elim)⟩
def strsD (l : List D) : Option (List Str) := l.mapM fun d => match d with
  | .str x => some x
  | _ => none
theorem strsD_ok {ι : Ix} {H : Hp} : ∀ {l : List D} {ys : List Str} {vs : List V}, strsD l = some ys → Res X.K ι H l vs → vs = ys.map V.str
  | [], ys, vs, e, r => by
    cases r
    simp [strsD] at e
    subst e
    rfl
  | d :: l, ys, vs, e, r => by
    cases r with
    | cons r1 r2 =>
      simp only [strsD, List.mapM_cons, Option.bind_eq_bind, Option.bind_eq_some_iff, Option.pure_def, Option.some.injEq] at e
      obtain ⟨b, h1, bs', h2, rfl⟩ := e
      cases d with
      | str k =>
        cases h1
        cases r1
        rw [strsD_ok h2 r2]
        rfl
      | _ => cases h1
def fJoin (fo fe : FE) : FE := fun s h => (fo s h).bind fun d h1 => match d with
  | .str a => (fe s h1).bind fun e h2 => match (asS h2 e).bind strsD with
    | some ys => if (ys.map (·.length)).sum + ys.length * a.length ≤ 16000000 then .ok (.str (Txt.join a ys)) h2 else .no
    | none => .no
  | _ => .no
theorem re_join (to : RE X W o fo) (te : RE X W e fe) (hs : starEach [e] X.env = [(false, eval e X.env)] := by rfl) (hbase : attributeBase o "join" X.env (eval o X.env) = eval o X.env := by rfl) (hline : (apos.endLine == pos.line) = true := by rfl) : RE X W (.Call (.Attribute o "join" apos) [e] [] pos) (fJoin fo fe) :=
  ⟨fun {s σ H ι h Q} r x q => we_of (pe_join pe_we pe_we hs hbase hline) (to.next r x q fun d h1 v H1 ι1 s1 r1 x1 rv p1 => by
    cases d with
    | str a =>
      cases rv
      refine ⟨⟨a, rfl⟩, te.next r1 x1 p1 fun ee h4 w H2 ι2 s2 r2 x2 rw p2 => ?_⟩
      cases z : (asS h4 ee).bind strsD with
      | none => simp only [z] at p2; exact p2.elim
      | some ys =>
        simp only [z] at p2
        obtain ⟨l, z1, z2⟩ := Option.bind_eq_some_iff.mp z
        obtain ⟨p, xs, rfl, hsq, rl⟩ := asS_ok x2 rw z1
        rw [strsD_ok z2 rl] at hsq
        by_cases c : (ys.map (·.length)).sum + ys.length * a.length ≤ 16000000
        · rw [if_pos c] at p2
          exact ⟨a, p, ys, rfl, rfl, hsq, Nat.le_trans c (by decide), p2.use x2 _ (.str _)⟩
        · rw [if_neg c] at p2; exact p2.elim
    | _ => exact p1.elim)⟩
def fUpper (fo : FE) : FE := fun s h => (fo s h).bind fun d h1 => match d with
  | .str a => if a.length ≤ 5000000 then .ok (.str (Txt.upper a)) h1 else .no
  | _ => .no
/-! ### methods of dicts -/
def fGet1 (fo fe : FE) : FE := fun s h => (fo s h).bind fun d h1 => if (asD h1 d).isSome then (fe s h1).bind fun k h2 => match asD h2 d with
    | some (t, l) => if keyOk t k then .ok ((look l k).getD .non) h2 else .no
    | none => .no
  else .no
def fGet2 (fo f1 f2 : FE) : FE := fun s h => (fo s h).bind fun d h1 => if (asD h1 d).isSome then (f1 s h1).bind fun k h2 => (f2 s h2).bind fun z h3 => match asD h3 d with
    | some (t, l) => if keyOk t k then .ok ((look l k).getD z) h3 else .no
    | none => .no
  else .no
theorem isD_D {ι : Ix} {H : Hp} {h : Hh} {d : D} {v : V} (x : HX X ι H h) (r : ReX X ι H d v) (e : (asD h d).isSome = true) : ∃ a, v = .ref a ∧ IsD H a := by
  obtain ⟨tl, e⟩ := Option.isSome_iff_exists.mp e
  obtain ⟨t, l⟩ := tl
  obtain ⟨a, rfl, ⟨_, kvs, h1, _⟩ | ⟨_, kvs, h1, _⟩⟩ := asD_ok x r e
  · exact ⟨a, rfl, .inl ⟨kvs, .inl h1⟩⟩
  · exact ⟨a, rfl, .inr ⟨kvs, .inl h1⟩⟩
theorem RO.getD {ι : Ix} {H : Hp} {o : Option D} {p : Option V} {z : D} {w : V} (r : RO X ι H o p) (rz : ReX X ι H z w) : ReX X ι H (o.getD z) (p.getD w) := by
  cases o <;> cases p <;> first | exact rz | exact r | exact r.elim
theorem re_get1 (hu : X.A.units + 1 < cLine) (to : RE X W o fo) (te : RE X W e fe) (m : M1 X o "get" apos e cpos := by exact ⟨rfl, rfl, rfl, rfl⟩) : RE X W (.Call (.Attribute o "get" apos) [e] [] cpos) (fGet1 fo fe) :=
  ⟨fun {s σ H ι h Q} r x q => we_of (pe_dget1 hu pe_we pe_we m) (to.next r x q fun d h1 v H1 ι1 s1 r1 x1 rv p1 => by
    cases c : (asD h1 d).isSome with
    | false => simp only [c] at p1; exact p1.elim
    | true =>
      simp only [c, if_true] at p1
      obtain ⟨a, rfl, hd⟩ := isD_D x1 rv c
      refine ⟨a, rfl, hd, te.next r1 x1 p1 fun k h2 w H2 ι2 s2 r2 x2 rk p2 => ?_⟩
      cases q1 : asD h2 d with
      | none => simp only [q1] at p2; exact p2.elim
      | some tl =>
        obtain ⟨t, l⟩ := tl
        simp only [q1] at p2
        cases ok : keyOk t k with
        | false => simp only [ok] at p2; exact p2.elim
        | true =>
          simp only [ok, if_true] at p2
          obtain ⟨a', oo, ea, g, ro⟩ := get_ok x2 (rv.step s2) rk q1 ok
          cases ea
          exact ⟨oo, g, p2.use x2 _ (ro.getD .non)⟩)⟩
theorem re_get2 (hu : X.A.units + 1 < cLine) {f : Expr} (to : RE X W o fo) (te : RE X W e f1) (tf : RE X W f f2) (m : M2 X o "get" apos e f cpos := by exact ⟨rfl, rfl, rfl, rfl⟩) : RE X W (.Call (.Attribute o "get" apos) [e, f] [] cpos) (fGet2 fo f1 f2) :=
  ⟨fun {s σ H ι h Q} r x q => we_of (pe_dget2 hu pe_we pe_we pe_we m) (to.next r x q fun d h1 v H1 ι1 s1 r1 x1 rv p1 => by
    cases c : (asD h1 d).isSome with
    | false => simp only [c] at p1; exact p1.elim
    | true =>
      simp only [c, if_true] at p1
      obtain ⟨a, rfl, hd⟩ := isD_D x1 rv c
      refine ⟨a, rfl, hd, te.next r1 x1 p1 fun k h2 w H2 ι2 s2 r2 x2 rk p2 => tf.next r2 x2 p2 fun zz h3 u H3 ι3 s3 r3 x3 rz p3 => ?_⟩
      cases q1 : asD h3 d with
      | none => simp only [q1] at p3; exact p3.elim
      | some tl =>
        obtain ⟨t, l⟩ := tl
        simp only [q1] at p3
        cases ok : keyOk t k with
        | false => simp only [ok] at p3; exact p3.elim
        | true =>
          simp only [ok, if_true] at p3
          obtain ⟨a', oo, ea, g, ro⟩ := get_ok x3 ((rv.step s2).step s3) (rk.step s3) q1 ok
          cases ea
          exact ⟨oo, g, p3.use x3 _ (ro.getD rz)⟩)⟩
/-- {} -/
def fDicN (t : Bool) : FE := fun _ h => .ok (.ref h.length) (h ++ [.dic t []])
theorem re_dnew (t : Bool) : RE X W (.Dict [] [] pos) (fDicN t) := by
  cases t with
  | false => exact ⟨fun {s σ H ι h Q} r x q => we_of pe_dnewK fun p n => q.use' (Step.place n) (x.place n ⟨[], upd_same, .nil⟩) _ (.ref (by show (ι.pl ++ [p])[h.length]? = some p; rw [← x.len]; simp))⟩
  | true => exact ⟨fun {s σ H ι h Q} r x q => we_of pe_dnewT fun p n => q.use' (Step.place n) (x.place n ⟨[], upd_same, .nil⟩) _ (.ref (by show (ι.pl ++ [p])[h.length]? = some p; rw [← x.len]; simp))⟩
end
end Lg
set_option Elab.async false
set_option linter.all false
set_option maxRecDepth 100000
set_option maxHeartbeats 1000000
namespace Lg
open PySem PySem.Spec PyProof.Rows L2
/-! ### sets of tuples of keys -/
section
variable {P : Program} {w : World} {A : Around} {E : Value → Shared → Prop} {s : Shared} {a : Addr} {L : List (Addr × List Key)} {es : Array (Int × Value)} {ep : Nat} {t : SetTable}
theorem SetG.typeIs (R : SetG P w s.heap a L es ep t) : s.TypeIs (.ref a) "set" := let ⟨o, ho, hc, _⟩ := R.ob; ⟨o, ho, hc.1⟩
theorem SetG.noDict (R : SetG P w s.heap a L es ep t) : ∀ b, Value.ref a = .ref b → ∃ ob, s.heap.get? b = some ob ∧ ob.dict = none := fun b e => by
  cases e
  obtain ⟨o, ho, hc, _⟩ := R.ob
  exact ⟨o, ho, hc.2.1⟩
theorem asksK (R : SetG P w s.heap a L es ep t) (TM : TupsIn P w s.heap L) {x : Addr} {k : List Key} (hx : IsK P w s.heap k x) (hu : A.units + 1 < cLine) {Q : Bool → Shared → Prop} (h : ∀ n, Q (hasK L k) { s with toks := s.toks + n }) : wpAny (model P w) A (contains (.ref a) (.ref x)) Q E s := by
  unfold contains
  try with_reducible refine wpAny_holding ?_
  refine wpAny_bind (wpAny_specialOf R.typeIs F.slot_set_contains.lookup ?_)
  show wpAny _ _ (if (some (Value.builtin "set.__contains__") == some Value.none) = true then _ else _) _ E s
  rw [if_neg (by rw [beq_builtin_none]; exact Bool.false_ne_true)]
  refine wpAny_bind (wpAny_callSpecialUnlessNone?_slot (name := Str.ofString "__contains__") R.typeIs F.slot_set_contains
    (wpAny_call_entry F.slot_set_contains R.typeIs entry_set_contains ?_ (F.args_set_contains_2 _ _)))
  unfold Builtin.«frozenset.__contains__» Builtin.Frozenset.oneOther
  simp only [List.isEmpty_nil, bind_assoc]
  unfold Builtin.Frozenset.addrOf Builtin.Frozenset.withSetAsKey setContains
  refine wpAny_bind (wpAny_pure ?_)
  try dsimp only
  refine wpAny_bind (wpAny_pure ?_)
  try dsimp only
  refine wpAny_bind (wpAny_tryCatch ?_)
  refine wpAny_holding ?_
  refine wpAny_bind (wpAny_pyHash_tuple (by first | exact Nat.lt_of_le_of_lt (Nat.le_succ _) hu | exact hu) hx ?_)
  refine wpAny_bind (setFind_K (s := { s with toks := s.toks + (k.length + 1) }) R TM hx (by first | exact Nat.lt_of_le_of_lt (Nat.le_succ _) hu | exact hu) fun r hr => ?_)
  refine wpAny_pure ?_
  show wpAny _ _ (ret (Value.bool r.isSome)) _ _ _
  rw [hr]
  exact wpAny_pure ⟨_, rfl, wpAny_truthy_bool (h _)⟩
theorem addsK (R : SetG P w s.heap a L es ep t) (TM : TupsIn P w s.heap L) {x : Addr} {k : List Key} (hx : IsK P w s.heap k x) (hu : A.units + 1 < cLine) (few : L.length + 1 < 64) {Q : Value → Shared → Prop}
    (h : ∀ n h' L', SetNew P w s.heap h' a L' → (k ∈ L.map (·.2) → L' = L) → (k ∉ L.map (·.2) → L'.Perm ((x, k) :: L)) → Q .none { s with heap := h', toks := s.toks + n }) : wpAny (model P w) A (call (.builtin "set.add") [.ref a, .ref x]) Q E s := by
  refine wpAny_call_entry F.slot_set_add R.typeIs F.entry_set_add ?_ (F.args_set_add_2 _ _)
  unfold Builtin.«set.add» Builtin.Frozenset.oneOther
  simp only [List.isEmpty_nil, bind_assoc]
  unfold Builtin.Frozenset.addrOf setAdd
  refine wpAny_bind (wpAny_pure ?_)
  try dsimp only
  refine wpAny_bind (wpAny_pure ?_)
  try dsimp only
  refine wpAny_bind ?_
  refine wpAny_holding ?_
  refine wpAny_bind (wpAny_pyHash_tuple (by first | exact Nat.lt_of_le_of_lt (Nat.le_succ _) hu | exact hu) hx ?_)
  refine add_K (s := { s with toks := s.toks + (k.length + 1) }) R TM hx (by first | exact Nat.lt_of_le_of_lt (Nat.le_succ _) hu | exact hu) few fun b h' L' n1 n2 n3 => ?_
  show wpAny _ _ (ret Value.none) _ _ _
  exact wpAny_pure ⟨_, rfl, h _ h' L' n1 n2 n3⟩
end
section
variable {X : Cx} {W : WX} {e o : Expr} {es : List Expr} {fo fe : FE} {fs : FA} {pos p apos cpos : Pos} {y : Str}
theorem items_V {P : Program} {w : World} : ∀ {k : List Key} {us : List Value}, Vals (k.map kV) us → ItemsAre (mixKind P w) k us
  | [], _, .nil => .nil
  | _ :: _, _, .cons r t => .cons (kV_is r) (items_V t)
theorem isK_of {pins : List (Addr × Obj)} {σ : L2.St} {H : Hp} {s : Shared} {b : Addr} {k : List Key} (I : Inv X pins σ H s) (e : H b = some (.tup (k.map kV))) : IsK X.prog X.w s.heap k b := by
  obtain ⟨its, r, ⟨o, ho, hc, n, hd⟩, _⟩ := I.tuple (SqT.of e)
  exact ⟨o, its.toArray, n, ho, hc, hd, by simpa using items_V r⟩
/-- a tuple of keys -/
def keyT : D → Option (List Key)
  | .tup l => keysD l
  | _ => none
theorem keyT_ok {ι : Ix} {H : Hp} {d : D} {v : V} {k : List Key} (r : ReX X ι H d v) (e : keyT d = some k) : ∃ a, v = .ref a ∧ KTup ι H (a, k) := by
  cases d with
  | tup l =>
    cases r with
    | tup h1 h2 h3 =>
      rw [keysD_V e h3] at h1
      exact ⟨_, rfl, h1, h2⟩
  | _ => cases e
def setAt (h : Hh) : D → Option (List (List Key))
  | .ref n => match h[n]? with
    | some (.set l) => some l
    | _ => none
  | _ => none
theorem setAt_ok {ι : Ix} {H : Hp} {h : Hh} {d : D} {v : V} {l : List (List Key)} (x : HX X ι H h) (r : ReX X ι H d v) (e : setAt h d = some l) :
    ∃ n a L, d = .ref n ∧ v = .ref a ∧ ι.pl[n]? = some a ∧ h[n]? = some (.set l) ∧ H a = some (SetKO X.prog X.w a L) ∧ (L.map (·.2)).Perm l ∧ ∀ p ∈ L, KTup ι H p := by
  cases d with
  | ref n =>
    cases q : h[n]? with
    | none => simp [setAt, q] at e
    | some ob =>
      cases ob with
      | set l' =>
        simp only [setAt, q, Option.some.injEq] at e
        subst e
        cases r with
        | ref hn =>
          obtain ⟨L, h1, h2, h3⟩ := x.at_ n _ _ hn q
          exact ⟨n, _, L, rfl, rfl, hn, q, h1, h2, h3⟩
      | _ => simp [setAt, q] at e
  | _ => cases e
def hasL (l : List (List Key)) (k : List Key) : Bool := l.any fun j => decide (j = k)
theorem hasL_iff {l : List (List Key)} {k : List Key} : hasL l k = true ↔ k ∈ l := by
  unfold hasL
  rw [List.any_eq_true]
  exact ⟨fun ⟨j, h1, h2⟩ => of_decide_eq_true h2 ▸ h1, fun h => ⟨k, h, decide_eq_true rfl⟩⟩
theorem hasK_L {L : List (Addr × List Key)} {l : List (List Key)} (pm : (L.map (·.2)).Perm l) (k : List Key) : hasK L k = hasL l k := by
  rw [Bool.eq_iff_iff, hasK_iff, hasL_iff]
  exact pm.mem_iff
/-- in, of a set too -/
def isInS (h : Hh) (x y : D) : Option Bool := match setAt h y with
  | some l => (keyT x).map (hasL l)
  | none => isIn h x y
def opInS (h : Hh) (x y : D) : Option D := (isInS h x y).map .bl
def opNiS (h : Hh) (x y : D) : Option D := (isInS h x y).map fun b => .bl (!b)
theorem o_inS (hu : X.A.units + 65 < cLine) : OpR X (compareOp .In) (rD X opInS) := by
  intro pins s σ H x y v u Q I rx ry hq
  obtain ⟨ι, h, dx, dy, d, hx, r1, r2, e, q⟩ := hq
  obtain ⟨b, e1, rfl⟩ := Option.map_eq_some_iff.mp e
  unfold isInS at e1
  cases z : setAt h dy with
  | none =>
    rw [z] at e1
    exact o_in hu pins s σ H x y v u Q I rx ry ⟨ι, h, dx, dy, .bl b, hx, r1, r2, by unfold opIn; rw [show isIn h dx dy = some b from e1]; rfl, q⟩
  | some l =>
    rw [z] at e1
    obtain ⟨k, e2, rfl⟩ := Option.map_eq_some_iff.mp e1
    obtain ⟨n, a, L, rfl, rfl, hn, hh, hA, pm, kt⟩ := setAt_ok hx r2 z
    obtain ⟨c, rfl, k1, k2⟩ := keyT_ok r1 e2
    cases rx
    cases ry
    obtain ⟨es, ep, t, R⟩ := setKO_at I.hok hA
    show wpAny _ _ ((do return Value.bool (← contains (.ref a) (.ref c))) : Sem Value) _ _ s
    refine wpAny_bind (asksK R (fun p hp => isK_of I (kt p hp).1) (isK_of I k1) (by omega) fun m => wpAny_pure ⟨.bl (hasK L k), H, I.tok _, rfl, ?_⟩)
    rw [hasK_L pm]
    exact q _ _ Step.refl hx (.bl _)
theorem o_niS (hu : X.A.units + 65 < cLine) : OpR X (compareOp .NotIn) (rD X opNiS) := by
  intro pins s σ H x y v u Q I rx ry hq
  obtain ⟨ι, h, dx, dy, d, hx, r1, r2, e, q⟩ := hq
  obtain ⟨b, e1, rfl⟩ := Option.map_eq_some_iff.mp e
  unfold isInS at e1
  cases z : setAt h dy with
  | none =>
    rw [z] at e1
    exact o_ni hu pins s σ H x y v u Q I rx ry ⟨ι, h, dx, dy, .bl (!b), hx, r1, r2, by unfold opNi; rw [show isIn h dx dy = some b from e1]; rfl, q⟩
  | some l =>
    rw [z] at e1
    obtain ⟨k, e2, rfl⟩ := Option.map_eq_some_iff.mp e1
    obtain ⟨n, a, L, rfl, rfl, hn, hh, hA, pm, kt⟩ := setAt_ok hx r2 z
    obtain ⟨c, rfl, k1, k2⟩ := keyT_ok r1 e2
    cases rx
    cases ry
    obtain ⟨es, ep, t, R⟩ := setKO_at I.hok hA
    show wpAny _ _ ((do return Value.bool (!(← contains (.ref a) (.ref c)))) : Sem Value) _ _ s
    refine wpAny_bind (asksK R (fun p hp => isK_of I (kt p hp).1) (isK_of I k1) (by omega) fun m => wpAny_pure ⟨.bl (!(hasK L k)), H, I.tok _, rfl, ?_⟩)
    rw [hasK_L pm]
    exact q _ _ Step.refl hx (.bl _)
/-- set() -/
def fSet0 : FE := fun _ h => .ok (.ref h.length) (h ++ [.set []])
theorem call_set0 {pins : List (Addr × Obj)} {σ : L2.St} {H : Hp} {s : Shared} {Q : VK} (I : Inv X pins σ H s) (q : ∀ a, H a = none → Q (.ref a) (upd H a (SetKO X.prog X.w a []))) : wpAny (model X.prog X.w) X.A (call (.type "set") []) (EP X pins σ Q) X.xe s := by
  refine setR_new fun _ => ?_
  exact ⟨.ref _, upd H s.heap.objs.size (SetKO X.prog X.w s.heap.objs.size []), I.laid (t' := s.toks) (fun b u e => Heap.get?_push_of_some _ e) (Nat.le_refl _) (setKO_ok ⟨_, _, _, fresh_K (Heap.get?_push_size _ rfl)⟩), rfl, q _ (I.hok.fresh (Nat.le_refl _))⟩
theorem re_set0 (hm : X.mg y = none) (hv : bootBuiltins y = some (.type "set")) (hg : Gl X y := by rfl) (hn : y ≠ "__name__" := by decide) (hdb : (y == ("__debug__" : Str)) = false := by decide) : RE X W (.Call (.Name y p) [] [] pos) fSet0 :=
  ⟨fun {s σ H ι h Q} r x q => we_of (pe_callTy0 (r := fun vs H Q => vs = [] ∧ ∀ a, H a = none → Q (.ref a) (upd H a (SetKO X.prog X.w a []))) (fun pins s σ H vs us Q I r ⟨e, q⟩ => by
    subst e
    cases r
    exact call_set0 I q) hg hm hv hn hdb) ⟨rfl, fun a n => q.use' (Step.place n) (x.place n ⟨[], upd_same, List.Perm.refl _, fun p hp => by cases hp⟩) _ (.ref (by show (ι.pl ++ [a])[h.length]? = some a; rw [← x.len]; simp))⟩⟩
/-- s.add(e) -/
def fSAdd (fo fe : FE) : FE := fun s h => (fo s h).bind fun d h1 => match setAt h1 d with
  | none => .no
  | some _ => (fe s h1).bind fun e h2 => match d, setAt h2 d, keyT e with
    | .ref n, some l, some k => if l.length < 60 then .ok .non (h2.set n (.set (if hasL l k then l else l ++ [k]))) else .no
    | _, _, _ => .no
theorem re_sadd (to : RE X W o fo) (te : RE X W e fe) (hbase : attributeBase o "add" X.env (eval o X.env) = eval o X.env := by rfl)
    (hfew : ((backTo cpos (starEach [e] X.env)).all (fun x => !x.1) && (backToKw cpos (keywordEach [] X.env)).all (fun x => x.1.isSome) && decide (([e] : List Expr).length + ([] : List Keyword).length + (if ([] : List Keyword).isEmpty then 0 else 1) < 30)) = true := by rfl)
    (hu : X.A.units + 65 < cLine)
    (hline : (apos.endLine == cpos.line) = true := by rfl) (hs : starEach [e] X.env = (false, eval e X.env) :: starEach [] X.env := by rfl) (hplain : (backTo cpos (starEach [] X.env)).any (·.1) = false := by rfl) :
    RE X W (.Call (.Attribute o "add" apos) [e] [] cpos) (fSAdd fo fe) := by
  refine ⟨fun {s σ H ι h Q} r x q pins sh I => ?_⟩
  refine wpAny_Call_method_late hbase hfew hline rfl (thn (to.next (R := fun v H1 => ∃ ι1 h1 d, SR X.K ι1 H1 s σ ∧ HX X ι1 H1 h1 ∧ ReX X ι1 H1 d v ∧ Po X W σ ι1 H1 (match setAt h1 d with
    | none => .no
    | some _ => (fe s h1).bind fun e h2 => match d, setAt h2 d, keyT e with
      | .ref n, some l, some k => if l.length < 60 then .ok .non (h2.set n (.set (if hasL l k then l else l ++ [k]))) else .no
      | _, _, _ => .no) (fun d ι' H' => ∀ v, ReX X ι' H' d v → Q v H')) r x q (fun d h1 v H1 ι1 s1 r1 x1 rv p1 => ⟨ι1, h1, d, r1, x1, rv, p1⟩) pins sh I) fun u s1 ⟨v, H1, I1, rx, ι1, h1, d, r1, x1, rv, p1⟩ => ?_)
  cases z : setAt h1 d with
  | none => simp only [z] at p1; exact p1.elim
  | some l0 =>
    simp only [z] at p1
    obtain ⟨n, a, L, rfl, rfl, hn, hh, hA, pm, kt⟩ := setAt_ok x1 rv z
    cases rx
    obtain ⟨es0, ep0, t0, R0⟩ := setKO_at I1.hok hA
    refine ⟨"set", "set.add", F.plainAttrs_set, F.slot_set_add, F.type_set_add, R0.typeIs, R0.noDict, ?_⟩
    rw [hs]
    refine Calls.callWith_builtin (by show (false || (backTo cpos (starEach [] X.env)).any (·.1)) = false; rw [hplain] <;> rfl) (Calls.evalArgs_plain ?_)
    refine Calls.spliced_cons (thn (te.next (R := fun w H2 => ∃ ι2 h2 e, ReX X ι2 H2 (.ref n) (.ref a) ∧ HX X ι2 H2 h2 ∧ ReX X ι2 H2 e w ∧ Po X W σ ι2 H2 (match (D.ref n), setAt h2 (.ref n), keyT e with
      | .ref n, some l, some k => if l.length < 60 then Oc.ok .non (h2.set n (.set (if hasL l k then l else l ++ [k]))) else .no
      | _, _, _ => .no) (fun d ι' H' => ∀ v, ReX X ι' H' d v → Q v H')) r1 x1 p1 (fun e h2 w H2 ι2 s2 r2 x2 rw p2 => ⟨ι2, h2, e, rv.step s2, x2, rw, p2⟩) pins s1 I1) fun u2 s2 ⟨w, H2, I2, ru, ι2, h2, ee, ra, x2, rw, p2⟩ => ?_)
    refine Calls.spliced_nil ?_
    cases z2 : setAt h2 (.ref n) with
    | none => simp only [z2] at p2; exact p2.elim
    | some l =>
      cases z3 : keyT ee with
      | none => simp only [z2, z3] at p2; exact p2.elim
      | some k =>
        simp only [z2, z3] at p2
        by_cases few : l.length < 60
        · rw [if_pos few] at p2
          obtain ⟨n2, a2, L2, en, ea, hn2, hh2, hA2, pm2, kt2⟩ := setAt_ok x2 ra z2
          cases en
          cases ea
          obtain ⟨c, rfl, k1, k2⟩ := keyT_ok rw z3
          cases ru
          obtain ⟨es, ep, t, R⟩ := setKO_at I2.hok hA2
          have len2 : L2.length = l.length := by
            have := pm2.length_eq
            rwa [List.length_map] at this
          refine addsK R (fun p hp => isK_of I2 (kt2 p hp).1) (isK_of I2 k1) (by omega) (by omega) fun m h' L' nw n1 n2' => ?_
          have mem := List.mem_of_getElem? hn2
          have he : ∃ u, h'.get? a = some u := by
            obtain ⟨_, _, _, R'⟩ := nw.ex
            obtain ⟨o', ho', _⟩ := R'.ob
            exact ⟨o', ho'⟩
          have st : Step ι2 ι2 H2 (upd H2 a (SetKO X.prog X.w a L')) := Step.write mem
          refine ⟨.non, upd H2 a (SetKO X.prog X.w a L'), I2.write (e := a) (t' := s2.toks + m) (by rw [hA2]; trivial) (.inl rfl) (fun b u hb hu => (nw.same.2 b hb).trans hu) he (setKO_ok nw.ex), rfl, ?_⟩
          refine p2.use' st (x2.write hn2 ⟨L', upd_same, ?_, fun p hp => ?_⟩) _ .non
          · cases q : hasL l k with
            | true =>
              rw [n1 (hasK_iff.mp ((hasK_L pm2 k).trans q))]
              exact pm2
            | false =>
              have nm : k ∉ L2.map (·.2) := fun z => by
                have := (hasK_L pm2 k).symm.trans (hasK_iff.mpr z)
                rw [q] at this
                cases this
              refine ((n2' nm).map (·.2)).trans ?_
              rw [List.map_cons]
              refine (List.Perm.cons k pm2).trans ?_
              rw [if_neg Bool.false_ne_true]
              exact (List.perm_append_singleton k l).symm
          · have : p = (c, k) ∨ p ∈ L2 := by
              by_cases nm : k ∈ L2.map (·.2)
              · rw [n1 nm] at hp
                exact .inr hp
              · rcases List.mem_cons.mp ((n2' nm).mem_iff.mp hp) with e | e
                · exact .inl e
                · exact .inr e
            have kp : KTup ι2 H2 p := by
              rcases this with e | e
              · subst e
                exact ⟨k1, k2⟩
              · exact kt2 p e
            exact ⟨st.st _ _ kp.1 kp.2.1, st.out kp.1 kp.2⟩
        · rw [if_neg few] at p2
          exact p2.elim
end
end Lg
set_option Elab.async false
set_option linter.all false
set_option maxRecDepth 100000
set_option maxHeartbeats 1000000
namespace Lg
open PySem PySem.Spec PyProof.Rows L2
theorem PoC.step {P : Program} {w : World} {K : PySem.W.Frag} {mg : Str → Option Value} {E : XK} {ι ι' : Ix} {H H' : Hp} {r : Oc D} {Q : VK} (s : Step ι ι' H H') (p : PoC P w K mg E ι H r Q) : PoC P w K mg E ι' H' r Q := by
  cases r with
  | ok a h => exact fun v H2 ι2 s2 => p v H2 ι2 (s.trans s2)
  | ex x h => exact fun H2 ι2 c d s2 => p H2 ι2 c d (s.trans s2)
  | no => exact p
/-! ### defs with a star parameter -/
def callS (N : List Str) (n : Nat) (g : FS) : List D → Hh → Oc D := fun ds h => if n ≤ ds.length ∧ line ds.length = true then (g (startD N (ds.take n ++ [.tup (ds.drop n)])) h).fin else .no
section
variable {P : Program} {w : World} {K : PySem.W.Frag} {mg : Str → Option Value} {base : Heap}
theorem Vals.takeV : ∀ {vs : List V} {us : List Value} (n : Nat), Vals vs us → Vals (vs.take n) (us.take n) ∧ Vals (vs.drop n) (us.drop n)
  | _, _, 0, r => ⟨.nil, r⟩
  | _, _, _ + 1, .nil => ⟨.nil, .nil⟩
  | _, _, n + 1, .cons h r => ⟨.cons h (Vals.takeV n r).1, (Vals.takeV n r).2⟩
theorem fnd_star {x qual : Str} {st : Stmt} {f : Addr} {fd : FuncData} {N ps : List Str} {pv : Str} {k : Nat} {g : FS} (F : Fun K x qual st f fd) (S : FnScope N (ps ++ [pv]) (defScope st))
    (hb : ∀ us rest : List Value, us.length = ps.length → bindArgs fd ⟨us ++ rest, []⟩ = (newTuple rest >>= fun t => pure (ps.zip us ++ [(pv, t)])))
    (body : ∀ (cdv : Value) (A : Around) (outer : List Env) (s : Shared) (H : Hp) (E : XK), Room k (A.deeper (envOfC qual (defScope st) s.heap.objs.size f cdv)) → (A.deeper (envOfC qual (defScope st) s.heap.objs.size f cdv)).guards = some [] →
      RSs (cxOf (L2.CX P w) P w K mg base N qual (defScope st) f cdv A outer s H E) (fun c d _ H => E c d H) (defBody st) g) : FnD P w K mg base (k + 1) f [] (callS N ps.length g) := by
  obtain ⟨oc, od, kV, doc, pmm, an, cdv, ct, osl, rfl, lk, hcd⟩ := F.ex
  refine ⟨fun {A outer s H us ws vs zs ds es ι h Q E} hr hg e0 r1 r2 x rd re hlen p => ?_⟩
  obtain rfl : es = [] := List.eq_nil_of_length_eq_zero hlen
  cases re
  cases r2
  rw [List.append_nil] at p
  show codeAny _ _ (.call (.ref f) ⟨us, []⟩) _ _
  unfold callS at p
  by_cases hn : ps.length ≤ ds.length ∧ line ds.length = true
  · rw [if_pos hn] at p
    obtain ⟨ru1, ru2⟩ := Vals.takeV ps.length r1
    have lv : vs.length = ds.length := rd.len.symm
    have lu : us.length = ds.length := by rw [← r1.length]; exact lv
    have l1 : (us.take ps.length).length = ps.length := by rw [List.length_take]; omega
    have lz : (us.drop ps.length).length ≤ sizeLine := by
      rw [List.length_drop]
      have := line_ok hn.2
      omega
    have hn0 : H s.heap.objs.size = Option.none := e0.hok.fresh (Nat.le_refl _)
    refine StX.run_bnd (CX := L2.CX P w) (N := N) (ps := ps ++ [pv]) lk hcd S hr e0 (G := fun xs H2 => ∃ q, H q = Option.none ∧ xs = vs.take ps.length ++ [V.ref q] ∧ H2 = upd H q (.tup (vs.drop ps.length))) (fun A' Ex Q' hh => ?_) fun s2 H2 xs ⟨q, hq, ex, eH⟩ hr' => ?_
    · have e : us = us.take ps.length ++ us.drop ps.length := (List.take_append_drop _ _).symm
      rw [e, hb _ _ l1]
      refine wpAny_bind (wpAny_newTuple (wpAny_pure ?_) lz)
      have new : ObjOk P w (upd H s.heap.objs.size (.tup (vs.drop ps.length))) (s.heap.push ({ cls := .type "tuple", data := .seq (us.drop ps.length).toArray } : Obj)) s.heap.objs.size (.tup (vs.drop ps.length)) :=
        ⟨by rw [ru2.length]; exact lz, us.drop ps.length, ru2, ⟨_, Heap.get?_push_size _ rfl, rfl, _, rfl⟩⟩
      have un := StX.un_laid (fs := frs outer) (s := s) (o := ({ cls := .type "tuple", data := .seq (us.drop ps.length).toArray } : Obj)) (u := .tup (vs.drop ps.length)) hn0
      have z := hh _ _ (vs.take ps.length ++ [V.ref s.heap.objs.size]) (us.take ps.length ++ [Value.ref s.heap.objs.size]) (StX.env0_laid e0 new) un rfl (fun e s' => StX.cxUp outer s H _ _ E e s' un (fun b o q => Heap.get?_push_of_some _ q) rfl) (ru1.append (.cons rfl .nil))
        (by rw [List.length_append, List.length_append, ru1.length, l1] <;> rfl) ⟨_, hn0, rfl, rfl⟩
      rw [List.zip_append l1.symm] at z
      exact z
    · subst ex eH
      refine ⟨Wss _ (defBody st), pss_wss, ?_⟩
      have st1 : Step ι ι H (upd H q (.tup (vs.drop ps.length))) := Step.new hq
      have rs : Res K ι (upd H q (.tup (vs.drop ps.length))) (ds.take ps.length ++ [.tup (ds.drop ps.length)]) (vs.take ps.length ++ [V.ref q]) :=
        ((rd.take ps.length).step st1).app (.cons (.tup upd_same (x.fresh hq) ((rd.drop ps.length).step st1)) .nil)
      have p1 := PoC.step st1 p
      exact (body cdv A outer s2 _ E hr' (by first | exact hg | simpa using hg)).run (E := { nx := fun _ H' => Q .non H', rt := Q }) (sr_start rs) (x.new hq) (by
        cases q : g (startD N (ds.take ps.length ++ [.tup (ds.drop ps.length)])) h with
        | nx s' h' => rw [q] at p1; exact fun σ' H' ι' t x' r' => p1 .non H' ι' t x' .non
        | rt d h' => rw [q] at p1; exact p1
        | bk s' h' => rw [q] at p1; exact p1.elim
        | ct s' h' => rw [q] at p1; exact p1.elim
        | ex z s' h' => rw [q] at p1; exact fun σ' H' ι' c d t x' r' y' => p1 H' ι' c d t x' y'
        | no => rw [q] at p1; exact p1.elim)
  · rw [if_neg hn] at p
    exact p.elim
end
/-! ### arguments: starred, by name -/
section
variable {X : Cx} {W : WX} {e o : Expr} {es : List Expr} {kws : List Keyword} {fs fk : FA} {fe fo : FE} {pos p sp apos kpos : Pos} {k : Nat} {f c : Addr} {F : List D → Hh → Oc D} {y C m : Str} {ks : List Str} {nm : Option Str}
def fCS (f : FE) (g : FA) : FA := fun s h => (f s h).bind fun d h1 => match asF h1 d with
  | some l => (g s h1).bind fun ds h2 => .ok (l ++ ds) h2
  | none => match d with
    | .tup l => (g s h1).bind fun ds h2 => .ok (l ++ ds) h2
    | _ => .no
theorem ra_star (he : RE X W e fe) (hr : RA X W es fs) (hs : starEach (.Starred e sp :: es) X.env = (true, eval e X.env) :: starEach es X.env := by rfl) : RA X W (.Starred e sp :: es) (fCS fe fs) :=
  ⟨fun {s σ H ι h Q} r x q => wa_of (StX.pa_star pe_we pa_wa hs) (he.next r x q fun d h1 v H1 ι1 s1 r1 x1 rv p1 => by
    cases z : asF h1 d with
    | some l =>
      simp only [z] at p1
      obtain ⟨a, xs, rfl, hq, rl⟩ := asF_ok x1 rv z
      exact ⟨a, xs, rfl, .inr hq, hr.next r1 x1 p1 fun ds h2 vs H2 ι2 s2 r2 x2 rvs p2 => p2.use x2 _ ((rl.step s2).app rvs)⟩
    | none =>
      simp only [z] at p1
      cases d with
      | tup l =>
        cases rv with
        | tup h3 h4 h5 => exact ⟨_, _, rfl, .inl (SqT.of h3), hr.next r1 x1 p1 fun ds h2 vs H2 ι2 s2 r2 x2 rvs p2 => p2.use x2 _ ((h5.step s2).app rvs)⟩
      | _ => exact p1.elim)⟩
def Wkw (X : Cx) (kws : List Keyword) : TA := fun σ H Q => ∀ (pos : Pos) (pins : List (Addr × Obj)) (s : Shared), Inv X pins σ H s → wpAny (model X.prog X.w) X.A (evalAll ((backToKw pos (keywordEach kws X.env)).map (·.2))) (AP X pins σ Q) X.xe s
theorem pk_wkw : PK X kws (Wkw X kws) := ⟨fun pos pins s σ H Q I h => h pos pins s I⟩
theorem wkw_of {t : TA} (q : PK X kws t) {σ : L2.St} {H : Hp} {Q : List V → Hp → Prop} (h : t σ H Q) : Wkw X kws σ H Q := fun pos pins s I => q.run pos pins s σ H Q I h
structure RK (X : Cx) (W : WX) (kws : List Keyword) (f : FA) : Prop where
  run : ∀ {s : S} {σ : L2.St} {H : Hp} {ι : Ix} {h : Hh} {Q : List V → Hp → Prop}, SR X.K ι H s σ → HX X ι H h → Po X W σ ι H (f s h) (fun ds ι' H' => ∀ vs, Res X.K ι' H' ds vs → Q vs H') → Wkw X kws σ H Q
theorem RK.next {β : Type} {kk : List D → Hh → Oc β} {G : β → Ix → Hp → Prop} {R : List V → Hp → Prop} {s : S} {σ : L2.St} {H : Hp} {ι : Ix} {h : Hh} (t : RK X W kws fs) (r : SR X.K ι H s σ) (x : HX X ι H h) (p : Po X W σ ι H ((fs s h).bind kk) G)
    (n : ∀ ds h1 vs H1 ι1, Step ι ι1 H H1 → SR X.K ι1 H1 s σ → HX X ι1 H1 h1 → Res X.K ι1 H1 ds vs → Po X W σ ι1 H1 (kk ds h1) G → R vs H1) : Wkw X kws σ H R := by
  refine t.run r x ?_
  cases q : fs s h with
  | ok d h1 =>
    rw [q] at p
    exact fun H1 ι1 s1 x1 v rv => n d h1 v H1 ι1 s1 (r.step s1) x1 rv (Po.step s1 p)
  | ex y h1 => rw [q] at p; exact p
  | no => rw [q] at p; exact p
theorem rk_nil : RK X W [] fN := ⟨fun r x p => wkw_of pk_nil (p.use x [] .nil)⟩
theorem rk_cons (he : RE X W e fe) (hr : RK X W kws fk) : RK X W (⟨nm, e, kpos⟩ :: kws) (fCo fe fk) :=
  ⟨fun {s σ H ι h Q} r x p => wkw_of (pk_cons pe_we pk_wkw) (he.next r x p fun d h1 v H1 ι1 s1 r1 x1 rv p1 => hr.next r1 x1 p1 fun ds h2 vs H2 ι2 s2 r2 x2 rvs p2 => p2.use x2 _ (.cons (rv.step s2) rvs))⟩
/-- f(e, .., k = v, ..) -/
def fCallK (n : Nat) (F : List D → Hh → Oc D) (fs fk : FA) : FE := fun s h => (fs s h).bind fun ds h1 => (fk s h1).bind fun es h2 => if es.length = n then F (ds ++ es) h2 else .no
theorem re_callK (t : FnD X.prog X.w X.K X.mg X.base k f ks F) (hr : Room k X.A) (hgd : X.A.guards = some []) (tk : Takes X W) (hm : X.mg y = some (.ref f)) (hk : PySem.W.keepIn X.K (.ref f) = true) (ta : RA X W (e :: es) fs) (tkw : RK X W kws fk) (hg : Gl X y := by rfl)
    (hall : (backToKw pos (keywordEach kws X.env)).all (·.1.isSome) = true := by rfl) (hks : (backToKw pos (keywordEach kws X.env)).filterMap (·.1) = ks := by rfl) (hdb : (y == ("__debug__" : Str)) = false := by decide)
    (he : starEach (e :: es) X.env = (false, eval e X.env) :: starEach es X.env := by rfl) (hpl : ((backTo pos (starEach (e :: es) X.env)).any (·.1) || (backToKw pos (keywordEach kws X.env)).any (·.1.isNone)) = false := by rfl) :
    RE X W (.Call (.Name y p) (e :: es) kws pos) (fCallK ks.length F fs fk) := by
  refine ⟨fun {s σ H ι h Q} r x q pins sh I => ?_⟩
  refine wpAny_Call_Name_kw (ld_glob I hg hm ?_ hdb)
  refine PySem.W.callWith_KW (h₀ := X.base) I.ok.mod.kin hk hall (thn (ta.next (R := fun vs H1 => ∃ ι1 h1 ds, SR X.K ι1 H1 s σ ∧ Res X.K ι1 H1 ds vs ∧ HX X ι1 H1 h1 ∧ Po X W σ ι1 H1 ((fk s h1).bind fun es h2 => if es.length = ks.length then F (ds ++ es) h2 else .no) (fun d ι' H' => ∀ v, ReX X ι' H' d v → Q v H')) r x q (fun ds h1 vs H1 ι1 s1 r1 x1 rvs p1 => ⟨ι1, h1, ds, r1, rvs, x1, p1⟩) pos pins sh I) fun us s1 ⟨vs, H1, I1, rv, ι1, h1, ds, r1, rvs, x1, p1⟩ => ?_) hpl he
  refine thn (tkw.next (R := fun zs H2 => ∃ ι2 h2 es, Res X.K ι2 H2 ds vs ∧ Res X.K ι2 H2 es zs ∧ HX X ι2 H2 h2 ∧ Po X W σ ι2 H2 (if es.length = ks.length then F (ds ++ es) h2 else .no) (fun d ι' H' => ∀ v, ReX X ι' H' d v → Q v H')) r1 x1 p1 (fun es h2 zs H2 ι2 s2 r2 x2 rzs p2 => ⟨ι2, h2, es, rvs.step s2, rzs, x2, p2⟩) pos pins s1 I1) fun ws s2 ⟨zs, H2, I2, rz, ι2, h2, es, rd, re, x2, p2⟩ => ⟨I2.kIn, ?_⟩
  by_cases hl : es.length = ks.length
  · rw [if_pos hl] at p2
    rw [hks]
    have := run_D (us := us) (ws := ws) t hr hgd tk I2 rv rz x2 rd re hl p2
    exact this
  · rw [if_neg hl] at p2
    exact p2.elim
theorem re_callK0 (t : FnD X.prog X.w X.K X.mg X.base k f ks F) (hr : Room k X.A) (hgd : X.A.guards = some []) (tk : Takes X W) (hm : X.mg y = some (.ref f)) (hk : PySem.W.keepIn X.K (.ref f) = true) (tkw : RK X W kws fk) (hg : Gl X y := by rfl)
    (hall : (backToKw pos (keywordEach kws X.env)).all (·.1.isSome) = true := by rfl) (hks : (backToKw pos (keywordEach kws X.env)).filterMap (·.1) = ks := by rfl) (hdb : (y == ("__debug__" : Str)) = false := by decide)
    (hpl : ((backTo pos (starEach [] X.env)).any (·.1) || (backToKw pos (keywordEach kws X.env)).any (·.1.isNone)) = false := by rfl) :
    RE X W (.Call (.Name y p) [] kws pos) (fCallK ks.length F fN fk) := by
  refine ⟨fun {s σ H ι h Q} r x q pins sh I => ?_⟩
  refine wpAny_Call_Name_kw (ld_glob I hg hm ?_ hdb)
  refine PySem.W.callWith_KW0 (h₀ := X.base) I.ok.mod.kin hk hall ?_ hpl
  refine thn (tkw.next (R := fun zs H2 => ∃ ι2 h2 es, Res X.K ι2 H2 es zs ∧ HX X ι2 H2 h2 ∧ Po X W σ ι2 H2 (if es.length = ks.length then F ([] ++ es) h2 else .no) (fun d ι' H' => ∀ v, ReX X ι' H' d v → Q v H')) r x q (fun es h2 zs H2 ι2 s2 r2 x2 rzs p2 => ⟨ι2, h2, es, rzs, x2, p2⟩) pos pins sh I) fun ws s2 ⟨zs, H2, I2, rz, ι2, h2, es, re, x2, p2⟩ => ⟨I2.kIn, ?_⟩
  by_cases hl : es.length = ks.length
  · rw [if_pos hl] at p2
    rw [hks]
    have := run_D (us := []) (vs := []) (ds := []) (ws := ws) t hr hgd tk I2 .nil rz x2 .nil re hl p2
    exact this
  · rw [if_neg hl] at p2
    exact p2.elim
/-- f(e, .., *y) -/
theorem re_callS (t : FnD X.prog X.w X.K X.mg X.base k f [] F) (hr : Room k X.A) (hgd : X.A.guards = some []) (tk : Takes X W) (hm : X.mg y = some (.ref f)) (hk : PySem.W.keepIn X.K (.ref f) = true) (ta : RA X W (e :: es) fs)
    (hg : Gl X y := by rfl) (hdb : (y == ("__debug__" : Str)) = false := by decide) (he : starEach (e :: es) X.env = (false, eval e X.env) :: starEach es X.env := by rfl) (hst : (backTo pos (starEach es X.env)).any (·.1) = true := by rfl) :
    RE X W (.Call (.Name y p) (e :: es) [] pos) (fCall F fs) := by
  refine ⟨fun {s σ H ι h Q} r x q pins sh I => ?_⟩
  refine wpAny_Call_Name_kw (ld_glob I hg hm ?_ hdb)
  refine PySem.W.callWith_S2 (h₀ := X.base) I.ok.mod.kin hk (thn (ta.next (R := fun vs H1 => ∃ ι1 h1 ds, Res X.K ι1 H1 ds vs ∧ HX X ι1 H1 h1 ∧ Po X W σ ι1 H1 (F ds h1) (fun d ι' H' => ∀ v, ReX X ι' H' d v → Q v H')) r x q (fun ds h1 vs H1 ι1 s1 r1 x1 rvs p1 => ⟨ι1, h1, ds, rvs, x1, p1⟩) pos pins sh I) fun us s1 ⟨vs, H1, I1, rv, ι1, h1, ds, rvs, x1, p1⟩ => ⟨I1.kIn, ?_⟩) he hst
  have := run_D (us := us) (ws := []) (zs := []) (es := []) t hr hgd tk I1 rv .nil x1 rvs .nil rfl (by rw [List.append_nil]; exact p1)
  exact this
end
end Lg
set_option Elab.async false
set_option linter.all false
set_option maxRecDepth 100000
set_option maxHeartbeats 1000000
namespace Lg
open PySem PySem.Spec PyProof.Rows L2 ClX
/-! ### o.f = e -/
def putD (f : Str) (y : D) : List (Str × D) → List (Str × D)
  | [] => [(f, y)]
  | (g, x) :: r => if g = f then (g, y) :: r else (g, x) :: putD f y r
theorem ReF.put {K : PySem.W.Frag} {ι : Ix} {H : Hp} {f : Str} {d : D} {v : V} (h : Re K ι H d v) : ∀ {l : List (Str × D)} {fs : List (Str × V)}, ReF K ι H l fs → ReF K ι H (putD f d l) (putF f v fs)
  | _, _, .nil => .cons h .nil
  | _, _, .cons (f := g) q r => by
    unfold putD putF
    by_cases e : g = f
    · rw [if_pos e, if_pos e]
      exact .cons h r
    · rw [if_neg e, if_neg e]
      exact .cons q (ReF.put h r)
theorem ReF.len {K : PySem.W.Frag} {ι : Ix} {H : Hp} : ∀ {l : List (Str × D)} {fs : List (Str × V)}, ReF K ι H l fs → l.length = fs.length
  | _, _, .nil => rfl
  | _, _, .cons _ r => congrArg (· + 1) (ReF.len r)
theorem insAt_cls {X : Cx} {C : Str} {c cc : Addr} (hC : X.mg C = some (.ref c)) (ec : clAt X.mg C = some cc) : cc = c := by
  unfold clAt at ec
  rw [hC] at ec
  exact (Option.some.inj ec).symm
section
variable {X : Cx} {W : WX} {e o : Expr} {es : List Expr} {kws : List Keyword} {fs fk : FA} {fe fo : FE} {pos p sp apos pos' kpos : Pos} {k : Nat} {f c g : Addr} {F : List D → Hh → Oc D} {y C m : Str} {ks : List Str}
def gFld (C m : Str) (fe fo : FE) : FS := fun s h => (fe s h).toS s fun y h1 => (fo s h1).toS s fun d h2 => match d, insAt h2 C d with
  | .ref n, some fl => if fl.length < 900 then .nx s (h2.set n (.ins C (putD m y fl))) else .no
  | _, _ => .no
theorem rs_fld (hC : X.mg C = some (.ref c)) (cl : Cls X.K c) (hn : NoAttr X.K c m) (te : RE X W e fe) (to : RE X W o fo) (hs : swapsWith e (some (.Attribute o m pos')) pos.line X.env = pure false := by rfl) : RS X W (.Assign [.Attribute o m pos'] e pos) (gFld C m fe fo) :=
  ⟨fun {s σ H ι h E} r x q => ws_of (ps_fld pe_we pe_we hs) (te.nextS r x q fun y h1 v H1 ι1 s1 r1 x1 rv p1 => to.nextS r1 x1 p1 fun d h2 w H2 ι2 s2 r2 x2 rw p2 => by
    cases q1 : insAt h2 C d with
    | none => cases d <;> (simp only [q1] at p2; exact p2.elim)
    | some fl =>
      obtain ⟨n, a, cc, dx, vs, rfl, rfl, hnn, hh, ec, ea, rf⟩ := insAt_ok x2 rw q1
      simp only [q1] at p2
      by_cases few : fl.length < 900
      · rw [if_pos few] at p2
        obtain rfl := insAt_cls hC ec
        have mem := List.mem_of_getElem? hnn
        have st : Step ι2 ι2 H2 (upd H2 a (.ins cc dx (putF m v vs))) := Step.write mem
        refine ⟨a, cc, dx, vs, rfl, ea, cl, hn, by rw [← rf.len]; omega, ?_⟩
        exact p2 σ _ ι2 st (x2.write hnn ⟨cc, dx, putF m v vs, ec, upd_same, (ReF.put (rv.step s2) rf).step st⟩) (r2.step st)
      · rw [if_neg few] at p2
        exact p2.elim)⟩
/-! ### a new instance -/
def mkD (C : Str) (F : List D → Hh → Oc D) : List D → Hh → Oc D := fun ds h => (F (.ref h.length :: ds) (h ++ [.ins C []])).bind fun d h2 => match d with
  | .non => .ok (.ref h.length) h2
  | _ => .no
theorem run_mkD {pins : List (Addr × Obj)} {σ : L2.St} {H : Hp} {sh : Shared} {Q : VK} {ι : Ix} {h : Hh} {us ws : List Value} {vs zs : List V} {ds es : List D} (hC : X.mg C = some (.ref c)) (M : Mk X.K c f) (t : FnD X.prog X.w X.K X.mg X.base k f ks F) (hr : Room (k + 1) X.A) (hg : X.A.guards = some []) (tk : Takes X W)
    (I : Inv X pins σ H sh) (r1 : Vals vs us) (r2 : Vals zs ws) (x : HX X ι H h) (rd : Res X.K ι H ds vs) (re : Res X.K ι H es zs) (hl : es.length = ks.length) (q : Po X W σ ι H (mkD C F (ds ++ es) h) (fun d ι' H' => ∀ v, ReX X ι' H' d v → Q v H')) :
    wpAny (model X.prog X.w) X.A (call (.ref c) us (ks.zip ws)) (EP X pins σ Q) X.xe sh := by
  have n1 : H sh.heap.objs.size = none := I.hok.fresh (Nat.le_refl _)
  have n2 : H (sh.heap.objs.size + 1) = none := I.hok.fresh (Nat.le_succ _)
  have ne : sh.heap.objs.size + 1 ≠ sh.heap.objs.size := Nat.succ_ne_self _
  have n3 : upd H sh.heap.objs.size (.own (sh.heap.objs.size + 1)) (sh.heap.objs.size + 1) = none := by rw [upd_ne ne]; exact n2
  have st1 : Step ι ι H (upd H sh.heap.objs.size (.own (sh.heap.objs.size + 1))) := Step.new n1
  have st2 : Step ι (ι.add (sh.heap.objs.size + 1)) (upd H sh.heap.objs.size (.own (sh.heap.objs.size + 1))) (upd (upd H sh.heap.objs.size (.own (sh.heap.objs.size + 1))) (sh.heap.objs.size + 1) (.ins c sh.heap.objs.size [])) := Step.place n3
  have st := st1.trans st2
  have ec : (clOf X.prog X.w X.mg).at_ C = some c := by
    show clAt X.mg C = some c
    unfold clAt
    rw [hC]
  have I2 := Inv.made (C := c) I
  have x2 : HX X (ι.add (sh.heap.objs.size + 1)) _ (h ++ [.ins C []]) := (x.new n1).place n3 ⟨c, sh.heap.objs.size, [], ec, upd_same, .nil⟩
  have rn : ReX X (ι.add (sh.heap.objs.size + 1)) (upd (upd H sh.heap.objs.size (.own (sh.heap.objs.size + 1))) (sh.heap.objs.size + 1) (.ins c sh.heap.objs.size [])) (.ref h.length) (.ref (sh.heap.objs.size + 1)) := .ref (by show (ι.pl ++ [sh.heap.objs.size + 1])[h.length]? = _; rw [← x.len]; simp)
  have q2 := Po.step st q
  refine wpAny_call (make_map (f := f) I.kIn M.makes M.init (beq_iff_eq.mp M.fn) (codeAny_mono (t.run (A := X.A.under (.builtin "type.__call__" ⟨.ref c :: us, ks.zip ws⟩)) (us := .ref (sh.heap.objs.size + 1) :: us) (ws := ws) (vs := .ref (sh.heap.objs.size + 1) :: vs) (zs := zs) (ds := .ref h.length :: ds) (es := es)
    (Q := fun v H2 => v = .non ∧ Q (.ref (sh.heap.objs.size + 1)) H2) (E := fun c d H' => W c d σ H') (hr.make c us (ks.zip ws)) (by first | exact hg | simpa [Around.under, Code.isGuard, guardIds] using hg) (I2.env0.make c us (ks.zip ws)) (.cons rfl r1) r2 x2 (.cons rn (rd.step st)) (re.step st) hl (by
      unfold mkD at q2
      rw [List.cons_append]
      cases z : F (.ref h.length :: (ds ++ es)) (h ++ [.ins C []]) with
      | no => rw [z] at q2; exact q2
      | ex y h' => rw [z] at q2; exact q2
      | ok d h' =>
        rw [z] at q2
        cases d with
        | non =>
          intro v H' ι' t x' r'
          cases r'
          exact ⟨rfl, q2 H' ι' t x' _ (rn.step t)⟩
        | _ => exact q2.elim)) fun r s' z => ?_))
  cases r with
  | error e => exact tk e s' (XE.of_call I2 (fun cls d H' h => h) z)
  | ok fl =>
    cases fl with
    | ret u =>
      obtain ⟨v, H', I3, rv, ev, q3⟩ := I2.after z
      subst ev
      exact ⟨rv, ⟨V.ref (sh.heap.objs.size + 1), H', I3, rfl, q3⟩⟩
    | next => exact False.elim z
    | brk => exact False.elim z
    | cont => exact False.elim z
/-- C(e, ..) -/
theorem re_mk (hC : X.mg C = some (.ref c)) (M : Mk X.K c f) (t : FnD X.prog X.w X.K X.mg X.base k f [] F) (hr : Room (k + 1) X.A) (hgd : X.A.guards = some []) (tk : Takes X W) (ta : RA X W (e :: es) fs)
    (hg : Gl X C := by rfl) (hdb : (C == ("__debug__" : Str)) = false := by decide) (he : starEach (e :: es) X.env = (false, eval e X.env) :: starEach es X.env := by rfl) (hpl : (backTo pos (starEach es X.env)).any (·.1) = false := by rfl) :
    RE X W (.Call (.Name C p) (e :: es) [] pos) (fCall (mkD C F) fs) := by
  refine ⟨fun {s σ H ι h Q} r x q pins sh I => ?_⟩
  refine wpAny_Call_Name_kw (ld_glob I hg hC ?_ hdb)
  refine PySem.W.callWith_K (h₀ := X.base) I.ok.mod.kin M.kp (thn (ta.next (R := fun vs H1 => ∃ ι1 h1 ds, Res X.K ι1 H1 ds vs ∧ HX X ι1 H1 h1 ∧ Po X W σ ι1 H1 (mkD C F ds h1) (fun d ι' H' => ∀ v, ReX X ι' H' d v → Q v H')) r x q (fun ds h1 vs H1 ι1 s1 r1 x1 rvs p1 => ⟨ι1, h1, ds, rvs, x1, p1⟩) pos pins sh I) fun us s1 ⟨vs, H1, I1, rv, ι1, h1, ds, rvs, x1, p1⟩ => ⟨I1.kIn, ?_⟩) he hpl
  have := run_mkD (us := us) (ws := []) (zs := []) (es := []) hC M t hr hgd tk I1 rv .nil x1 rvs .nil rfl (by rw [List.append_nil]; exact p1)
  exact this
/-- C(e, .., *y) -/
theorem re_mkS (hC : X.mg C = some (.ref c)) (M : Mk X.K c f) (t : FnD X.prog X.w X.K X.mg X.base k f [] F) (hr : Room (k + 1) X.A) (hgd : X.A.guards = some []) (tk : Takes X W) (ta : RA X W (e :: es) fs)
    (hg : Gl X C := by rfl) (hdb : (C == ("__debug__" : Str)) = false := by decide) (he : starEach (e :: es) X.env = (false, eval e X.env) :: starEach es X.env := by rfl) (hst : (backTo pos (starEach es X.env)).any (·.1) = true := by rfl) :
    RE X W (.Call (.Name C p) (e :: es) [] pos) (fCall (mkD C F) fs) := by
  refine ⟨fun {s σ H ι h Q} r x q pins sh I => ?_⟩
  refine wpAny_Call_Name_kw (ld_glob I hg hC ?_ hdb)
  refine PySem.W.callWith_S2 (h₀ := X.base) I.ok.mod.kin M.kp (thn (ta.next (R := fun vs H1 => ∃ ι1 h1 ds, Res X.K ι1 H1 ds vs ∧ HX X ι1 H1 h1 ∧ Po X W σ ι1 H1 (mkD C F ds h1) (fun d ι' H' => ∀ v, ReX X ι' H' d v → Q v H')) r x q (fun ds h1 vs H1 ι1 s1 r1 x1 rvs p1 => ⟨ι1, h1, ds, rvs, x1, p1⟩) pos pins sh I) fun us s1 ⟨vs, H1, I1, rv, ι1, h1, ds, rvs, x1, p1⟩ => ⟨I1.kIn, ?_⟩) he hst
  have := run_mkD (us := us) (ws := []) (zs := []) (es := []) hC M t hr hgd tk I1 rv .nil x1 rvs .nil rfl (by rw [List.append_nil]; exact p1)
  exact this
/-- v(e, .., *y), v a name that holds the class -/
def fVar (i : Nat) (c : Addr) (fe : FE) : FE := fun s h => match s[i]? with
  | some (some (.fix a)) => if a = c then fe s h else .no
  | _ => .no
theorem re_mkV (i : Nat) (hC : X.mg C = some (.ref c)) (M : Mk X.K c f) (t : FnD X.prog X.w X.K X.mg X.base k f [] F) (hr : Room (k + 1) X.A) (hgd : X.A.guards = some []) (tk : Takes X W) (ta : RA X W (e :: es) fs)
    (hN : X.N[i]? = some y := by rfl) (hv : Vis X.env.scope y := by first | exact Or.inl rfl | exact Or.inr (Or.inl rfl) | exact Or.inr (Or.inr rfl)) (hdb : (y == ("__debug__" : Str)) = false := by decide) (hcd : (y == ("__classdict__" : Str)) = false := by decide)
    (he : starEach (e :: es) X.env = (false, eval e X.env) :: starEach es X.env := by rfl) (hst : (backTo pos (starEach es X.env)).any (·.1) = true := by rfl) :
    RE X W (.Call (.Name y p) (e :: es) [] pos) (fVar i c (fCall (mkD C F) fs)) := by
  refine ⟨fun {s σ H ι h Q} r x q pins sh I => ?_⟩
  unfold fVar at q
  cases z : s[i]? with
  | none => rw [z] at q; exact q.elim
  | some od =>
    cases od with
    | none => rw [z] at q; exact q.elim
    | some d =>
      cases d with
      | fix a =>
        rw [z] at q
        dsimp only at q
        by_cases ea : a = c
        · rw [if_pos ea] at q
          subst ea
          obtain ⟨v, e1, e2⟩ := r.at_ i _ z
          cases e2
          refine wpAny_Call_Name_kw (thn ((pe_var hN hv hdb hcd).run pins sh σ H (fun v' H' => v' = .ref a ∧ H' = H) I ⟨_, e1, rfl, rfl⟩) fun u s1 ⟨v', H', I', ru, ev, eH⟩ => ?_)
          subst ev eH
          obtain rfl : u = Value.ref a := ru
          refine PySem.W.callWith_S2 (h₀ := X.base) I'.ok.mod.kin M.kp (thn (ta.next (R := fun vs H1 => ∃ ι1 h1 ds, Res X.K ι1 H1 ds vs ∧ HX X ι1 H1 h1 ∧ Po X W σ ι1 H1 (mkD C F ds h1) (fun d ι' H' => ∀ v, ReX X ι' H' d v → Q v H')) r x q (fun ds h1 vs H1 ι1 s1 r1 x1 rvs p1 => ⟨ι1, h1, ds, rvs, x1, p1⟩) pos pins s1 I') fun us s1 ⟨vs, H1, I1, rv, ι1, h1, ds, rvs, x1, p1⟩ => ⟨I1.kIn, ?_⟩) he hst
          have := run_mkD (us := us) (ws := []) (zs := []) (es := []) hC M t hr hgd tk I1 rv .nil x1 rvs .nil rfl (by rw [List.append_nil]; exact p1)
          exact this
        · rw [if_neg ea] at q
          exact q.elim
      | _ => rw [z] at q; exact q.elim
/-! ### a class's method -/
theorem run_Dc {pins : List (Addr × Obj)} {σ : L2.St} {H : Hp} {sh : Shared} {Q : VK} {ι : Ix} {h : Hh} {us ws : List Value} {vs zs : List V} {ds es : List D} (t : FnD X.prog X.w X.K X.mg X.base k f ks F) (hr : Room k X.A) (hg : X.A.guards = some []) (tk : Takes X W)
    (I : Inv X pins σ H sh) (r1 : Vals vs us) (r2 : Vals zs ws) (x : HX X ι H h) (rd : Res X.K ι H ds vs) (re : Res X.K ι H es zs) (hl : es.length = ks.length) (q : Po X W σ ι H (F (ds ++ es) h) (fun d ι' H' => ∀ v, ReX X ι' H' d v → Q v H')) :
    codeAny (model X.prog X.w) X.A (.call (.ref f) ⟨us, ks.zip ws⟩) (fun r s' => match r with | .ok (.ret v) => EP X pins σ Q v s' | .ok _ => False | .error e => X.xe e s') sh := by
  refine codeAny_mono (t.run (Q := Q) (E := fun c d H' => W c d σ H') hr hg I.env0 r1 r2 x rd re hl (by
    cases z : F (ds ++ es) h with
    | ok d h' => rw [z] at q; exact fun v H' ι' t x' r' => q H' ι' t x' v r'
    | ex y h' => rw [z] at q; exact q
    | no => rw [z] at q; exact q)) fun r s' z => ?_
  cases r with
  | error e => exact tk e s' (XE.of_call I (fun cls d H' h => h) z)
  | ok fl =>
    cases fl with
    | ret u => exact I.after z
    | next => exact False.elim z
    | brk => exact False.elim z
    | cont => exact False.elim z
/-- C.m(e, ..) -/
theorem re_cmeth {mc : Value} {p2 : Pos} {q : Addr} {pl : Sem Bool} (hC : X.mg C = some (.ref c)) (r0 : CRead X.K c mc) (cm : CMet X.K c mc m q g) (t : FnD X.prog X.w X.K X.mg X.base k g [] F) (hr : Room k X.A) (hgd : X.A.guards = some []) (tk : Takes X W) (ta : RA X W (e :: es) fs)
    (hg : Gl X C := by rfl) (hdb : (C == ("__debug__" : Str)) = false := by decide)
    (hst : starEach (e :: es) X.env = (false, eval e X.env) :: starEach es X.env := by rfl) (hpl : (backTo pos (starEach es X.env)).any (·.1) = false := by rfl)
    (ht : eval (.Call (.Attribute (.Name C p2) m apos) (e :: es) [] pos) X.env = (do
      let ov ← eval (.Name C p2) X.env
      standAt apos.atName
      let (f, first) ← holding [ov] (getMethod ov m pl)
      callWith pos f first (backTo pos (starEach (e :: es) X.env)) (backToKw pos (keywordEach [] X.env))) := by rfl) :
    RE X W (.Call (.Attribute (.Name C p2) m apos) (e :: es) [] pos) (fCall (fun ds => F (.fix c :: ds)) fs) := by
  refine ⟨fun {s σ H ι h Q} r x qq pins sh I => ?_⟩
  refine PySem.W.methodCall_KW (pl := pl) (ld_glob I hg hC ?_ hdb) ht
  refine getmethcm_ok I r0 cm fun s2 I2 => ?_
  refine callwith_cm I2 (base_none I (Nat.le_refl _)) cm.fi (thn (ta.next (R := fun vs H1 => ∃ ι1 h1 ds, Res X.K ι1 H1 ds vs ∧ HX X ι1 H1 h1 ∧ Po X W σ ι1 H1 (F (.fix c :: ds) h1) (fun d ι' H' => ∀ v, ReX X ι' H' d v → Q v H')) r x qq (fun ds h1 vs H1 ι1 s1 r1 x1 rvs p1 => ⟨ι1, h1, ds, rvs, x1, p1⟩) pos _ s2 I2) fun us s3 ⟨vs, H1, I3, rv, ι1, h1, ds, rvs, x1, p1⟩ => ⟨⟨pin_at I3, I3.kIn⟩, ?_⟩) hst hpl
  have z : wpAny (model X.prog X.w) X.A (call (.ref sh.heap.objs.size) us) (EP X ((sh.heap.objs.size, PySem.W.methodObj (.ref g) (.ref c)) :: pins) σ Q) X.xe s3 := by
   refine wpAny_call (PySem.W.method_call (pin_at I3) ?_)
   have := run_Dc (us := .ref c :: us) (ws := []) (vs := .ref c :: vs) (zs := []) (ds := .fix c :: ds) (es := []) t hr hgd tk I3 (.cons rfl rv) .nil x1 (.cons (.fix c) rvs) .nil rfl (by rw [List.append_nil]; exact p1)
   exact this
  exact thn z fun _ _ y => unpinE y
/-! ### methods, with keywords -/
def fMethK (C m : Str) (n : Nat) (F : List D → Hh → Oc D) (fo : FE) (fs fk : FA) : FE := fun s h => (fo s h).bind fun d h1 => match insAt h1 C d with
  | none => .no
  | some fl => if (fl.lookup m).isSome then .no else (fs s h1).bind fun ds h2 => (fk s h2).bind fun es h3 => if es.length = n then F (d :: (ds ++ es)) h3 else .no
theorem re_methK0 {pl : Sem Bool} (hC : X.mg C = some (.ref c)) (cl : Cls X.K c) (hm : Meth X.K c m f) (t : FnD X.prog X.w X.K X.mg X.base k f ks F) (hr : Room k X.A) (hgd : X.A.guards = some []) (tk : Takes X W) (to : RE X W o fo) (tkw : RK X W kws fk)
    (hall : (backToKw pos (keywordEach kws X.env)).all (·.1.isSome) = true := by rfl) (hks : (backToKw pos (keywordEach kws X.env)).filterMap (·.1) = ks := by rfl)
    (hpl : ((backTo pos (starEach [] X.env)).any (·.1) || (backToKw pos (keywordEach kws X.env)).any (·.1.isNone)) = false := by rfl)
    (ht : eval (.Call (.Attribute o m apos) [] kws pos) X.env = (do
      let ov ← eval o X.env
      standAt apos.atName
      let (f, first) ← holding [ov] (getMethod ov m pl)
      callWith pos f first (backTo pos (starEach [] X.env)) (backToKw pos (keywordEach kws X.env))) := by rfl) :
    RE X W (.Call (.Attribute o m apos) [] kws pos) (fMethK C m ks.length F fo fN fk) := by
  refine ⟨fun {s σ H ι h Q} r x q pins sh I => ?_⟩
  refine PySem.W.methodCall_KW (pl := pl) (thn (to.next (R := fun v H1 => ∃ ι1 h1 d, SR X.K ι1 H1 s σ ∧ HX X ι1 H1 h1 ∧ ReX X ι1 H1 d v ∧ Po X W σ ι1 H1 (match insAt h1 C d with
    | none => .no
    | some fl => if (fl.lookup m).isSome then .no else (fk s h1).bind fun es h3 => if es.length = ks.length then F (d :: ([] ++ es)) h3 else .no) (fun d ι' H' => ∀ v, ReX X ι' H' d v → Q v H')) r x q (fun d h1 v H1 ι1 s1 r1 x1 rv p1 => ⟨ι1, h1, d, r1, x1, rv, p1⟩) pins sh I) fun u s1 ⟨v, H1, I1, rx, ι1, h1, d, r1, x1, rv, p1⟩ => ?_) ht
  cases q1 : insAt h1 C d with
  | none => simp only [q1] at p1; exact p1.elim
  | some fl =>
    simp only [q1] at p1
    cases q2 : (fl.lookup m).isSome with
    | true => simp only [q2, if_true] at p1; exact p1.elim
    | false =>
      simp only [q2, Bool.false_eq_true, if_false] at p1
      obtain ⟨n, a, cc, dx, vs, rfl, rfl, hn, hh, ec, ea, rf⟩ := insAt_ok x1 rv q1
      obtain rfl : u = Value.ref a := rx
      obtain rfl := insAt_cls hC ec
      refine getmeth_ok I1 ea cl hm (look_none rf (by simpa using q2)) ?_
      refine PySem.W.callWith_KW0 (first := [.ref a]) (h₀ := X.base) I.ok.mod.kin hm.kp hall ?_ hpl
      refine thn (tkw.next (R := fun zs H2 => ∃ ι2 h2 es, ReX X ι2 H2 (.ref n) (.ref a) ∧ Res X.K ι2 H2 es zs ∧ HX X ι2 H2 h2 ∧ Po X W σ ι2 H2 (if es.length = ks.length then F (.ref n :: ([] ++ es)) h2 else .no) (fun d ι' H' => ∀ v, ReX X ι' H' d v → Q v H')) r1 x1 p1 (fun es h2 zs H2 ι2 s2 r2 x2 rzs p2 => ⟨ι2, h2, es, rv.step s2, rzs, x2, p2⟩) pos pins s1 I1) fun ws s2 ⟨zs, H2, I2, rz, ι2, h2, es, rn, re, x2, p2⟩ => ⟨I2.kIn, ?_⟩
      by_cases hl : es.length = ks.length
      · rw [if_pos hl] at p2
        rw [hks]
        have := run_D (us := [.ref a]) (vs := [.ref a]) (ds := [.ref n]) (ws := ws) t hr hgd tk I2 (.cons rfl .nil) rz x2 (.cons rn .nil) re hl p2
        exact this
      · rw [if_neg hl] at p2
        exact p2.elim
end
end Lg
set_option Elab.async false
set_option linter.all false
set_option maxRecDepth 100000
set_option maxHeartbeats 2000000
set_option pp.maxSteps 300
namespace Lg
open PySem PySem.Spec PyProof.Rows L2
/-! ### {k: v for .. in ..} -/
def dE (b : Bool) : HO := if b then .dT [] else .dK []
theorem dE_ok {P : Program} {w : World} {H : Hp} (b : Bool) (h : Heap) (big : sysModules < h.objs.size) : ObjOk P w (upd H h.objs.size (dE b)) (h.push { cls := .type "dict", data := .dict #[] }) h.objs.size (dE b) := by
  cases b with
  | true => exact dt_empty h big
  | false => exact dk_empty h big
section
variable {X : Cx}
/-- an entry is put into a dict by a comprehension -/
theorem put_by {pins : List (Addr × Obj)} {σ : L2.St} {H H' : Hp} {s : Shared} {E : Value → Shared → Prop} {D : Addr} {y v : V} {u r : Value} {Q : Unit → Shared → Prop} (hu : X.A.units < cLine) (I : Inv X pins σ H s) (g : DPut H D y v H') (ry : RelV y u) (rv : RelV v r)
    (h : ∀ s', Inv X pins σ H' s' → Q () s') : wpAny (model X.prog X.w) X.A (dictSet D u r) Q E s := by
  rcases g with ⟨kvs, k, e, rfl, l, rfl⟩ | ⟨kvs, k, b, e, rfl, eb, l, rfl⟩
  · exact d_dictSet I e l ry rv h
  · obtain rfl : u = Value.ref b := ry
    obtain ⟨z, hd, xs, rel, dd⟩ := dt_of I.hok e
    have big : xs.length ≤ sizeLine := rel.length ▸ z
    refine wpAny_dictSet_heap (hsz := big) (knd := tupleKind (mixKind X.prog X.w)) hu (key_of I.hok eb) dd fun h' ⟨q, es, ep, hq, h2, h3, h4, _, h5⟩ hs => h _ ?_
    have sz : (putK kvs k v).length ≤ sizeLine := Nat.le_trans (length_putK kvs k v) l
    have laid : KT (upd H D (.dT (putK kvs k v))) (putK kvs k v) _ := (rel.put k eb rv).keeps fun c ys ec => by
      rw [upd_ne (ne_of ec e (fun z => nomatch z))]
      exact ec
    exact d_write I (by rw [e]; trivial) hs ⟨q, hq⟩ ⟨sz, hd, _, laid, q, es, ep, hq, h2, h3, h4, h5⟩
/-- {k: v for target in iter if ..}, keys of any kind that a dict here may have -/
def tDG (b0 : Bool) (wi : TI) (g : TG) (tt : TT) (tk tv : TE) (own : List Nat) : TE := fun σ H Q => wi σ H fun J H1 => ∀ D, H1 D = none → ∃ W : Nat → Nat → Hp → Prop, (∃ m, W 0 m (upd H1 D (dE b0))) ∧ ∀ i m G, W i m G →
  (J.stop i G ∧ Q (.ref D) G) ∨ (J.go i G ∧ ∃ Nx : Hp → Prop, (∀ G', Nx G' → ∃ m', m' < m ∧ W (i + 1) m' G') ∧ ∀ x G', J.yld i G x G' → g x (wipe σ own) G' fun σ2 H2 => wipe σ2 own = wipe σ own ∧ tt σ2 H2 fun b H3 =>
    if b = true then tk σ2 H3 fun y H4 => tv σ2 H4 fun z H5 => ∃ H6, DPut H5 D y z H6 ∧ Nx H6 else Nx H3)
theorem pe_dg (b0 : Bool) {kx vx tg iter : Expr} {ifs : List Expr} {scope : Scope} {own : List (Str × Nat)} {pos : Pos} {wi : TI} {g : TG} {tt : TT} {tk tv : TE} (hu : X.A.units < cLine) (calm : X.calm = true) (hN : X.N.Nodup) (hi : PI X tg iter wi) (ok : BlkOk X.N X.env.scope scope own)
    (hg : ∀ (s : Shared) (H : Hp) (C : Addr) (cl : List (Str × Addr)) (fp : List Addr), PG (X.blk s H scope (compEnvC scope cl C X.env) fp) tg g) (ht : ∀ (s : Shared) (H : Hp) (C : Addr) (cl : List (Str × Addr)) (fp : List Addr), PTs (X.blk s H scope (compEnvC scope cl C X.env) fp) ifs tt)
    (hk : ∀ (s : Shared) (H : Hp) (C : Addr) (cl : List (Str × Addr)) (fp : List Addr), PE (X.blk s H scope (compEnvC scope cl C X.env) fp) kx tk) (hv : ∀ (s : Shared) (H : Hp) (C : Addr) (cl : List (Str × Addr)) (fp : List Addr), PE (X.blk s H scope (compEnvC scope cl C X.env) fp) vx tv)
    (hs : ∀ x, foldedSetIterable iter X.env x = pure x := by intro _; rfl) : PE X (.DictComp kx vx [⟨tg, iter, ifs, 0⟩] scope pos) (tDG b0 wi g tt tk tv (own.map (·.2))) := by
  refine ⟨fun pins s σ H Q I h => ?_⟩
  rw [arm_eval_DictComp]
  have cells : ∀ y ∈ scope.names, y.2 = .free → ∃ c, X.env.cells.lookup y.1 = some c := fun y hy e => (ok.free y hy e).elim (fun k => I.ok.has _ (.inl k)) fun k => I.ok.has _ (.inr k)
  refine wpAny_comprehension_free (use := none) rfl hs (closure_ok cells) ok.kind (fun y hy e => (ok.uniq y hy).trans (congrArg some e)) (thn (hi.run pins s σ H _ I h) fun xv s1 hx => thn hx fun itv s2 ⟨it, fp, tn, J, H2, e, I2, T, st2, f2, q⟩ => ?_)
  subst e
  refine wpAny_newObj_type (newEnv_comp ?_)
  have nD : H2 s2.heap.objs.size = none := I2.hok.fresh (Nat.le_refl _)
  obtain ⟨W, ⟨m0, w0⟩, turn⟩ := q _ nD
  generalize e3 : ({ s2 with heap := s2.heap.push { cls := .type "dict", data := .dict #[] } } : Shared) = s3
  have h3 : s3.heap = s2.heap.push { cls := .type "dict", data := .dict #[] } := e3 ▸ rfl
  have old3 : ∀ b o, s2.heap.get? b = some o → s3.heap.get? b = some o := fun b o z => h3 ▸ Heap.get?_push_of_some _ z
  have I3 : Inv X pins σ (upd H2 s2.heap.objs.size (dE b0)) s3 := e3 ▸ I2.laid (t' := s2.toks) (fun b o z => Heap.get?_push_of_some _ z) (Nat.le_refl _) (dE_ok b0 s2.heap I2.big)
  have low : ∀ b ∈ fp, b < s2.heap.objs.size := fun b hb => let ⟨_, z, _⟩ := T.obj _ _ st2 b hb; Heap.lt_size z
  have f3 : ∀ b ∈ fp, FpOk X pins (upd H2 s2.heap.objs.size (dE b0)) b ∧ b < s3.heap.objs.size := fun b hb =>
    ⟨⟨(upd_ne (Nat.ne_of_lt (low b hb))).trans (f2 b hb).1, (f2 b hb).2⟩, by rw [h3, Heap.size_push]; exact Nat.lt_succ_of_lt (low b hb)⟩
  have st3 : tn 0 s3.heap := T.keep _ _ _ st2 fun b _ => old3 b
  have I4 := block_start I3 ok hN f3
  generalize eC : cellsFrom (s3.heap.objs.size + 1) scope.names (cloFrom X.env.cells scope.names []) = cl at I4
  have pg := hg s3 (upd H2 s2.heap.objs.size (dE b0)) s3.heap.objs.size cl fp
  have pt := ht s3 (upd H2 s2.heap.objs.size (dE b0)) s3.heap.objs.size cl fp
  have pk := hk s3 (upd H2 s2.heap.objs.size (dE b0)) s3.heap.objs.size cl fp
  have pw := hv s3 (upd H2 s2.heap.objs.size (dE b0)) s3.heap.objs.size cl fp
  subst eC
  generalize eD : s2.heap.objs.size = D at *
  show codeAny _ _ (.compStart (.DictComp kx vx [⟨tg, iter, ifs, 0⟩] scope pos) 0 (.ref it) (.ref D) (compEnvC scope (cellsFrom (s3.heap.objs.size + 1) scope.names (cloFrom X.env.cells scope.names [])) s3.heap.objs.size X.env)) _ { s3 with heap := pushCells (s3.heap.push { cls := .type "dict", data := .dict #[] }) scope.names }
  generalize ec : compEnvC scope (cellsFrom (s3.heap.objs.size + 1) scope.names (cloFrom X.env.cells scope.names [])) s3.heap.objs.size X.env = ce at I4 pg pt pk pw ⊢
  have cL : ce.locals = s3.heap.objs.size := ec ▸ rfl
  generalize eH : upd H2 D (dE b0) = H3 at I3 I4 pg pt pk pw w0 f3
  generalize e4 : ({ s3 with heap := pushCells (s3.heap.push { cls := .type "dict", data := .dict #[] }) scope.names } : Shared) = s4 at I4 ⊢
  have st4 : tn 0 s4.heap := T.keep _ _ _ st3 fun b _ o z => e4 ▸ pushCells_keeps _ _ _ _ (Heap.get?_push_of_some _ z)
  have spots : ∀ {σ' : L2.St} {H' : Hp} {s' : Shared}, Inv (X.blk s3 H3 scope ce fp) [] σ' H' s' → (∀ b ∈ fp, H' b = none) → ∀ b ∈ fp, FpOk (X.blk s3 H3 scope ce fp) [] H' b := fun I' hn b hb =>
    ⟨hn b hb, (I'.ok.exf b hb).1, I'.ok.exfs b hb, .inl hb, fun x c e => (I'.ok.exf b hb).2 x c e, fun p hp => absurd (show p ∈ ([] : List (Addr × Obj)) ++ [] from hp) (by simp)⟩
  refine codeAny_compStart_dict ?loop (T.self X.A 0 _ _ _ st4 ?loop)
  refine compLoop_anyD (fun n s' => ∃ i H', Inv (X.blk s3 H3 scope ce fp) [] (wipe σ (own.map (·.2))) H' s' ∧ tn i s'.heap ∧ (∀ b ∈ fp, H' b = none) ∧ W i n H') ?_ m0 ⟨0, H3, I4, st4, fun b hb => (f3 b hb).1.1, w0⟩
  rintro n s5 ⟨i, H5, I5, st5, n5, w5⟩
  rcases turn i n H5 w5 with ⟨stop, qq⟩ | ⟨go, Nx, hNx, step⟩
  · refine thnF (T.done (X.blk s3 H3 scope ce fp) rfl rfl rfl calm i [] s5 _ H5 (fun _ _ => False) I5 (spots I5 n5) st5 stop) fun r s6 ⟨hr, I6⟩ => ?_
    subst hr
    have I7 : Inv X pins σ H5 s6 := I3.call' (ch := fp) I6.os I6.base I6.hok I6.bare fun b hb => let z := (f3 b hb).1.2; ⟨z.2.2.1, z.1, z.2.2.2.1, z.2.2.2.2⟩
    have nC : H5 s3.heap.objs.size = none := cL ▸ I6.free
    obtain ⟨m, hn, _⟩ := I6.loc
    have hn : s6.heap.Ns ce.locals m := hn
    rw [cL] at hn
    obtain ⟨k0, k1, k2, k3, k4, k5⟩ := I3.fpOk (Nat.le_refl _) nC
    exact ⟨m, hn, fun h'' sb => ⟨.ref D, H5, I7.turned (t' := s6.toks) (fun b o hb z => (sb.2 b hb).trans z) k0 k1 k3 k4 k5, rfl, qq⟩⟩
  · refine thnF (T.item (X.blk s3 H3 scope ce fp) rfl rfl rfl calm i [] s5 _ H5 (fun _ _ => False) I5 (spots I5 n5) st5 go) fun r s6 ⟨u, hr, h6⟩ => ?_
    subst hr
    refine thnF h6 fun _ s7 ⟨x, H7, I7, r7, y7, st7, n7⟩ => ?_
    refine thnF (pg.run _ s7 _ H7 x u _ (I7.pinned (spots I7 n7) (T.obj _ _ st7)) r7 (step x H7 y7)) fun _ s8 ⟨σ8, H8, I8, same, q8⟩ => ?_
    refine thnF (pt.run _ s8 σ8 H8 _ I8 q8) fun b s9 ⟨H9, I9, q9⟩ => ?_
    have back : ∀ {s' : Shared} {H' : Hp}, Inv (X.blk s3 H3 scope ce fp) ([] ++ pinsAt fp s7.heap) σ8 H' s' → Nx H' → ∃ m, m < n ∧ ∃ i H', Inv (X.blk s3 H3 scope ce fp) [] (wipe σ (own.map (·.2))) H' s' ∧ tn i s'.heap ∧ (∀ b ∈ fp, H' b = none) ∧ W i m H' := by
      intro s' H' I' nx
      obtain ⟨m', hm, w'⟩ := hNx H' nx
      have pin : ∀ b ∈ fp, ∀ o, s7.heap.get? b = some o → s'.heap.get? b = some o ∧ H' b = none := fun b hb o z =>
        let p := I'.pin (b, o) (List.mem_append_right _ (List.mem_append_right _ (mem_pinsAt hb z)))
        ⟨p.1, p.2.1⟩
      have len : (wipe σ (own.map (·.2))).length = σ8.length := (congrArg List.length same).symm.trans (wipe_length _ _)
      refine ⟨m', hm, i + 1, H', (I'.unpinned (pins := [])).weak len (fun j v z => (wipe_some (same ▸ z)).1), T.keep _ _ _ st7 fun b hb o z => (pin b hb o z).1, fun b hb => ?_, w'⟩
      obtain ⟨o, z, _⟩ := T.obj _ _ st7 b hb
      exact (pin b hb o z).2
    cases b with
    | false => exact back I9 (by simpa using q9)
    | true =>
      have q9 : tk σ8 H9 fun y H4 => tv σ8 H4 fun z H5 => ∃ H6, DPut H5 D y z H6 ∧ Nx H6 := by simpa using q9
      exact thnF (pk.run _ s9 σ8 H9 _ I9 q9) fun z s10 ⟨yk, H10, I10, r10, q10⟩ => thnF (pw.run _ s10 σ8 H10 _ I10 q10) fun z2 s11 ⟨yv, H11, I11, r11, H12, put, nx⟩ => put_by (X := X.blk s3 H3 scope ce fp) hu I11 put r10 r11 fun s12 I12 => back I12 nx
end
/-- the dict at D tells acc -/
def DicAt (X : Cx) (ι : Ix) (H : Hp) (D : Addr) : Bool → List (Lg.D × Lg.D) → Prop
  | false, acc => ∃ kvs, H D = some (.dK kvs) ∧ ReK X.K ι H acc kvs
  | true, acc => ∃ kvs, H D = some (.dT kvs) ∧ ReT X.K ι H acc kvs
theorem DicAt.there {X : Cx} {ι : Ix} {H : Hp} {D : Addr} : ∀ {t : Bool} {acc : List (Lg.D × Lg.D)}, DicAt X ι H D t acc → ∃ u, H D = some u
  | false, _, ⟨_, e, _⟩ => ⟨_, e⟩
  | true, _, ⟨_, e, _⟩ => ⟨_, e⟩
theorem DicAt.step {X : Cx} {ι ι' : Ix} {H H' : Hp} {D : Addr} (n : D ∉ ι.pl) (s : Step ι ι' H H') : ∀ {t : Bool} {acc : List (Lg.D × Lg.D)}, DicAt X ι H D t acc → DicAt X ι' H' D t acc
  | false, _, ⟨kvs, e, r⟩ => ⟨kvs, s.st _ _ e n, r.step s⟩
  | true, _, ⟨kvs, e, r⟩ => ⟨kvs, s.st _ _ e n, r.step s⟩
theorem DicAt.put {X : Cx} {ι : Ix} {H : Hp} {D : Addr} {ke ve : Lg.D} {y z : V} (m : D ∈ ι.rs) (ry : ReX X ι H ke y) (rz : ReX X ι H ve z) : ∀ {t : Bool} {acc : List (Lg.D × Lg.D)}, DicAt X ι H D t acc → keyOk t ke = true → line acc.length = true → ∃ u, DPut H D y z (upd H D u) ∧ DicAt X ι (upd H D u) D t (put acc ke ve)
  | false, acc, ⟨kvs, e, r⟩, ok, ln => by
    obtain ⟨key, ek⟩ := Option.isSome_iff_exists.mp (show (keyD ke).isSome = true from ok)
    have ey := keyD_V ek ry
    subst ey
    exact ⟨_, DPut.k e (by rw [← ReK.len r]; exact line_ok ln), _, upd_same, (put_K r ek rz).conv (hid_c m) fun _ _ e => e⟩
  | true, acc, ⟨kvs, e, r⟩, ok, ln => by
    cases ke with
    | tup ks =>
      obtain ⟨key, ek⟩ := Option.isSome_iff_exists.mp (show (keysD ks).isSome = true from ok)
      cases ry with
      | tup t1 tn t2 =>
        rw [keysD_V ek t2] at t1
        exact ⟨_, DPut.t e t1 (by rw [← ReT.len r]; exact line_ok ln), _, upd_same, (put_T r ek rz).conv (hid_c m) fun _ _ e => e⟩
    | _ => exact absurd ok Bool.false_ne_true
def dcLoop (t : Bool) (wk : Wk) (fg : FG) (ft : FT) (fk fv : FE) (s0 : S) : Nat → Nat → List (D × D) → Hh → Oc (List (D × D))
  | 0, _, acc, h => if wk.fin h then .ok acc h else .no
  | n + 1, i, acc, h => match wk.at_ h i with
    | none => .no
    | some d => (fg d s0 h).bindN fun s1 h1 => (ft s1 h1).bindN fun b h2 => if b then (fk s1 h2).bindN fun k h3 => (fv s1 h3).bindN fun v h4 => if keyOk t k && line acc.length then dcLoop t wk fg ft fk fv s0 n (i + 1) (put acc k v) h4 else .no else dcLoop t wk fg ft fk fv s0 n (i + 1) acc h2
def fDcL (t : Bool) (fi : FI) (fg : FG) (ft : FT) (fk fv : FE) (own : List Nat) : S → Hh → Oc (List (D × D)) := fun s h => (fi s h).bind fun wk h1 => dcLoop t wk fg ft fk fv (wipeD s own) wk.n 0 [] h1
def fDc (t : Bool) (fi : FI) (fg : FG) (ft : FT) (fk fv : FE) (own : List Nat) : FE := fun s h => (fDcL t fi fg ft fk fv own s h).bind fun l h1 => .ok (.dic t l) h1
section
variable {X : Cx} {W : WX} {e a b tg iter kx vx : Expr} {ifs : List Expr} {fk fv : FE} {ft : FT} {fi : FI} {fg : FG} {pos : Pos} {own : List (Str × Nat)} {scope : Scope}
structure DcI (X : Cx) (ι1 : Ix) (H1 : Hp) (D : Addr) (t : Bool) (s0 : S) (σ0 : L2.St) (acc : List (Lg.D × Lg.D)) (ι : Ix) (H : Hp) (h : Hh) : Prop where
  st : Step ι1 (ι.bare D) H1 H
  m : D ∈ ι.rs
  x : HX X ι H h
  r : SR X.K ι H s0 σ0
  l : DicAt X ι H D t acc
theorem dc_rd (t : Bool) {s : S} {σ : L2.St} {H : Hp} {Q : VK} (P : Ix → Hp → Oc (List (Lg.D × Lg.D)) → Prop) (pno : ∀ ι H, ¬ P ι H .no)
    (start : ∀ R : It → Hp → Prop, (∀ wk h1 J H1 ι1, SR X.K ι1 H1 s σ → HX X ι1 H1 h1 → WkJ X wk ι1 H1 J → P ι1 H1 (dcLoop t wk fg ft fk fv (wipeD s (own.map (·.2))) wk.n 0 [] h1) → R J H1) → Wi X tg iter σ H R) (Bk : Blk X scope tg kx ifs fg ft fk (own.map (·.2))) (Bv : Blk X scope tg vx ifs fg ft fv (own.map (·.2)))
    (fin : ∀ acc h' ι1 H1 D ι' H', SR X.K ι1 H1 s σ → H1 D = none → DcI X ι1 H1 D t (wipeD s (own.map (·.2))) (wipe σ (own.map (·.2))) acc ι' H' h' → P ι1 H1 (.ok acc h') → Q (.ref D) H') :
    tDG t (Wi X tg iter) (Bg X scope tg) (Bt X scope ifs) (Be X scope kx) (Be X scope vx) (own.map (·.2)) σ H Q := by
  refine start _ fun wk h1 J H1 ι1 r1 x1 j p1 => fun D nD => ?_
  have x0 : HX X (ι1.hide D) (upd H1 D (dE t)) h1 := x1.hide nD
  have st0 : Step ι1 (ι1.hide D) H1 (upd H1 D (dE t)) := Step.hide nD
  have bst : ∀ {ι' : Ix} {H' : Hp}, Step ι1 ι' H1 H' → Step ι1 (ι'.bare D) H1 H' := fun {ι' H'} t =>
    ⟨t.st, t.th, t.ex, fun a ha => List.mem_filter.mpr ⟨t.sub a ha, decide_eq_true fun e => by
      obtain ⟨_, o, z⟩ := x1.rs a ha
      rw [e, nD] at z
      cases z⟩, fun a ha => t.nrs a (List.mem_filter.mp ha).1⟩
  have l0 : DicAt X (ι1.hide D) (upd H1 D (dE t)) D t [] := by
    cases t with
    | true => exact ⟨[], upd_same, .nil⟩
    | false => exact ⟨[], upd_same, .nil⟩
  refine ⟨fun i m H' => ∃ acc h' ι', m = wk.n - i ∧ i ≤ wk.n ∧ Step ι1 ι' H1 H' ∧ DcI X ι1 H1 D t (wipeD s (own.map (·.2))) (wipe σ (own.map (·.2))) acc ι' H' h' ∧ P ι1 H1 (dcLoop t wk fg ft fk fv (wipeD s (own.map (·.2))) (wk.n - i) i acc h'), ⟨wk.n, [], h1, ι1.hide D, rfl, Nat.zero_le _, st0, ⟨bst st0, List.mem_cons_self, x0, (r1.wipe _).step st0, l0⟩, p1⟩, ?_⟩
  rintro i m H' ⟨acc, h', ι', rfl, hi, tt', L, pp⟩
  by_cases hlt : i < wk.n
  · obtain ⟨n, hn⟩ : ∃ n, wk.n - i = n + 1 := ⟨wk.n - i - 1, by omega⟩
    rw [hn] at pp
    unfold dcLoop at pp
    cases q : wk.at_ h' i with
    | none => simp only [q] at pp; exact (pno _ _ pp).elim
    | some d =>
      simp only [q] at pp
      obtain ⟨g1, g2⟩ := j.go ι' H' h' i d tt' L.x q
      let Nx : Hp → Prop := fun H' => ∃ acc h' ι', Step ι1 ι' H1 H' ∧ DcI X ι1 H1 D t (wipeD s (own.map (·.2))) (wipe σ (own.map (·.2))) acc ι' H' h' ∧ P ι1 H1 (dcLoop t wk fg ft fk fv (wipeD s (own.map (·.2))) n (i + 1) acc h')
      refine .inr ⟨g1, Nx, fun H2 ⟨acc2, h2, ι2, z1, z2, z3⟩ => ⟨wk.n - (i + 1), by omega, acc2, h2, ι2, rfl, hlt, z1, z2, by rw [show wk.n - (i + 1) = n by omega]; exact z3⟩, fun y H3 hy => ?_⟩
      obtain ⟨t3, x3, r3⟩ := g2 y H3 hy
      have nD' : D ∉ ι'.pl := (L.x.rs D L.m).1
      intro b0 bH bC bcl bfp
      refine (Bk.g b0 bH bC bcl bfp).run (s := wipeD s (own.map (·.2))) (L.r.step t3) x3 r3 ?_
      cases q2 : fg d (wipeD s (own.map (·.2))) h' with
      | no => rw [q2] at pp; exact (pno _ _ pp).elim
      | ex z h4 => rw [q2] at pp; exact (pno _ _ pp).elim
      | ok s4 h4 =>
        rw [q2] at pp
        intro H4 ι4 t4 x4 σ4 r4 w4
        have w4' : wipe σ4 (own.map (·.2)) = wipe σ (own.map (·.2)) := w4.trans wipe_wipe
        refine ⟨w4', ?_⟩
        have t14 : Step ι1 ι4 H1 H4 := (tt'.trans t3).trans t4
        intro b1 bH1 bC1 bcl1 bfp1 pins1 sh1 I1
        refine (Bk.t b1 bH1 bC1 bcl1 bfp1).run r4 x4 ?_ pins1 sh1 I1
        cases q3 : ft s4 h4 with
        | no => simp only [Oc.bindN_ok, q3] at pp; exact (pno _ _ pp).elim
        | ex z h5 => simp only [Oc.bindN_ok, q3] at pp; exact (pno _ _ pp).elim
        | ok bb h5 =>
          simp only [Oc.bindN_ok, q3] at pp
          intro H5 ι5 t5 x5
          have t15 := t14.trans t5
          have t'5 : Step ι' ι5 H' H5 := (t3.trans t4).trans t5
          have m5 : D ∈ ι5.rs := t'5.sub D L.m
          have r05 : SR X.K ι5 H5 (wipeD s (own.map (·.2))) (wipe σ (own.map (·.2))) := L.r.step t'5
          cases bb with
          | false =>
            refine iteF ⟨acc, h5, ι5, t15, ⟨bst t15, m5, x5, r05, L.l.step nD' t'5⟩, pp⟩
          | true =>
            refine iteT ?_
            simp only [if_true] at pp
            intro b2 bH2 bC2 bcl2 bfp2 pins2 sh2 I2
            refine (Bk.e b2 bH2 bC2 bcl2 bfp2).run (r4.step t5) x5 ?_ pins2 sh2 I2
            cases q4 : fk s4 h5 with
            | no => simp only [q4] at pp; exact (pno _ _ pp).elim
            | ex z h6 => simp only [q4] at pp; exact (pno _ _ pp).elim
            | ok ke h6 =>
              simp only [q4, Oc.bindN_ok] at pp
              intro H6 ι6 t6 x6 v6 rv6
              intro b3 bH3 bC3 bcl3 bfp3 pins3 sh3 I3
              refine (Bv.e b3 bH3 bC3 bcl3 bfp3).run (r4.step (t5.trans t6)) x6 ?_ pins3 sh3 I3
              cases q5 : fv s4 h6 with
              | no => simp only [q5] at pp; exact (pno _ _ pp).elim
              | ex z h7 => simp only [q5] at pp; exact (pno _ _ pp).elim
              | ok ve h7 =>
                simp only [q5, Oc.bindN_ok] at pp
                intro H7 ι7 t7 x7 v7 rv7
                cases ln : (keyOk t ke && line acc.length) with
                | false => simp only [ln] at pp; exact (pno _ _ pp).elim
                | true =>
                  simp only [ln, if_true] at pp
                  rw [Bool.and_eq_true] at ln
                  have t'7 := (t'5.trans t6).trans t7
                  have t17 := (t15.trans t6).trans t7
                  have m7 : D ∈ ι7.rs := t'7.sub D L.m
                  obtain ⟨u, dp, da⟩ := (L.l.step nD' t'7).put m7 (rv6.step t7) rv7 ln.1 ln.2
                  refine ⟨upd H7 D u, dp, put acc ke ve, h7, ι7, updN nD t17, ⟨updN nD (bst t17), m7, x7.hid m7, (L.r.step t'7).conv (hid_c m7) (fun _ _ e => e), da⟩, pp⟩
  · have ei : i = wk.n := by omega
    subst ei
    rw [Nat.sub_self] at pp
    unfold dcLoop at pp
    cases q : wk.fin h' with
    | false => simp only [q] at pp; exact (pno _ _ pp).elim
    | true =>
      simp only [q, if_true] at pp
      exact .inl ⟨j.stop ι' H' h' tt' L.x q, fin acc h' ι1 H1 D ι' H' r1 nD L pp⟩
theorem dc_val {t : Bool} {acc : List (Lg.D × Lg.D)} {h' : Hh} {ι1 ι' : Ix} {H1 H' : Hp} {D : Addr} {s0 : S} {σ0 : L2.St} (L : DcI X ι1 H1 D t s0 σ0 acc ι' H' h') : HX X (ι'.bare D) H' h' ∧ ReX X (ι'.bare D) H' (.dic t acc) (.ref D) := by
  have same : ∀ u, H' D = some u → H' = upd H' D u := fun u e => by
    funext b
    by_cases hb : b = D
    · rw [hb, upd_same, e]
    · rw [upd_ne hb]
  obtain ⟨u, eu⟩ := L.l.there
  have xb : HX X (ι'.bare D) H' h' := by
    have := L.x.bare L.m (u := u)
    rwa [← same u eu] at this
  have c := bare_c (H := H') (p := D) (u := u) L.m
  rw [← same u eu] at c
  refine ⟨xb, ?_⟩
  have l := L.l
  cases t with
  | false =>
    obtain ⟨kvs, e, r⟩ := l
    exact .dicK e (L.x.outB L.m) (r.conv c fun _ _ e => e)
  | true =>
    obtain ⟨kvs, e, r⟩ := l
    exact .dicT e (L.x.outB L.m) (r.conv c fun _ _ e => e)
theorem re_dc (t : Bool) (hu : X.A.units < cLine) (hc : X.calm = true) (hN : X.N.Nodup) (ti : RI X W tg iter fi) (ok : BlkOk X.N X.env.scope scope own) (Bk : Blk X scope tg kx ifs fg ft fk (own.map (·.2))) (Bv : Blk X scope tg vx ifs fg ft fv (own.map (·.2))) (hs : ∀ x, foldedSetIterable iter X.env x = pure x := by intro _; rfl) :
    RE X W (.DictComp kx vx [⟨tg, iter, ifs, 0⟩] scope pos) (fDc t fi fg ft fk fv (own.map (·.2))) := by
  refine ⟨fun {s σ H ι h Q} r x p => ?_⟩
  have p' : Po X W σ ι H ((fi s h).bind fun wk h1 => (dcLoop t wk fg ft fk fv (wipeD s (own.map (·.2))) wk.n 0 [] h1).bind fun l h1 => .ok (.dic t l) h1) (fun d ι' H' => ∀ v, ReX X ι' H' d v → Q v H') := by
    unfold fDc fDcL at p
    cases q : fi s h with
    | ok d h1 => rw [q] at p; exact p
    | ex y h1 => rw [q] at p; exact p
    | no => rw [q] at p; exact p
  exact we_of (pe_dg t (g := Bg X scope tg) (tt := Bt X scope ifs) (tk := Be X scope kx) (tv := Be X scope vx) hu hc hN pi_wi ok (fun s0 H0 C cl fp => ⟨fun pins sh σ H v u Q I q hq => hq s0 H0 C cl fp pins sh u I q⟩) (fun s0 H0 C cl fp => ⟨fun pins sh σ H Q I hq => hq s0 H0 C cl fp pins sh I⟩) (fun s0 H0 C cl fp => ⟨fun pins sh σ H Q I hq => hq s0 H0 C cl fp pins sh I⟩) (fun s0 H0 C cl fp => ⟨fun pins sh σ H Q I hq => hq s0 H0 C cl fp pins sh I⟩) hs)
    (dc_rd t (fun ι1 H1 o => Po X W σ ι1 H1 (o.bind fun l h1 => .ok (.dic t l) h1) (fun d ι' H' => ∀ v, ReX X ι' H' d v → Q v H')) (fun _ _ z => z) (fun R k => ti.next r x p' fun wk h1 J H1 ι1 s1 r1 x1 j p1 => k wk h1 J H1 ι1 r1 x1 j p1) Bk Bv
      fun acc h' ι1 H1 D ι' H' r1 nD L pp => pp.use' L.st (dc_val L).1 _ (dc_val L).2)
end
end Lg
set_option Elab.async false
set_option linter.all false
set_option maxRecDepth 100000
set_option maxHeartbeats 1000000
namespace Lg
open PySem PySem.Spec PyProof.Rows L2
/-! ### d.pop(k) -/
section
variable {P : Program} {w : World} {A : Around} {E : Value → Shared → Prop} {s : Shared}
theorem meetsPop1 {κ : Type} [DecidableEq κ] {knd : HeapKind P w κ} {d b : Addr} {k : κ} (hd : (d == sysModules) = false) :
    MeetsIn P w (Builtin.«dict.pop» ⟨[.ref d, .ref b], []⟩) (fun A R s => ∃ xs p, knd.room A.in1 ∧ knd.is s.heap k b ∧ s.heap.DictOfH knd d xs ∧ xs.length ≤ sizeLine ∧ atKey xs k = some p ∧
      ∀ h' tk, h'.DictOfH knd d (DT.dropH xs k) → Heap.SameBut d s.heap h' → R (.ok (.ret p.2)) { s with heap := h', toks := tk }) :=
  .of_wp fun A R s ⟨xs, p, hu, hkey, hm, hsz, hp, hq⟩ => by
    obtain ⟨o, es, ep, ho, hc, hdat, he, his, hn⟩ := id hm
    have hes : es.size = xs.length := by
      have := congrArg List.length he
      simpa using this
    have hpart : (keyPart (Value.ref b)).isSome = false := rfl
    unfold Builtin.«dict.pop»
    refine wpAny_bind ?_
    unfold Builtin.Dict.keyAndDefault
    refine wpAny_bind (wpAny_notOrdered_dict hm.typeIs ?_)
    show wpAny _ _ (pure (d, Value.ref b, none)) _ _ s
    refine wpAny_pure ?_
    simp only [hpart, Bool.false_eq_true, if_false]
    refine wpAny_bind (wpAny_dictEntries ho hdat (wpAny_bind (wpAny_pure ?_)))
    have hem : es.isEmpty = false := by
      cases q : es.isEmpty with
      | false => rfl
      | true =>
        have z : es.size = 0 := by simpa using q
        have : xs = [] := List.length_eq_zero_iff.mp (by omega)
        subst this
        cases hp
    rw [hem]
    simp only [Bool.false_eq_true, if_false]
    refine wpAny_bind (DT.takeH hu hkey hm hsz (fun hno => ?_) fun p' e hp' hev h' hm' hs' => ?_)
    · rw [hp] at hno
      cases hno
    · rw [hp] at hp'
      cases hp'
      simp only [Option.isNone_some, Bool.false_eq_true, if_false]
      exact wpAny_bind (wpAny_letGo (wpAny_pure ⟨e.val, rfl, by rw [hev]; exact hq h' _ hm' hs'⟩))
end
section
variable {X : Cx} {W : WX} {e o f : Expr} {fo fe fx : FE} {pos p apos cpos : Pos} {y : Str}
theorem d_pop1T {pins : List (Addr × Obj)} {σ : L2.St} {H : Hp} {s : Shared} {a b : Addr} {kvs : List (List Key × V)} {k : List Key} {v : V} {Q : Value → Shared → Prop} (hu : X.A.units + 1 < cLine) (I : Inv X pins σ H s) (ha : H a = some (.dT kvs)) (hb : H b = some (.tup (k.map kV))) (l : valV kvs k = some v)
    (h : ∀ w' s', Inv X pins σ (upd H a (.dT (dropK kvs k))) s' → RelV v w' → Q w' s') : wpAny (model X.prog X.w) X.A (call (.builtin "dict.pop") [.ref a, .ref b]) Q X.xe s := by
  obtain ⟨z, hd, xs', rel, dd⟩ := dt_of I.hok ha
  have hz : xs'.length ≤ sizeLine := by rw [← Paired.length rel]; exact z
  have r := rel.val k
  rw [l] at r
  cases hp : atKey xs' k with
  | none =>
    rw [hp] at r
    exact (show False from r).elim
  | some p =>
    rw [hp] at r
    refine call_meetsIn PySem.F.slot_dict_pop dd.typeIs PySem.F.entry_dict_pop (PySem.F.args_dict_pop_2 _ _) (meetsPop1 (knd := tupleKind (mixKind X.prog X.w)) (k := k) hd)
      ⟨xs', p, tupleKind_room_in1 hu, key_of I.hok hb, dd, hz, hp, fun h' tk dd' hs => ?_⟩
    obtain ⟨o, es, ep, hq, h2, h3, h4, _, h5⟩ := dd'
    exact h _ _ (d_write I (by rw [ha]; exact True.intro) hs ⟨o, hq⟩ ⟨Nat.le_trans (dropK_le kvs k) z, hd, _, (L2.DX.KT_drop k rel).keeps (fun c ys ec => (by rw [upd_ne (ne_of ec ha (fun z => nomatch z))]; exact ec)), o, es, ep, hq, h2, h3, h4, h5⟩) r
def dropD (l : List (D × D)) (k : D) : List (D × D) := l.filter fun p => !kEq p.1 k
theorem kEq_K {d k' : D} {k key : Key} (e1 : keyD k' = some key) (e : keyD d = some k) : kEq k' d = decide (key = k) := by
  rw [← keyD_eq e1 e]
  cases k' <;> cases e1 <;> rfl
theorem drop_K {ι : Ix} {H : Hp} {d : D} {k : Key} : ∀ {l : List (D × D)} {kvs : List (Key × V)}, ReK X.K ι H l kvs → keyD d = some k → ReK X.K ι H (dropD l d) (dropK kvs k)
  | _, _, .nil, _ => .nil
  | _, _, .cons (k := k') (key := key) e1 r rr, e => by
    have ih := drop_K rr e
    unfold dropD dropK at ih ⊢
    simp only [List.filter_cons, kEq_K e1 e]
    by_cases hk : key = k
    · simpa [hk] using ih
    · simpa [hk] using ReK.cons e1 r ih
theorem drop_T {ι : Ix} {H : Hp} {ks : List D} {k : List Key} : ∀ {l : List (D × D)} {kvs : List (List Key × V)}, ReT X.K ι H l kvs → keysD ks = some k → ReT X.K ι H (dropD l (.tup ks)) (dropK kvs k)
  | _, _, .nil, _ => .nil
  | _, _, .cons (ks := k') (keys := key) e1 r rr, e => by
    have ih := drop_T rr e
    have z : kEq (.tup k') (.tup ks) = decide (key = k) := keysD_eq e1 e
    unfold dropD dropK at ih ⊢
    simp only [List.filter_cons, z]
    by_cases hk : key = k
    · simpa [hk] using ih
    · simpa [hk] using ReT.cons e1 r ih
def fDpop (fo fk : FE) : FE := fun s h => (fo s h).bind fun d h1 => match d with
  | .ref n => match h1[n]? with
    | some (.dic _ _) => (fk s h1).bind fun k h2 => match h2[n]? with
      | some (.dic t l) => match look l k with
        | some v => if keyOk t k then .ok v (h2.set n (.dic t (dropD l k))) else .no
        | none => .no
      | _ => .no
    | _ => .no
  | _ => .no
theorem ref_dic {ι : Ix} {H : Hp} {h : Hh} {n : Nat} {v : V} {t : Bool} {l : List (D × D)} (x : HX X ι H h) (r : ReX X ι H (.ref n) v) (e : h[n]? = some (.dic t l)) : ∃ a, v = .ref a ∧ ι.pl[n]? = some a ∧ IsD H a ∧ DicAt X ι H a t l := by
  cases r with
  | ref hn =>
    have y := x.at_ n _ _ hn e
    cases t with
    | false =>
      obtain ⟨kvs, h1, h2⟩ := y
      exact ⟨_, rfl, hn, .inl ⟨kvs, .inl h1⟩, kvs, h1, h2⟩
    | true =>
      obtain ⟨kvs, h1, h2⟩ := y
      exact ⟨_, rfl, hn, .inr ⟨kvs, .inl h1⟩, kvs, h1, h2⟩
theorem re_dpop (hu : X.A.units + 1 < cLine) (to : RE X W o fo) (te : RE X W e fe) (m : M1 X o "pop" apos e cpos := by exact ⟨rfl, rfl, rfl, rfl⟩) : RE X W (.Call (.Attribute o "pop" apos) [e] [] cpos) (fDpop fo fe) := by
  refine ⟨fun {s σ H ι h Q} r x q pins sh I => ?_⟩
  refine wpAny_Call_method m.base m.few m.line PySem.F.plainAttrs_dict PySem.F.slot_dict_pop PySem.F.type_dict_pop (thn (to.next (R := fun v H1 => ∃ ι1 h1 d, SR X.K ι1 H1 s σ ∧ HX X ι1 H1 h1 ∧ ReX X ι1 H1 d v ∧ Po X W σ ι1 H1 (match d with
    | .ref n => match h1[n]? with
      | some (.dic _ _) => (fe s h1).bind fun k h2 => match h2[n]? with
        | some (.dic t l) => match look l k with
          | some v => if keyOk t k then .ok v (h2.set n (.dic t (dropD l k))) else .no
          | none => .no
        | _ => .no
      | _ => .no
    | _ => .no) (fun d ι' H' => ∀ v, ReX X ι' H' d v → Q v H')) r x q (fun d h1 v H1 ι1 s1 r1 x1 rv p1 => ⟨ι1, h1, d, r1, x1, rv, p1⟩) pins sh I) fun u s1 ⟨v, H1, I1, rx, ι1, h1, d, r1, x1, rv, p1⟩ => ?_)
  cases d with
  | ref n =>
    cases z : h1[n]? with
    | none => simp only [z] at p1; exact p1.elim
    | some ob =>
      cases ob with
      | dic t0 l0 =>
        simp only [z] at p1
        obtain ⟨a, rfl, hn, isd, _⟩ := ref_dic x1 rv z
        obtain rfl : u = Value.ref a := rx
        obtain ⟨t1, t2, _⟩ := isD_at I1 isd
        refine ⟨t1, t2, ?_⟩
        rw [m.trees]
        refine Calls.callWith_builtin rfl (Calls.evalArgs_plain (Calls.spliced_cons (thn (te.next (R := fun wv H2 => ∃ ι2 h2 k, ReX X ι2 H2 (.ref n) (.ref a) ∧ HX X ι2 H2 h2 ∧ ReX X ι2 H2 k wv ∧ Po X W σ ι2 H2 (match h2[n]? with
          | some (.dic t l) => match look l k with
            | some v => if keyOk t k then Oc.ok v (h2.set n (.dic t (dropD l k))) else .no
            | none => .no
          | _ => .no) (fun d ι' H' => ∀ v, ReX X ι' H' d v → Q v H')) r1 x1 p1 (fun k h2 wv H2 ι2 s2 r2 x2 rw p2 => ⟨ι2, h2, k, rv.step s2, x2, rw, p2⟩) pins s1 I1) fun iv s2 ⟨wv, H2, I2, ry, ι2, h2, k, rn, x2, rk, p2⟩ => Calls.spliced_nil ?_)))
        cases z2 : h2[n]? with
        | none => simp only [z2] at p2; exact p2.elim
        | some ob2 =>
          cases ob2 with
          | dic t l =>
            simp only [z2] at p2
            cases z3 : look l k with
            | none => simp only [z3] at p2; exact p2.elim
            | some vd =>
              simp only [z3] at p2
              cases ok : keyOk t k with
              | false => simp only [ok] at p2; exact p2.elim
              | true =>
                simp only [ok, if_true] at p2
                obtain ⟨a', ea, hn2, _, da⟩ := ref_dic x2 rn z2
                cases ea
                have mem := List.mem_of_getElem? hn2
                cases t with
                | false =>
                  obtain ⟨kvs, h3, h4⟩ := da
                  obtain ⟨key, ek⟩ := Option.isSome_iff_exists.mp (show (keyD k).isSome = true from ok)
                  have ey := keyD_V ek rk
                  subst ey
                  have lk := lookK h4 ek
                  rw [z3] at lk
                  cases lv : valV kvs key with
                  | none => rw [lv] at lk; cases lk
                  | some v0 =>
                    rw [lv] at lk
                    have rr : ReX X ι2 H2 vd v0 := lk
                    exact d_pop I2 h3 ry lv (.inl rfl) fun w' s3 I3 rw' => ⟨v0, _, I3, rw', p2.use' (Step.write mem) (x2.write hn2 ⟨_, upd_same, (drop_K h4 ek).step (Step.write mem)⟩) _ (rr.step (Step.write mem))⟩
                | true =>
                  obtain ⟨kvs, h3, h4⟩ := da
                  cases k with
                  | tup ks =>
                    obtain ⟨key, ek⟩ := Option.isSome_iff_exists.mp (show (keysD ks).isSome = true from ok)
                    cases rk with
                    | tup t3 tn t4 =>
                      rw [keysD_V ek t4] at t3
                      have lk := lookT h4 ek
                      rw [z3] at lk
                      cases lv : valV kvs key with
                      | none => rw [lv] at lk; cases lk
                      | some v0 =>
                        rw [lv] at lk
                        have rr : ReX X ι2 H2 vd v0 := lk
                        obtain rfl : iv = Value.ref _ := ry
                        exact d_pop1T hu I2 h3 t3 lv fun w' s3 I3 rw' => ⟨v0, _, I3, rw', p2.use' (Step.write mem) (x2.write hn2 ⟨_, upd_same, (drop_T h4 ek).step (Step.write mem)⟩) _ (rr.step (Step.write mem))⟩
                  | _ => exact absurd ok Bool.false_ne_true
          | _ => simp only [z2] at p2; exact p2.elim
      | _ => simp only [z] at p1; exact p1.elim
  | _ => exact p1.elim
/-! ### d.setdefault(k, x) -/
def fSetd (fo fk fx : FE) : FE := fun s h => (fo s h).bind fun d h1 => match d with
  | .ref n => match h1[n]? with
    | some (.dic false _) => (fk s h1).bind fun k h2 => (fx s h2).bind fun v h3 => match h3[n]? with
      | some (.dic false l) => if keyOk false k && line l.length then match look l k with
        | some u => .ok u h3
        | none => .ok v (h3.set n (.dic false (put l k v))) else .no
      | _ => .no
    | _ => .no
  | _ => .no
theorem re_setd (to : RE X W o fo) (te : RE X W e fe) (tx : RE X W f fx) (m : M2 X o "setdefault" apos e f cpos := by exact ⟨rfl, rfl, rfl, rfl⟩) : RE X W (.Call (.Attribute o "setdefault" apos) [e, f] [] cpos) (fSetd fo fe fx) :=
  ⟨fun {s σ H ι h Q} r x q => we_of (pe_dsetd pe_we pe_we pe_we m) (to.next r x q fun d h1 v H1 ι1 s1 r1 x1 rv p1 => by
    cases d with
    | ref n =>
      cases z : h1[n]? with
      | none => simp only [z] at p1; exact p1.elim
      | some ob =>
        cases ob with
        | dic t0 l0 =>
          cases t0 with
          | true => simp only [z] at p1; exact p1.elim
          | false =>
            simp only [z] at p1
            obtain ⟨a, rfl, hn, isd, _⟩ := ref_dic x1 rv z
            refine ⟨a, rfl, isd, te.next r1 x1 p1 fun k h2 y H2 ι2 s2 r2 x2 ry p2 => tx.next r2 x2 p2 fun vx h3 zv H3 ι3 s3 r3 x3 rz p3 => ?_⟩
            cases z2 : h3[n]? with
            | none => simp only [z2] at p3; exact p3.elim
            | some ob2 =>
              cases ob2 with
              | dic t l =>
                cases t with
                | true => simp only [z2] at p3; exact p3.elim
                | false =>
                  simp only [z2] at p3
                  cases ok : (keyOk false k && line l.length) with
                  | false => simp only [ok] at p3; exact p3.elim
                  | true =>
                    simp only [ok, if_true] at p3
                    rw [Bool.and_eq_true] at ok
                    obtain ⟨a', ea, hn2, _, da⟩ := ref_dic x3 (rv.step (s2.trans s3)) z2
                    cases ea
                    have mem := List.mem_of_getElem? hn2
                    obtain ⟨kvs, h4, h5⟩ := da
                    obtain ⟨key, ek⟩ := Option.isSome_iff_exists.mp (show (keyD k).isSome = true from ok.1)
                    have ey := keyD_V ek ry
                    have lk := lookK h5 ek
                    refine ⟨kvs, key, h4, ey, by rw [← ReK.len h5]; exact line_ok ok.2, fun v0 lv => ?_, fun lv => ?_⟩
                    · rw [lv] at lk
                      cases z3 : look l k with
                      | none => rw [z3] at lk; cases lk
                      | some u =>
                        rw [z3] at lk
                        simp only [z3] at p3
                        exact p3.use x3 _ lk
                    · rw [lv] at lk
                      cases z3 : look l k with
                      | some u => rw [z3] at lk; cases lk
                      | none =>
                        simp only [z3] at p3
                        exact p3.use' (Step.write mem) (x3.write hn2 ⟨_, upd_same, (put_K h5 ek rz).step (Step.write mem)⟩) _ (rz.step (Step.write mem))
              | _ => simp only [z2] at p3; exact p3.elim
        | _ => simp only [z] at p1; exact p1.elim
    | _ => exact p1.elim)⟩
/-! ### a text of the module -/
theorem re_gstr {z : Str} {t : Tok} (hm : X.mg y = some (.str z t)) (hg : Gl X y := by rfl) (hdb : (y == ("__debug__" : Str)) = false := by decide) : RE X W (.Name y p) (fC (.str z)) := ⟨fun r x q => we_of (pe_glob (v := .str z) hg hm ⟨t, rfl⟩ hdb) (q.use x _ (.str z))⟩
/-! ### a op b op' c -/
def fChain (op op' : Hh → D → D → Option D) (fa fb fc : FE) : FE := fun s h => (fa s h).bind fun a h1 => (fb s h1).bind fun b h2 => (ofO h2 (op h2 a b)).bind fun r h3 => match r with
  | .bl true => (fc s h3).bind fun c h4 => ofO h4 (op' h4 b c)
  | .bl false => .ok (.bl false) h3
  | _ => .no
section
variable {a b c : Expr} {fa fb fc : FE} {o1 o2 : CmpOp} {op1 op2 : Hh → D → D → Option D}
theorem chain_core {s : S} {σ : L2.St} {H : Hp} {ι : Ix} {h : Hh} {Q : VK} (ha : RE X W a fa) (hb : RE X W b fb) (hc : RE X W c fc) (r : SR X.K ι H s σ) (x : HX X ι H h) (p : Po X W σ ι H (fChain op1 op2 fa fb fc s h) (fun d ι' H' => ∀ v, ReX X ι' H' d v → Q v H')) :
    tChain (rD X op1) (rD X op2) (We X a) (We X b) (We X c) σ H Q :=
  ha.next r x p fun d h1 v H1 ι1 s1 r1 x1 rv p1 => hb.next r1 x1 p1 fun e h2 u H2 ι2 s2 r2 x2 ru p2 => by
    cases q : op1 h2 d e with
    | none => rw [q] at p2; exact p2.elim
    | some z =>
      rw [q] at p2
      refine ⟨ι2, h2, d, e, z, x2, rv.step s2, ru, q, fun wv H3 s3 x3 r3 => ?_⟩
      have p3 := Po.step s3 p2
      cases z with
      | bl k =>
        cases r3
        cases k with
        | true =>
          refine ⟨true, rfl, ?_⟩
          rw [if_pos rfl]
          exact hc.next (r2.step s3) x3 p3 fun f h4 w4 H4 ι4 s4 r4 x4 rw4 p4 => by
            cases q2 : op2 h4 e f with
            | none => rw [q2] at p4; exact p4.elim
            | some z2 =>
              rw [q2] at p4
              exact ⟨ι4, h4, e, f, z2, x4, (ru.step s3).step s4, rw4, q2, fun w5 H5 s5 x5 r5 => p4.use' s5 x5 w5 r5⟩
        | false =>
          refine ⟨false, rfl, ?_⟩
          rw [if_neg Bool.false_ne_true]
          exact p3.use x3 _ (.bl false)
      | _ => exact p3.elim
theorem re_chain (h1 : OpR X (compareOp o1) (rD X op1)) (h2 : OpR X (compareOp o2) (rD X op2)) (ha : RE X W a fa) (hb : RE X W b fb) (hc : RE X W c fc) (hm : lastMarks [o1, o2] [b, c] = false := by with_unfolding_all rfl) : RE X W (.Compare a [o1, o2] [b, c] pos) (fChain op1 op2 fa fb fc) :=
  ⟨fun r x p => we_of (pe_chain h1 h2 pe_we pe_we pe_we hm) (chain_core ha hb hc r x p)⟩
theorem rt_chain (h1 : OpR X (compareOp o1) (rD X op1)) (h2 : OpR X (compareOp o2) (rD X op2)) (ha : RE X W a fa) (hb : RE X W b fb) (hc : RE X W c fc) (hm : lastMarks [o1, o2] [b, c] = false := by with_unfolding_all rfl) : RT X W (.Compare a [o1, o2] [b, c] pos) (fB (fChain op1 op2 fa fb fc)) :=
  ⟨fun {s σ H ι h Q} r x p => wt_of (pt_chain h1 h2 pe_we pe_we pe_we hm) (by
    show tChain _ _ (We X a) (We X b) (We X c) σ H fun v H' => ∃ k, v = .bl k ∧ Q k H'
    refine chain_core ha hb hc r x ?_
    unfold fB at p
    cases q : fChain op1 op2 fa fb fc s h with
    | no => rw [q] at p; exact p
    | ex y h1 => rw [q] at p; exact p
    | ok d h1 =>
      rw [q] at p
      intro H1 ι1 s1 x1 v rv
      cases d with
      | bl k => cases rv; exact ⟨k, rfl, p H1 ι1 s1 x1⟩
      | _ => exact p.elim)⟩
end
/-- a statement that is never come to -/
def gNo : FS := fun _ _ => .no
theorem rs_any {st : Stmt} : RS X W st gNo := ⟨fun _ _ p => p.elim⟩
def fNo : FE := fun _ _ => .no
theorem re_any : RE X W e fNo := ⟨fun _ _ p => p.elim⟩
end
end Lg
set_option Elab.async false
set_option linter.all false
set_option maxRecDepth 100000
set_option maxHeartbeats 1000000
namespace Lg
open PySem PySem.Spec PyProof.Rows L2
section
variable {X : Cx} {W : WX} {e tg : Expr} {fe : FE} {pos p : Pos}
theorem takes0 : Takes X W0 := fun u s' ⟨_, _, _, _, _, _, _, _, _, _, _, _, _, _, _, _, w⟩ => w.elim
/-! ### the signs of a text -/
def wkS (z : Str) : Wk := ⟨z.cps.size, fun _ i => (z.cps[i]?).map fun c => .str ⟨#[c]⟩, fun _ => true⟩
theorem wkJ_S {ι : Ix} {H : Hp} {z : Str} : WkJ X (wkS z) ι H (Its z) :=
  ⟨fun ι2 H2 h2 i d t x e => by
    obtain ⟨c, e1, rfl⟩ := Option.map_eq_some_iff.mp (show (z.cps[i]?).map (fun c => D.str ⟨#[c]⟩) = some d from e)
    refine ⟨(Array.getElem?_eq_some_iff.mp e1).1, fun y H3 ⟨e3, c', e4, e5⟩ => ?_⟩
    subst e3 e5
    rw [e1] at e4
    cases e4
    exact ⟨Step.refl, x, .str _⟩, fun ι2 H2 h2 t x _ => Nat.le_refl _⟩
def fWalkS (f : FE) : FI := fun s h => (f s h).bind fun d h1 => match d with
  | .str z => .ok (wkS z) h1
  | _ => .no
theorem ri_str (t : RE X W e fe) : RI X W tg e (fWalkS fe) :=
  ⟨fun {s σ H ι h R} r x p => wi_of (pi_str pe_we) (t.next r x p fun d h1 v H1 ι1 s1 r1 x1 rv p1 => by
    cases d with
    | str z =>
      cases rv
      exact ⟨z, rfl, p1.use x1 _ wkJ_S⟩
    | _ => exact p1.elim)⟩
/-! ### < of texts -/
def opLt (_ : Hh) (x y : D) : Option D := match x, y with
  | .int i, .int j => some (.bl (decide (i < j)))
  | .str a, .str b => some (.bl (decide (a.cps.toList < b.cps.toList)))
  | _, _ => none
theorem o_ltS : OpR X (compareOp .Lt) (rD X opLt) := by
  intro pins s σ H x y v u Q I rx ry ⟨ι, h, dx, dy, d, hx, r1, r2, e, q⟩
  cases dx with
  | int i =>
    cases dy with
    | int j =>
      cases e
      exact o_lt pins s σ H x y v u Q I rx ry ⟨ι, h, .int i, .int j, _, hx, r1, r2, rfl, q⟩
    | _ => cases e
  | str a =>
    cases dy with
    | str b =>
      cases e
      cases r1
      cases r2
      obtain ⟨t, rfl⟩ := rx
      obtain ⟨t', rfl⟩ := ry
      exact lt_str ⟨.bl _, H, I, rfl, q _ _ Step.refl hx (.bl _)⟩
    | _ => cases e
  | _ => cases e
/-! ### is, of what is known: None, bools -/
def isB (neg : Bool) (_ : Hh) (x y : D) : Option D := match y with
  | .non => some (.bl (xor neg (isNon x)))
  | .bl b => match x with
    | .bl a => some (.bl (xor neg (a == b)))
    | _ => none
  | _ => none
theorem o_isB : OpR X (compareOp .Is) (rD X (isB false)) := by
  intro pins s σ H x y v u Q I rx ry ⟨ι, h, dx, dy, d, hx, r1, r2, e, q⟩
  cases dy with
  | non =>
    cases e
    exact o_isN pins s σ H x y v u Q I rx ry ⟨ι, h, dx, .non, _, hx, r1, r2, rfl, by simpa using q⟩
  | bl b =>
    cases dx with
    | bl a =>
      cases e
      cases r1
      cases r2
      cases rx
      cases ry
      have q2 := q (.bl (a == b)) H Step.refl hx (by rw [Bool.false_xor]; exact .bl _)
      exact wpAny_mono (show wpAny (model X.prog X.w) X.A (compareOp .Is (.bool a) (.bool b)) (fun r s' => r = .bool (a == b) ∧ s' = s) X.xe s by
        cases a <;> cases b <;> exact wpAny_pure ⟨rfl, rfl⟩) (fun r s' ⟨e1, e2⟩ => by subst e1 e2; exact ⟨.bl (a == b), H, I, rfl, q2⟩) fun _ _ z => z
    | _ => cases e
  | _ => cases e
theorem o_isntB : OpR X (compareOp .IsNot) (rD X (isB true)) := by
  intro pins s σ H x y v u Q I rx ry ⟨ι, h, dx, dy, d, hx, r1, r2, e, q⟩
  cases dy with
  | non =>
    cases e
    exact o_notN pins s σ H x y v u Q I rx ry ⟨ι, h, dx, .non, _, hx, r1, r2, rfl, by simpa using q⟩
  | bl b =>
    cases dx with
    | bl a =>
      cases e
      cases r1
      cases r2
      cases rx
      cases ry
      have q2 := q (.bl (!(a == b))) H Step.refl hx (by rw [Bool.true_xor]; exact .bl _)
      exact wpAny_mono (show wpAny (model X.prog X.w) X.A (compareOp .IsNot (.bool a) (.bool b)) (fun r s' => r = .bool (!(a == b)) ∧ s' = s) X.xe s by
        cases a <;> cases b <;> exact wpAny_pure ⟨rfl, rfl⟩) (fun r s' ⟨e1, e2⟩ => by subst e1 e2; exact ⟨.bl (!(a == b)), H, I, rfl, q2⟩) fun _ _ z => z
    | _ => cases e
  | _ => cases e
/-! ### == with a dict that is empty -/
def dicN (h : Hh) (d : D) : Option Nat := match asD h d with
  | some (false, l) => some l.length
  | _ => none
def opEqE (h : Hh) (x y : D) : Option D := match dicN h x, dicN h y with
  | some n, some m => if n = 0 ∨ m = 0 then some (.bl (decide (n = m))) else none
  | _, _ => opEq h x y
theorem dicN_ok {ι : Ix} {H : Hp} {h : Hh} {d : D} {v : V} {n : Nat} (x : HX X ι H h) (r : ReX X ι H d v) (e : dicN h d = some n) : ∃ a kvs, v = .ref a ∧ H a = some (.dK kvs) ∧ kvs.length = n := by
  unfold dicN at e
  cases q : asD h d with
  | none => rw [q] at e; cases e
  | some tl =>
    obtain ⟨t, l⟩ := tl
    cases t with
    | true => rw [q] at e; cases e
    | false =>
      rw [q] at e
      cases e
      obtain ⟨a, rfl, ⟨_, kvs, h1, h2⟩ | ⟨z, _⟩⟩ := asD_ok x r q
      · exact ⟨a, kvs, rfl, h1, h2.len.symm⟩
      · cases z
theorem o_eqE (hu : X.A.units + 64 < cLine) : OpR X (compareOp .Eq) (rD X opEqE) := by
  intro pins s σ H x y v u Q I rx ry ⟨ι, h, dx, dy, d, hx, r1, r2, e, q⟩
  have old : opEq h dx dy = some d → wpAny (model X.prog X.w) X.A (compareOp .Eq v u) (EP X pins σ Q) X.xe s := fun e => o_eq hu pins s σ H x y v u Q I rx ry ⟨ι, h, dx, dy, d, hx, r1, r2, e, q⟩
  unfold opEqE at e
  cases q1 : dicN h dx with
  | none => simp only [q1] at e; exact old e
  | some n =>
    cases q2 : dicN h dy with
    | none => simp only [q1, q2] at e; exact old e
    | some m =>
      simp only [q1, q2] at e
      by_cases hz : n = 0 ∨ m = 0
      · rw [if_pos hz] at e
        cases e
        obtain ⟨a, ka, rfl, h1, l1⟩ := dicN_ok hx r1 q1
        obtain ⟨b, kb, rfl, h2, l2⟩ := dicN_ok hx r2 q2
        cases rx
        cases ry
        obtain ⟨_, na, va, rel1, da⟩ := dk_of I.hok h1
        obtain ⟨_, nb, vb, rel2, db⟩ := dk_of I.hok h2
        have ea : va.length = n := by rw [← rel1.length]; exact l1
        have eb : vb.length = m := by rw [← rel2.length]; exact l2
        have fin : (va.length == vb.length && decide (n = m)) = decide (n = m) := by
          rw [ea, eb]
          by_cases z : n = m
          · simp [z]
          · simp [z]
        refine PySem.W.rcP_dicts (r := decide (n = m)) na nb da db (by omega) (fun el => ?_) _ _ ?_
        · have en : n = m := by rw [← ea, ← eb]; exact el
          have e0 : va = [] := List.eq_nil_of_length_eq_zero (by omega)
          rw [decide_eq_true en, e0]
          exact .nil
        · rw [fin]
          exact ⟨.bl _, H, I, rfl, q _ _ Step.refl hx (.bl _)⟩
      · rw [if_neg hz] at e
        cases e
end
end Lg
set_option Elab.async false
set_option linter.all false
set_option maxRecDepth 100000
set_option maxHeartbeats 1000000
namespace Lg
open PySem PySem.Spec PyProof.Rows L2
section
variable {X : Cx} {W : WX} {e : Expr} {fe : FE} {es : List Expr} {fs : FA} {pos p : Pos}
def fNeg (f : FE) : FE := fun s h => (f s h).bind fun d h1 => match d with
  | .int i => .ok (.int (-i)) h1
  | _ => .no
theorem re_neg (t : RE X W e fe) : RE X W (.UnaryOp .USub e pos) (fNeg fe) :=
  ⟨fun {s σ H ι h Q} r x q => we_of (pe_un un_neg pe_we) (t.next r x q fun d h1 v H1 ι1 s1 r1 x1 rv p1 => by
    cases d with
    | int i =>
      cases rv
      exact ⟨i, rfl, p1.use x1 _ (.int _)⟩
    | _ => exact p1.elim)⟩
/-- a def of the module -/
structure Dfn (P : Program) (w : World) (K : PySem.W.Frag) (mg : Str → Option Value) (base : Heap) (k : Nat) (x : Str) (f : Addr) (F : List D → Hh → Oc D) : Prop where
  d : FnD P w K mg base k f [] F
  m : mg x = some (.ref f)
  kp : PySem.W.keepIn K (.ref f) = true
variable {k j : Nat} {y : Str} {f : Addr} {F : List D → Hh → Oc D}
theorem re_fn (t : Dfn X.prog X.w X.K X.mg X.base k y f F) (hr : Room j X.A) (hj : k ≤ j) (hgd : X.A.guards = some []) (tk : Takes X W) (ta : RA X W (e :: es) fs)
    (hg : Gl X y := by rfl) (hdb : (y == ("__debug__" : Str)) = false := by decide) (he : starEach (e :: es) X.env = (false, eval e X.env) :: starEach es X.env := by rfl) (hpl : (backTo pos (starEach es X.env)).any (·.1) = false := by rfl) :
    RE X W (.Call (.Name y p) (e :: es) [] pos) (fCall F fs) := re_call t.d (hr.mono hj) hgd tk t.m t.kp ta hg hdb he hpl
theorem re_fn0 (t : Dfn X.prog X.w X.K X.mg X.base k y f F) (hr : Room j X.A) (hj : k ≤ j) (hgd : X.A.guards = some []) (tk : Takes X W) (hg : Gl X y := by rfl) (hdb : (y == ("__debug__" : Str)) = false := by decide) :
    RE X W (.Call (.Name y p) [] [] pos) (fCall F fN) := re_call0 t.d (hr.mono hj) hgd tk t.m t.kp hg hdb
theorem re_fnS (t : Dfn X.prog X.w X.K X.mg X.base k y f F) (hr : Room j X.A) (hj : k ≤ j) (hgd : X.A.guards = some []) (tk : Takes X W) (ta : RA X W (e :: es) fs)
    (hg : Gl X y := by rfl) (hdb : (y == ("__debug__" : Str)) = false := by decide) (he : starEach (e :: es) X.env = (false, eval e X.env) :: starEach es X.env := by rfl) (hst : (backTo pos (starEach es X.env)).any (·.1) = true := by rfl) :
    RE X W (.Call (.Name y p) (e :: es) [] pos) (fCall F fs) := re_callS t.d (hr.mono hj) hgd tk t.m t.kp ta hg hdb he hst
end
theorem u0 {k : Nat} {A : Around} (r : Room k A) : A.units < cLine := by have := r.un; omega
theorem u1 {k : Nat} {A : Around} (r : Room k A) : A.units + 1 < cLine := by have := r.un; omega
theorem u64 {k : Nat} {A : Around} (r : Room k A) : A.units + 64 < cLine := by have := r.un; omega
theorem u65 {k : Nat} {A : Around} (r : Room k A) : A.units + 65 < cLine := by have := r.un; omega
theorem u200 {k : Nat} {A : Around} (r : Room k A) : A.units + 200 < cLine := by have := r.un; omega
/-- the built-in names that the texts call -/
structure Txt (mg : Str → Option Value) : Prop where
  len : mg "len" = none
  range : mg "range" = none
  int : mg "int" = none
  list : mg "list" = none
  tuple : mg "tuple" = none
  sorted : mg "sorted" = none
  str : mg "str" = none
  dict : mg "dict" = none
  repr : mg "repr" = none
  isinstance : mg "isinstance" = none
  bool : mg "bool" = none
  all : mg "all" = none
  any : mg "any" = none
  max : mg "max" = none
  min : mg "min" = none
  set : mg "set" = none
section
variable {X : Cx} {W : WX}
/-! ### a list times an int -/
def opRep (h : Hh) (x y : D) : Option D := match y with
  | .int k => match asL h x with
    | some l => if decide (0 ≤ k ∧ k < 1000000) && line (l.length * k.toNat) then some (.lst (List.replicate k.toNat l).flatten) else none
    | none => none
  | _ => none
theorem Res.rep {K : PySem.W.Frag} {ι : Ix} {H : Hp} {l : List D} {vs : List V} (r : Res K ι H l vs) : ∀ n : Nat, Res K ι H (List.replicate n l).flatten (List.replicate n vs).flatten
  | 0 => .nil
  | n + 1 => by
    rw [List.replicate_succ, List.replicate_succ, List.flatten_cons, List.flatten_cons]
    exact r.app (Res.rep r n)
theorem o_rep : OpR X (binaryOp .Mult) (rD X opRep) := by
  intro pins s σ H x y v u Q I rx ry ⟨ι, h, dx, dy, d, hx, r1, r2, e, q⟩
  cases dy with
  | int k =>
    cases z : asL h dx with
    | none => simp [opRep, z] at e
    | some l =>
      simp only [opRep, z] at e
      cases c : (decide (0 ≤ k ∧ k < 1000000) && line (l.length * k.toNat)) with
      | false => rw [c] at e; cases e
      | true =>
        simp only [c, if_true, Option.some.injEq] at e
        subst e
        rw [Bool.and_eq_true] at c
        obtain ⟨k1, k2⟩ := of_decide_eq_true c.1
        cases r2
        obtain ⟨a, xs, rfl, hs, rl⟩ := asL_ok hx r1 z
        exact op_rep pins s σ H _ _ v u Q I rx ry ⟨a, k, xs, rfl, rfl, hs, by omega, by omega, by rw [← rl.len]; exact Nat.le_of_lt (line_ok c.2), fun p n => q _ _ (Step.new n) (hx.new n) (.lst upd_same (hx.fresh n) ((Res.rep rl k.toNat).step (Step.new n)))⟩
  | _ => cases e
/-! ### a, b, c = x, y, z -/
variable {a b c : Expr} {fa fb fc : FE} {pos : Pos}
def gPar3 (i j l : Nat) (fa fb fc : FE) : FS := fun s h => (fa s h).toS s fun d h1 => (fb s h1).toS s fun e h2 => (fc s h2).toS s fun f h3 => .nx (((s.set i (some d)).set j (some e)).set l (some f)) h3
theorem rs_par3 (i j l : Nat) {x y z : Str} {px py pz pt : Pos} {kt k2 pt2} (hc : X.calm = true) (hN : X.N.Nodup) (ta : RE X W a fa) (tb : RE X W b fb) (tc : RE X W c fc) (hi : X.N[i]? = some x := by rfl) (hj : X.N[j]? = some y := by rfl) (hl : X.N[l]? = some z := by rfl) (hij : i ≠ j := by decide) (hil : i ≠ l := by decide) (hjl : j ≠ l := by decide)
    (hx : X.env.scope.names.lookup x = some .local := by rfl) (hy : X.env.scope.names.lookup y = some .local := by rfl) (hz : X.env.scope.names.lookup z = some .local := by rfl)
    (hw : swappedStores [.Tuple [.Name x px, .Name y py, .Name z pz] kt pt] (.Tuple [a, b, c] k2 pt2) X.env = pure (some [x, y, z]) := by rfl)
    (hs : swapsWithSole [.Tuple [.Name x px, .Name y py, .Name z pz] kt pt] (.Tuple [a, b, c] k2 pt2) pos.line X.env = pure false := by rfl)
    (h1 : starEach [a, b, c] X.env = (false, eval a X.env) :: starEach [b, c] X.env := by rfl) (h2 : starEach [b, c] X.env = (false, eval b X.env) :: starEach [c] X.env := by rfl) (h3 : starEach [c] X.env = (false, eval c X.env) :: starEach [] X.env := by rfl) :
    RS X W (.Assign [.Tuple [.Name x px, .Name y py, .Name z pz] kt pt] (.Tuple [a, b, c] k2 pt2) pos) (gPar3 i j l fa fb fc) :=
  ⟨fun {s σ H ι h E} r x p => ws_of (ps_par3 hc hN hi hj hl hij hil hjl hx hy hz (pa_cons pe_we (pa_cons pe_we (pa_cons pe_we pa_nil h3) h2) h1) hw hs) (ta.nextS r x p fun d h1 v H1 ι1 s1 r1 x1 rv p1 => tb.nextS r1 x1 p1 fun e h2 u H2 ι2 s2 r2 x2 ru p2 => tc.nextS r2 x2 p2 fun f h3 w H3 ι3 s3 r3 x3 rw p3 =>
    ⟨v, u, w, rfl, p3.useN x3 (((r3.set ((rv.step s2).step s3) i).set (ru.step s3) j).set rw l)⟩)⟩
end
/-- a class of the module; its methods; its class methods -/
structure Zc (K : PySem.W.Frag) (mg : Str → Option Value) (C : Str) (c : Addr) : Prop where
  m : mg C = some (.ref c)
  c : Cls K c
structure Mth (P : Program) (w : World) (K : PySem.W.Frag) (mg : Str → Option Value) (base : Heap) (k : Nat) (c : Addr) (m : Str) (f : Addr) (ks : List Str) (F : List D → Hh → Oc D) : Prop where
  t : Meth K c m f
  d : FnD P w K mg base k f ks F
structure Cmt (P : Program) (w : World) (K : PySem.W.Frag) (mg : Str → Option Value) (base : Heap) (k : Nat) (c : Addr) (mc : Value) (m : Str) (p g : Addr) (F : List D → Hh → Oc D) : Prop where
  r : ClX.CRead K c mc
  c : ClX.CMet K c mc m p g
  d : FnD P w K mg base k g [] F
/-- a statement of a class's body -/
def subS (s : Stmt) (j : Nat) : Stmt := match s with
  | .ClassDef _ _ _ body _ _ _ _ _ _ _ => body.getD j (.Pass ⟨0, 0, 0, 0⟩)
  | _ => .Pass ⟨0, 0, 0, 0⟩
end Lg
set_option Elab.async false
set_option linter.all false
set_option maxRecDepth 100000
/-! a calculus for the functions: what an outcome must be -/
namespace Lg
open PySem PySem.Spec PyProof.Rows L2
@[irreducible] def Ok {α : Type} (o : Oc α) (Q : α → Hh → Prop) : Prop := match o with
  | .ok a h => Q a h
  | _ => False
structure Gs where
  nx : S → Hh → Prop := fun _ _ => False
  rt : D → Hh → Prop := fun _ _ => False
  bk : S → Hh → Prop := fun _ _ => False
  ct : S → Hh → Prop := fun _ _ => False
@[irreducible] def OkS (o : Os) (G : Gs) : Prop := match o with
  | .nx s h => G.nx s h
  | .rt d h => G.rt d h
  | .bk s h => G.bk s h
  | .ct s h => G.ct s h
  | _ => False
section
variable {α β : Type} {o : Oc α} {k : α → Hh → Oc β} {Q R : α → Hh → Prop} {s : S} {h : Hh} {G G' : Gs} {fa fb fe fo fc : FE} {fs : FA} {ft fu : FT} {g g' : FS} {d : D}
theorem Ok.mono (x : Ok o Q) (m : ∀ a h, Q a h → R a h) : Ok o R := by
  unfold Ok at x ⊢
  cases o with
  | ok a h => exact m a h x
  | _ => exact x
theorem OkS.mono {o : Os} (x : OkS o G) (n : ∀ s h, G.nx s h → G'.nx s h) (r : ∀ d h, G.rt d h → G'.rt d h) (b : ∀ s h, G.bk s h → G'.bk s h) (c : ∀ s h, G.ct s h → G'.ct s h) : OkS o G' := by
  unfold OkS at x ⊢
  cases o with
  | nx s h => exact n s h x
  | rt d h => exact r d h x
  | bk s h => exact b s h x
  | ct s h => exact c s h x
  | _ => exact x
theorem w_ok {a : α} : Ok (.ok a h) Q = Q a h := by unfold Ok; rfl
theorem w_bind {P : β → Hh → Prop} : Ok (o.bind k) P = Ok o fun a h => Ok (k a h) P := by cases o <;> simp [Ok, Oc.bind]
theorem w_ofO {x : Option α} : Ok (ofO h x) Q = ∃ a, x = some a ∧ Q a h := by cases x <;> simp [ofO, Ok]
theorem w_toS {kk : α → Hh → Os} : OkS (o.toS s kk) G = Ok o fun a h => OkS (kk a h) G := by cases o <;> simp [Ok, OkS, Oc.toS]
theorem k_nx : OkS (.nx s h) G = G.nx s h := by unfold OkS; rfl
theorem k_rt : OkS (.rt d h) G = G.rt d h := by unfold OkS; rfl
theorem k_bk : OkS (.bk s h) G = G.bk s h := by unfold OkS; rfl
theorem k_ct : OkS (.ct s h) G = G.ct s h := by unfold OkS; rfl
theorem k_ex {x : Xn} : OkS (.ex x s h) G = False := by unfold OkS; rfl
theorem k_no : OkS .no G = False := by unfold OkS; rfl
theorem w_ex {α : Type} {x : Xn} {h : Hh} {Q : α → Hh → Prop} : Ok (.ex x h : Oc α) Q = False := by unfold Ok; rfl
theorem w_no {α : Type} {Q : α → Hh → Prop} : Ok (.no : Oc α) Q = False := by unfold Ok; rfl
variable {P : D → Hh → Prop} {PA : List D → Hh → Prop} {PT : Bool → Hh → Prop} {i j l : Nat} {op op' : Hh → D → D → Option D} {b : BF}
theorem w_V : Ok (fV i s h) P = ∃ d, s[i]? = some (some d) ∧ P d h := by
  unfold fV
  cases q : s[i]? with
  | none => simp [Ok]
  | some o => cases o <;> simp [Ok]
theorem w_C : Ok (fC d s h) P = P d h := by unfold Ok; rfl
theorem w_N : Ok (fN s h) PA = PA [] h := by unfold Ok; rfl
theorem w_Co : Ok (fCo fa fs s h) PA = Ok (fa s h) fun d h1 => Ok (fs s h1) fun ds h2 => PA (d :: ds) h2 := by
  unfold fCo
  simp only [w_bind, w_ok]
theorem w_op : Ok (fOp op fa fb s h) P = Ok (fa s h) fun x h1 => Ok (fb s h1) fun y h2 => ∃ d, op h2 x y = some d ∧ P d h2 := by
  unfold fOp
  simp only [w_bind, w_ofO]
theorem w_B : Ok (fB fa s h) PT = Ok (fa s h) fun d h1 => ∃ c, d = .bl c ∧ PT c h1 := by
  unfold fB
  simp only [w_bind, w_ofO]
  congr 1
  funext d h1
  cases d <;> simp [blD]
theorem w_CB : Ok (fCB b fs s h) P = Ok (fs s h) fun ds h1 => ∃ d h2, b ds h1 = some (d, h2) ∧ P d h2 := by
  unfold fCB
  simp only [w_bind]
  congr 1
  funext ds h1
  cases b ds h1 with
  | none => simp [ofP, Ok]
  | some z =>
    obtain ⟨d2, h2⟩ := z
    rw [ofP_some, w_ok]
    exact propext ⟨fun z => ⟨d2, h2, rfl, z⟩, fun ⟨a, b, e, z⟩ => by cases e; exact z⟩
theorem w_call {F : List D → Hh → Oc D} : Ok (fCall F fs s h) P = Ok (fs s h) fun ds h1 => Ok (F ds h1) P := by
  unfold fCall
  exact w_bind
theorem w_tup : Ok (fTup fs s h) P = Ok (fs s h) fun ds h1 => line ds.length = true ∧ P (.tup ds) h1 := by
  unfold fTup
  simp only [w_bind]
  congr 1
  funext ds h1
  cases line ds.length <;> simp [Ok]
theorem w_lst : Ok (fLst fs s h) P = Ok (fs s h) fun ds h1 => line ds.length = true ∧ P (.lst ds) h1 := by
  unfold fLst
  simp only [w_bind]
  congr 1
  funext ds h1
  cases line ds.length <;> simp [Ok]
theorem w_lstN : Ok (fLstN fs s h) P = Ok (fs s h) fun ds h1 => line ds.length = true ∧ P (.ref h1.length) (h1 ++ [.lst ds]) := by
  unfold fLstN
  simp only [w_bind]
  congr 1
  funext ds h1
  cases line ds.length <;> simp [Ok]
theorem w_if : Ok (fIf ft fa fb s h) P = Ok (ft s h) fun c h1 => if c = true then Ok (fa s h1) P else Ok (fb s h1) P := by
  unfold fIf
  simp only [w_bind]
  congr 1
  funext c h1
  cases c <;> simp [w_ok]
theorem w_not : Ok (fNot ft s h) PT = Ok (ft s h) fun c h1 => PT (!c) h1 := by
  unfold fNot
  simp only [w_bind, w_ok]
theorem w_and : Ok (fAnd ft fu s h) PT = Ok (ft s h) fun c h1 => if c = true then Ok (fu s h1) PT else PT false h1 := by
  unfold fAnd
  simp only [w_bind]
  congr 1
  funext c h1
  cases c <;> simp [w_ok]
theorem w_or : Ok (fOr ft fu s h) PT = Ok (ft s h) fun c h1 => if c = true then PT true h1 else Ok (fu s h1) PT := by
  unfold fOr
  simp only [w_bind]
  congr 1
  funext c h1
  cases c <;> simp [w_ok]
theorem w_tru : Ok (fTru fa s h) PT = Ok (fa s h) fun d h1 => ∃ c, truD h1 d = some c ∧ PT c h1 := by
  unfold fTru
  simp only [w_bind, w_ofO]
theorem w_pop : Ok (fPop fo s h) P = Ok (fo s h) fun d h1 => ∃ n l e, d = .ref n ∧ h1[n]? = some (.lst l) ∧ l[l.length - 1]? = some e ∧ P e (h1.set n (.lst l.dropLast)) := by
  unfold fPop
  simp only [w_bind]
  congr 1
  funext d h1
  cases d with
  | ref n =>
    cases q : h1[n]? with
    | none => simp [Ok, q]
    | some ob =>
      cases ob with
      | lst l =>
        cases q2 : l[l.length - 1]? with
        | none => simp [Ok, q, q2]
        | some e => simp [Ok, q, q2]
      | _ => simp [Ok, q]
  | _ => simp [Ok]
theorem w_app0 {P : D → Hh → Prop} {e : D} {h2 : Hh} {n : Nat} : Ok (match h2[n]? with
    | some (O.lst l) => if line l.length = true then Oc.ok D.non (h2.set n (O.lst (l ++ [e]))) else Oc.no
    | _ => Oc.no) P = ∃ l : List D, h2[n]? = some (O.lst l) ∧ line l.length = true ∧ P D.non (h2.set n (O.lst (l ++ [e]))) := by
  cases q2 : h2[n]? with
  | none => simp [Ok]
  | some ob2 =>
    cases ob2 with
    | lst l => cases ln : line l.length <;> simp [Ok, ln]
    | _ => simp [Ok]
theorem w_app : Ok (fApp fo fe s h) P = Ok (fo s h) fun d h1 => ∃ n l0, d = D.ref n ∧ h1[n]? = some (O.lst l0) ∧ Ok (fe s h1) fun e h2 => ∃ l : List D, h2[n]? = some (O.lst l) ∧ line l.length = true ∧ P D.non (h2.set n (O.lst (l ++ [e]))) := by
  unfold fApp
  simp only [w_bind]
  congr 1
  funext d h1
  cases d with
  | ref n =>
    cases q : h1[n]? with
    | none => simp [Ok, q]
    | some ob =>
      cases ob with
      | lst l0 =>
        simp only [q, w_bind]
        exact propext ⟨fun z => ⟨n, l0, rfl, q, z.mono fun e h2 y => w_app0.mp y⟩, fun ⟨n', l', e1, e2, z⟩ => by cases e1; exact z.mono fun e h2 y => w_app0.mpr y⟩
      | _ => simp [Ok, q]
  | _ => simp [Ok]
theorem s_seq : OkS (gSeq g g' s h) G = OkS (g s h) { G with nx := fun s h => OkS (g' s h) G } := by
  unfold gSeq
  cases g s h <;> simp [k_nx, k_rt, k_bk, k_ct, k_ex, k_no]
theorem s_nx : OkS (gNx s h) G = G.nx s h := by unfold OkS; rfl
theorem s_set : OkS (gSet i fa s h) G = Ok (fa s h) fun d h1 => G.nx (s.set i (some d)) h1 := by
  unfold gSet
  simp only [w_toS, k_nx]
theorem s_par : OkS (gPar i j fa fb s h) G = Ok (fa s h) fun d h1 => Ok (fb s h1) fun e h2 => G.nx ((s.set i (some d)).set j (some e)) h2 := by
  unfold gPar
  simp only [w_toS, k_nx]
theorem s_rt : OkS (gRt fa s h) G = Ok (fa s h) fun d h1 => G.rt d h1 := by
  unfold gRt
  simp only [w_toS, k_rt]
theorem s_rtN : OkS (gRtN s h) G = G.rt .non h := by unfold OkS; rfl
theorem s_ex : OkS (gEx fa s h) G = Ok (fa s h) fun _ h1 => G.nx s h1 := by
  unfold gEx
  simp only [w_toS, k_nx]
theorem s_if : OkS (gIf ft g g' s h) G = Ok (ft s h) fun c h1 => if c = true then OkS (g s h1) G else OkS (g' s h1) G := by
  unfold gIf
  rw [w_toS]
  congr 1
  funext c h1
  cases c <;> simp [w_ok]
theorem s_asg {fg : FG} : OkS (gAsg fa fg s h) G = Ok (fa s h) fun d h1 => Ok (fg d s h1) fun s' h2 => G.nx s' h2 := by
  unfold gAsg
  simp only [w_toS, k_nx]
theorem w_sub {T : S → Hh → Prop} : Ok (gSub fo fe d s h) T = Ok (fo s h) fun o h1 => Ok (fe s h1) fun i h2 => ∃ h3, opSet h2 o i d = some h3 ∧ T s h3 := by
  unfold gSub
  simp only [w_bind]
  congr 1
  funext o h1
  congr 1
  funext i h2
  cases opSet h2 o i d <;> simp [Ok]
theorem w_gN {T : S → Hh → Prop} : Ok (gN i d s h) T = T (s.set i (some d)) h := by unfold gN; rw [w_ok]
theorem w_callB {N : List Str} {n : Nat} {pm : List D → List D} {ds : List D} : Ok (callB N n pm g ds h) P = (ds.length = n ∧ OkS (g (startD N (pm ds)) h) { nx := fun _ h => P .non h, rt := P }) := by
  unfold callB
  by_cases hn : ds.length = n
  · rw [if_pos hn]
    cases g (startD N (pm ds)) h <;> simp [Os.fin, Ok, OkS, hn]
  · rw [if_neg hn]
    simp [Ok, hn]
/-! ### loops -/
theorem s_for {fi : FI} {fg : FG} (I : Nat → S → Hh → Prop) (x : Ok (fi s h) fun wk h1 => I 0 s h1 ∧ (∀ i s h, i < wk.n → I i s h → ∃ d, wk.at_ h i = some d ∧ Ok (fg d s h) fun s1 h1 => OkS (g s1 h1) { nx := I (i + 1), ct := I (i + 1), bk := G.nx, rt := G.rt }) ∧ ∀ s h, I wk.n s h → wk.fin h = true ∧ G.nx s h) : OkS (gFor fi fg g s h) G := by
  unfold gFor
  rw [w_toS]
  refine x.mono fun wk h1 ⟨i0, turn, fin⟩ => ?_
  have go : ∀ m i s h, i + m = wk.n → I i s h → OkS (gLoop wk fg g m i s h) G := by
    intro m
    induction m with
    | zero =>
      intro i s h e hI
      have ei : i = wk.n := e
      subst ei
      unfold gLoop
      obtain ⟨f1, f2⟩ := fin s h hI
      rw [f1, if_pos rfl, k_nx]
      exact f2
    | succ m ih =>
      intro i s h e hI
      obtain ⟨d, e1, e2⟩ := turn i s h (by omega) hI
      unfold gLoop
      rw [e1]
      dsimp only
      rw [w_toS]
      refine e2.mono fun s1 h1 z => ?_
      cases q : g s1 h1 with
      | nx s2 h2 => rw [q, k_nx] at z; exact ih (i + 1) s2 h2 (by omega) z
      | ct s2 h2 => rw [q, k_ct] at z; exact ih (i + 1) s2 h2 (by omega) z
      | bk s2 h2 => rw [q, k_bk] at z; dsimp only; rw [k_nx]; exact z
      | rt d2 h2 => rw [q, k_rt] at z; dsimp only; rw [k_rt]; exact z
      | ex y s2 h2 => rw [q, k_ex] at z; exact z.elim
      | no => rw [q, k_no] at z; exact z.elim
  exact go wk.n 0 s h1 (by omega) i0
theorem s_while (m : Nat) (hm : m < FUEL) (I : Nat → S → Hh → Prop) (i0 : I m s h) (turn : ∀ n s h, n ≤ m → I n s h → Ok (ft s h) fun c h1 => if c = true then OkS (g s h1) { nx := fun s h => ∃ k, k < n ∧ I k s h, ct := fun s h => ∃ k, k < n ∧ I k s h, bk := G.nx, rt := G.rt } else G.nx s h1) : OkS (gWhile ft g s h) G := by
  unfold gWhile
  have go : ∀ f n s h, n < f → n ≤ m → I n s h → OkS (gWh ft g f s h) G := by
    intro f
    induction f with
    | zero => intro n s h hn; omega
    | succ f ih =>
      intro n s h hn hm hI
      unfold gWh
      rw [w_toS]
      refine (turn n s h hm hI).mono fun c h1 z => ?_
      cases c with
      | false =>
        rw [if_neg Bool.false_ne_true] at z ⊢
        rw [k_nx]
        exact z
      | true =>
        rw [if_pos rfl] at z ⊢
        cases q : g s h1 with
        | nx s2 h2 => rw [q, k_nx] at z; obtain ⟨k, k1, k2⟩ := z; exact ih k s2 h2 (by omega) (by omega) k2
        | ct s2 h2 => rw [q, k_ct] at z; obtain ⟨k, k1, k2⟩ := z; exact ih k s2 h2 (by omega) (by omega) k2
        | bk s2 h2 => rw [q, k_bk] at z; dsimp only; rw [k_nx]; exact z
        | rt d2 h2 => rw [q, k_rt] at z; dsimp only; rw [k_rt]; exact z
        | ex y s2 h2 => rw [q, k_ex] at z; exact z.elim
        | no => rw [q, k_no] at z; exact z.elim
  exact go FUEL m s h hm (Nat.le_refl _) i0
/-- [fe for .. in ..] with an invariant of what is told so far -/
theorem w_lcL {fi : FI} {fg : FG} {own : List Nat} {T : List D → Hh → Prop} (I : Nat → List D → Hh → Prop)
    (x : Ok (fi s h) fun wk h1 => I 0 [] h1 ∧ (∀ i acc h, i < wk.n → I i acc h → line acc.length = true ∧ ∃ d, wk.at_ h i = some d ∧ Ok (fg d (wipeD s own) h) fun s1 h1 => Ok (ft s1 h1) fun c h2 => if c = true then Ok (fe s1 h2) fun e h3 => I (i + 1) (acc ++ [e]) h3 else I (i + 1) acc h2) ∧ ∀ acc h, I wk.n acc h → wk.fin h = true ∧ T acc h) : Ok (fLcL fi fg ft fe own s h) T := by
  unfold fLcL
  rw [w_bind]
  refine x.mono fun wk h1 ⟨i0, turn, fin⟩ => ?_
  have go : ∀ m i acc h, i + m = wk.n → I i acc h → Ok (lcLoop wk fg ft fe (wipeD s own) m i acc h) T := by
    intro m
    induction m with
    | zero =>
      intro i acc h e hI
      have ei : i = wk.n := e
      subst ei
      unfold lcLoop
      obtain ⟨f1, f2⟩ := fin acc h hI
      rw [f1, if_pos rfl, w_ok]
      exact f2
    | succ m ih =>
      intro i acc h e hI
      obtain ⟨ln, d, e1, e2⟩ := turn i acc h (by omega) hI
      unfold lcLoop
      rw [e1]
      dsimp only
      cases q1 : fg d (wipeD s own) h with
      | ok s1 h1 =>
        rw [q1] at e2
        simp only [Oc.bindN_ok]
        simp only [w_ok] at e2
        cases q2 : ft s1 h1 with
        | ok c h2 =>
          rw [q2] at e2
          simp only [Oc.bindN_ok]
          simp only [w_ok] at e2
          cases c with
          | false => exact ih (i + 1) acc h2 (by omega) (by simpa using e2)
          | true =>
            simp only [if_true] at e2 ⊢
            cases q3 : fe s1 h2 with
            | ok v h3 =>
              rw [q3, w_ok] at e2
              simp only [Oc.bindN_ok, ln, if_true]
              exact ih (i + 1) _ h3 (by omega) e2
            | ex y h3 => rw [q3, w_ex] at e2; exact e2.elim
            | no => rw [q3, w_no] at e2; exact e2.elim
        | ex y h2 => rw [q2, w_ex] at e2; exact e2.elim
        | no => rw [q2, w_no] at e2; exact e2.elim
      | ex y h1 => rw [q1, w_ex] at e2; exact e2.elim
      | no => rw [q1, w_no] at e2; exact e2.elim
  exact go wk.n 0 [] h1 (by omega) i0
theorem w_lc {fi : FI} {fg : FG} {own : List Nat} : Ok (fLc fi fg ft fe own s h) P = Ok (fLcL fi fg ft fe own s h) fun l h1 => P (.lst l) h1 := by
  unfold fLc
  rw [w_bind]
  simp only [w_ok]
theorem w_lcN {fi : FI} {fg : FG} {own : List Nat} : Ok (fLcN fi fg ft fe own s h) P = Ok (fLcL fi fg ft fe own s h) fun l h1 => P (.ref h1.length) (h1 ++ [.lst l]) := by
  unfold fLcN
  rw [w_bind]
  simp only [w_ok]
end
end Lg
set_option Elab.async false
set_option linter.all false
set_option maxRecDepth 100000
set_option maxHeartbeats 1000000
namespace Lg
open PySem PySem.Spec PyProof.Rows L2
/-! ### data -/
def Fine (k : Nat) (d : PyData) : Prop := d.canLay0 = true ∧ d.depth ≤ k
theorem fineAll {k : Nat} : ∀ {ds : List PyData}, (∀ d ∈ ds, Fine k d) → PyData.canLayAll0 ds = true ∧ PyData.depthAll ds ≤ k
  | [], _ => ⟨rfl, Nat.zero_le _⟩
  | d :: ds, h => by
    obtain ⟨a, b⟩ := h d (by simp)
    obtain ⟨a', b'⟩ := fineAll (k := k) (ds := ds) fun e he => h e (by simp [he])
    refine ⟨?_, ?_⟩
    · simp only [PyData.canLayAll0, a, a', Bool.and_self]
    · simp only [PyData.depthAll]
      omega
theorem Fine.lst {k : Nat} {ds : List PyData} (h : ∀ d ∈ ds, Fine k d) : Fine (k + 1) (.list ds) := by
  obtain ⟨a, b⟩ := fineAll h
  refine ⟨?_, ?_⟩
  · simp only [PyData.canLay0, a]
  · simp only [PyData.depth]
    omega
theorem Fine.tup {k : Nat} {ds : List PyData} (h : ∀ d ∈ ds, Fine k d) : Fine (k + 1) (.tuple ds) := by
  obtain ⟨a, b⟩ := fineAll h
  refine ⟨?_, ?_⟩
  · simp only [PyData.canLay0, a]
  · simp only [PyData.depth]
    omega
theorem Fine.int {k : Nat} (i : Int) : Fine k (.int i) := ⟨rfl, Nat.zero_le _⟩
theorem Fine.non {k : Nat} : Fine k .none := ⟨rfl, Nat.zero_le _⟩
theorem Fine.str {k : Nat} {x : Str} (h : PyData.strOk x = true) : Fine k (.str x) := ⟨by simp only [PyData.canLay0, h], Nat.zero_le _⟩
theorem Fine.mono {j k : Nat} {d : PyData} (h : Fine j d) (l : j ≤ k) : Fine k d := ⟨h.1, Nat.le_trans h.2 l⟩
theorem Fine.shaped {k : Nat} {d : PyData} (h : Fine k d) (l : k ≤ 64) : SeqAt.shaped d = true := by
  unfold SeqAt.shaped
  rw [h.1, decide_eq_true (Nat.le_trans h.2 l)]
  rfl
theorem py_map {α : Type} {h : Hh} {n : Nat} {f : α → D} {g : α → PyData} (e : ∀ a, py h n (f a) = some (g a)) : ∀ l : List α, (l.map f).mapM (py h n) = some (l.map g)
  | [] => rfl
  | a :: l => by
    rw [List.map_cons, List.mapM_cons, py_map e l, e a]
    rfl
theorem eqP_of {h : Hh} {x y : D} {p q : PyData} (e1 : py h 66 x = some p) (e2 : py h 66 y = some q) (f1 : SeqAt.shaped p = true) (f2 : SeqAt.shaped q = true) : eqP h x y = some (PyData.eqv p q) := by
  unfold eqP
  rw [e1, e2]
  simp [f1, f2]
theorem fine_ints (cs : List Int) : Fine 1 (.list (cs.map PyData.int)) := Fine.lst (k := 0) fun d hd => by
  obtain ⟨i, _, rfl⟩ := List.mem_map.mp hd
  exact Fine.int i
/-- is a list of ints none? -/
theorem ne_nil {h : Hh} {m : Nat} {cs : List Int} (e : h[m]? = some (.lst (cs.map D.int))) : opNe h (.ref m) (.lst []) = some (.bl (!cs.isEmpty)) := by
  have e1 : py h 66 (.ref m) = some (.list (cs.map PyData.int)) := by
    show (match h[m]? with
      | some (.lst l) => (l.mapM (py h 65)).map PyData.list
      | _ => none) = _
    rw [e]
    dsimp only
    rw [py_map (g := PyData.int) (fun _ => rfl)]
    rfl
  unfold opNe
  rw [eqP_of e1 (rfl : py h 66 (.lst []) = some (.list [])) ((fine_ints cs).shaped (by decide)) (by decide +kernel)]
  have z : PyData.eqv (.list (cs.map PyData.int)) (.list []) = cs.isEmpty := by
    cases cs <;> simp [PyData.eqv, PyData.eqvAll]
  simp [z]
theorem opIx_ref {h : Hh} {n : Nat} {l : List D} {i : Int} {x : D} (e : h[n]? = some (.lst l)) (a : atI l i = some x) : opIx h (.ref n) (.int i) = some x := by
  simp [opIx, asD, asS, asL, e, atD, a]
theorem opSet_ref {h : Hh} {n j : Nat} {l : List D} {i : Int} {v : D} (e : h[n]? = some (.lst l)) (a : ixN l.length i = some j) : opSet h (.ref n) (.int i) v = some (h.set n (.lst (l.set j v))) := by
  simp [opSet, e, a]
theorem s_det {g g' : FS} {s s1 : S} {h h1 : Hh} {G : Gs} (x : OkS (g s h) { G with nx := fun s' h' => s' = s1 ∧ h' = h1 }) (k : OkS (g' s1 h1) G) : OkS (gSeq g g' s h) G := by
  rw [s_seq]
  exact x.mono (fun s' h' ⟨e1, e2⟩ => by subst e1 e2; exact k) (fun _ _ z => z) (fun _ _ z => z) fun _ _ z => z
theorem s_cut {g g' : FS} {s : S} {h : Hh} {G : Gs} (M : S → Hh → Prop) (x : OkS (g s h) { G with nx := M }) (k : ∀ s' h', M s' h' → OkS (g' s' h') G) : OkS (gSeq g g' s h) G := by
  rw [s_seq]
  exact x.mono k (fun _ _ z => z) (fun _ _ z => z) fun _ _ z => z
theorem gMul_l {h : Hh} {i j : Int} (a : sml i = true) : Lg.opI gMul h (.int i) (.int j) = some (.int (i * j)) := by simp [Lg.opI, gMul, a]
theorem gMul_r {h : Hh} {i j : Int} (a : sml j = true) : Lg.opI gMul h (.int i) (.int j) = some (.int (i * j)) := by simp [Lg.opI, gMul, a]
theorem gMod_p {h : Hh} {i j : Int} (a : 0 < j) : Lg.opI gMod h (.int i) (.int j) = some (.int (i % j)) := by simp [Lg.opI, gMod, a]
theorem gDiv_p {h : Hh} {i j : Int} (a : 0 < j ∧ j < 1073741824) : Lg.opI gDiv h (.int i) (.int j) = some (.int (i / j)) := by simp [Lg.opI, gDiv, a]
theorem sml_of {i : Int} (a : -18446744073709551616 < i) (b : i < 18446744073709551616) : sml i = true := decide_eq_true ⟨a, b⟩
/-- a tuple or a list that does not change -/
def SeqD (x : D) (l : List D) : Prop := x = .tup l ∨ x = .lst l ∨ x = .frz l ∨ x = .frt l
theorem SeqD.asS {x : D} {l : List D} {h : Hh} (e : SeqD x l) : asS h x = some l := by
  rcases e with rfl | rfl | rfl | rfl <;> rfl
theorem SeqD.len {x : D} {l : List D} {h : Hh} (e : SeqD x l) : bLen [x] h = some (.int l.length, h) := by
  rcases e with rfl | rfl | rfl | rfl <;> rfl
theorem SeqD.ix {x d : D} {l : List D} {h : Hh} {i : Int} (e : SeqD x l) (a : atI l i = some d) : opIx h x (.int i) = some d := by
  have z := e.asS (h := h)
  rcases e with rfl | rfl | rfl | rfl
  · simpa [opIx, asD, z, atD] using a
  · simpa [opIx, asD, z, atD] using a
  · simpa [opIx, asD, z, atD] using a
  · simpa [opIx, asD, z, atD] using a
theorem SeqD.walk {x : D} {l : List D} {h : Hh} (e : SeqD x l) : walkD h x = some (wkL l) := by
  rcases e with rfl | rfl | rfl | rfl <;> rfl
theorem atI_nat {α : Type} {l : List α} {r : Int} (a : 0 ≤ r) (b : r < l.length) : ∃ d, atI l r = some d ∧ l[r.toNat]? = some d := by
  have hl : r.toNat < l.length := by omega
  refine ⟨l[r.toNat], ?_, List.getElem?_eq_getElem hl⟩
  unfold atI ixN
  rw [if_pos a, if_pos b]
  exact List.getElem?_eq_getElem hl
section
variable {s : S} {h : Hh} {G : Gs} {fa fb : FE} {fg : FG} {g : FS} {P : D → Hh → Prop}
theorem s_forL {l : List D} (I : Nat → S → Hh → Prop) (x : Ok (fa s h) fun d h1 => SeqD d l ∧ I 0 s h1) (turn : ∀ (i : Nat) d s h, l[i]? = some d → I i s h → Ok (fg d s h) fun s1 h1 => OkS (g s1 h1) { nx := I (i + 1), ct := I (i + 1), bk := G.nx, rt := G.rt }) (fin : ∀ s h, I l.length s h → G.nx s h) : OkS (gFor (fWalk fa) fg g s h) G := by
  refine s_for I ?_
  unfold fWalk
  rw [w_bind]
  refine x.mono fun d h1 ⟨e, i0⟩ => ?_
  rw [w_ofO]
  refine ⟨wkL l, e.walk, i0, fun i s h hi hI => ?_, fun s h hI => ⟨rfl, fin s h hI⟩⟩
  have hi : i < l.length := hi
  exact ⟨l[i], List.getElem?_eq_getElem hi, turn i _ s h (List.getElem?_eq_getElem hi) hI⟩
theorem s_forR (m : Nat) (I : Nat → S → Hh → Prop) (x : Ok (fa s h) fun d h1 => (∃ k : Int, d = .int k ∧ k < 4000000000000000000 ∧ -4000000000000000000 ≤ k ∧ k.toNat = m) ∧ I 0 s h1) (turn : ∀ (i : Nat) s h, i < m → I i s h → Ok (fg (.int i) s h) fun s1 h1 => OkS (g s1 h1) { nx := I (i + 1), ct := I (i + 1), bk := G.nx, rt := G.rt }) (fin : ∀ s h, I m s h → G.nx s h) : OkS (gFor (fRng1 fa) fg g s h) G := by
  refine s_for I ?_
  unfold fRng1
  rw [w_bind]
  refine x.mono fun d h1 ⟨⟨k, e, k1, k2, k3⟩, i0⟩ => ?_
  subst e k3
  have ok : rngOk k = true := decide_eq_true ⟨by omega, by omega⟩
  dsimp only
  rw [ok, if_pos rfl, w_ok]
  refine ⟨i0, fun i s h hi hI => ?_, fun s h hI => ⟨rfl, fin s h hI⟩⟩
  have hi : i < k.toNat := hi
  refine ⟨.int (0 + i), ?_, by rw [Int.zero_add]; exact turn i s h hi hI⟩
  show (if i < k.toNat then some (D.int (0 + i)) else none) = _
  rw [if_pos hi]
theorem s_par3 {fc : FE} {i j k : Nat} : OkS (gPar3 i j k fa fb fc s h) G = Ok (fa s h) fun d h1 => Ok (fb s h1) fun e h2 => Ok (fc s h2) fun f h3 => G.nx (((s.set i (some d)).set j (some e)).set k (some f)) h3 := by
  unfold gPar3
  simp only [w_toS, k_nx]
theorem w_rng {T : Wk → Hh → Prop} : Ok (fRng1 fa s h) T = Ok (fa s h) fun d h1 => ∃ k, d = .int k ∧ rngOk k = true ∧ T (wkI 0 k.toNat) h1 := by
  unfold fRng1
  rw [w_bind]
  congr 1
  funext d h1
  cases d with
  | int k => cases q : rngOk k <;> simp [Ok, q]
  | _ => simp [Ok]
theorem w_sl {fl fu : FO} : Ok (fSl fa fl fu s h) P = Ok (fa s h) fun x h1 => Ok (fl s h1) fun lo h2 => Ok (fu s h2) fun hi h3 => ∃ d, opSl h3 x lo hi = some d ∧ P d h3 := by
  unfold fSl
  simp only [w_bind, w_ofO]
theorem w_O0 {T : Option Int → Hh → Prop} : Ok (fO0 s h) T = T none h := by unfold fO0; rw [w_ok]
theorem w_O {T : Option Int → Hh → Prop} : Ok (fO fa s h) T = Ok (fa s h) fun d h1 => ∃ i, d = .int i ∧ T (some i) h1 := by
  unfold fO
  simp only [w_bind, w_ofO, w_ok]
  congr 1
  funext d h1
  cases d <;> simp [intD]
theorem w_revN : Ok (fRevN fa s h) P = Ok (fa s h) fun d h1 => ∃ l, asF h1 d = some l ∧ P (.ref h1.length) (h1 ++ [.lst l.reverse]) := by
  unfold fRevN
  simp only [w_bind]
  congr 1
  funext d h1
  cases q : asF h1 d <;> simp [Ok]
theorem w_popAt (k : Ok (fa s h) fun d h1 => ∃ n l0, d = .ref n ∧ h1[n]? = some (.lst l0) ∧ Ok (fb s h1) fun e h2 => ∃ i l j v, e = D.int i ∧ h2[n]? = some (.lst l) ∧ popIx i l.length = some j ∧ l[j]? = some v ∧ P v (h2.set n (.lst (l.eraseIdx j)))) : Ok (fPopAt fa fb s h) P := by
  unfold fPopAt
  rw [w_bind]
  refine k.mono fun d h1 ⟨n, l0, e1, e2, z⟩ => ?_
  subst e1
  dsimp only
  rw [e2]
  dsimp only
  rw [w_bind]
  refine z.mono fun e h2 ⟨i, l, j, v, e3, e4, e5, e6, z⟩ => ?_
  subst e3
  rw [e4]
  dsimp only
  rw [e5]
  dsimp only
  rw [e6]
  dsimp only
  rw [w_ok]
  exact z
theorem popIx_nat {r : Int} {n : Nat} (a : 0 ≤ r) (b : r < n) (c : n < 1000000) : popIx r n = some r.toNat := by
  unfold popIx seqIndex?
  rw [if_pos ⟨by omega, by omega⟩]
  first | (simp; omega) | (split <;> simp <;> omega)
end
end Lg
set_option Elab.async false
set_option linter.all false
set_option maxRecDepth 100000
/-! == and != of texts of any kind -/
namespace Lg
open PySem PySem.Spec PyProof.Rows L2
def opNeR (h : Hh) (x y : D) : Option D := match x, y with
  | .str a, .str b => some (.bl (!decide (a = b)))
  | x, y => opNe h x y
def opEqR (h : Hh) (x y : D) : Option D := match x, y with
  | .str a, .str b => some (.bl (decide (a = b)))
  | x, y => opEq h x y
section
variable {X : Cx}
theorem re_strV {K : PySem.W.Frag} {ι : Ix} {H : Hp} {a : Str} {v : V} (r : Re K ι H (.str a) v) : v = .str a := by cases r; rfl
theorem o_neR (hu : X.A.units + 64 < cLine) : OpR X (compareOp .NotEq) (rD X opNeR) := by
  intro pins s σ H x y v u Q I rx ry ⟨ι, h, dx, dy, d, hx, r1, r2, e, q⟩
  have old : opNe h dx dy = some d → wpAny (model X.prog X.w) X.A (compareOp .NotEq v u) (EP X pins σ Q) X.xe s := fun e => o_ne hu pins s σ H x y v u Q I rx ry ⟨ι, h, dx, dy, d, hx, r1, r2, e, q⟩
  cases dx with
  | str a =>
    cases dy with
    | str b =>
      have e : some (D.bl (!decide (a = b))) = some d := e
      cases e
      obtain rfl := re_strV r1
      obtain rfl := re_strV r2
      refine L2.op_ne pins s σ H (.str a) (.str b) v u Q I rx ry ?_
      refine ⟨rfl, ?_⟩
      have z : (decide ((V.str a) = .str b)) = decide (a = b) := by
        by_cases c : a = b
        · simp [c]
        · simp [c]
      rw [z]
      exact q _ _ Step.refl hx (.bl _)
    | _ => exact old e
  | _ => exact old e
theorem o_eqR (hu : X.A.units + 64 < cLine) : OpR X (compareOp .Eq) (rD X opEqR) := by
  intro pins s σ H x y v u Q I rx ry ⟨ι, h, dx, dy, d, hx, r1, r2, e, q⟩
  have old : opEq h dx dy = some d → wpAny (model X.prog X.w) X.A (compareOp .Eq v u) (EP X pins σ Q) X.xe s := fun e => o_eq hu pins s σ H x y v u Q I rx ry ⟨ι, h, dx, dy, d, hx, r1, r2, e, q⟩
  cases dx with
  | str a =>
    cases dy with
    | str b =>
      have e : some (D.bl (decide (a = b))) = some d := e
      cases e
      obtain rfl := re_strV r1
      obtain rfl := re_strV r2
      refine L2.op_eq pins s σ H (.str a) (.str b) v u Q I rx ry ?_
      refine ⟨rfl, ?_⟩
      have z : (decide ((V.str a) = .str b)) = decide (a = b) := by
        by_cases c : a = b
        · simp [c]
        · simp [c]
      rw [z]
      exact q _ _ Step.refl hx (.bl _)
    | _ => exact old e
  | _ => exact old e
end
end Lg
set_option Elab.async false
set_option linter.all false
set_option maxRecDepth 100000
set_option maxHeartbeats 1000000
/-! the law's call and its walk -/
namespace Lg
open PySem PySem.Spec PyProof.Rows L2
/-- the script's list, locked -/
def scriptH (a : Addr) (vs : List Value) (ns : List Int) : Hp := fun b => if b = a then some (.frz { cls := .type "list", data := .seq vs.toArray } (.lst (ns.map V.int))) else none
theorem res_ints {K : PySem.W.Frag} {ι : Ix} {H : Hp} : ∀ ns : List Int, Res K ι H (ns.map D.int) (ns.map V.int)
  | [] => .nil
  | n :: ns => .cons (.int n) (res_ints ns)
theorem law_callD {P : Program} {w : World} {K : PySem.W.Frag} {mg mb : Str → Option Value} {k : Nat} {fa a : Addr} {F : List D → Hh → Oc D} {s₁ : Shared} {vs : List Value} {ns : List Int}
    (KX : K.In s₁.heap) (hns : s₁.heap.Ns mainGlobals mg) (hb : s₁.heap.Ns builtinsNs mb) (hbb : ∀ x : Str, x ≠ "__name__" → mb x = bootBuiltins x) (hlim : s₁.heap.NoLimit) (hg : s₁.gens = #[])
    (ha : s₁.heap.get? a = some { cls := .type "list", data := .seq vs.toArray }) (hi : IntsAre vs ns) (hl : ns.length ≤ sizeLine) (hr : Room k callerA)
    (FD : ∀ base : Heap, K.In base → base.Ns mainGlobals mg → FnD P w K mg base k fa [] F)
    (hF : Ok (F [.frz (ns.map D.int)] []) fun d _ => d = .bl true) :
    codeAny (model P w) callerA (.call (.ref fa) ⟨[.ref a], []⟩) (fun r s' => r = .ok (.ret (.bool true)) ∧ OldK s₁.heap s'.heap ∧ s'.os = s₁.os ∧ AllBare s'.gens) s₁ := by
  have rv := vals_ints hi
  have lenV := hi.length
  have go : ∀ H : Hp, (∀ b, H b = none ∨ b = a ∧ K.lookup a = none ∧ H b = some (.frz { cls := .type "list", data := .seq vs.toArray } (.lst (ns.map V.int)))) → SqL K H a (ns.map V.int) →
      codeAny (model P w) callerA (.call (.ref fa) ⟨[.ref a], []⟩) (fun r s' => r = .ok (.ret (.bool true)) ∧ OldK s₁.heap s'.heap ∧ s'.os = s₁.os ∧ AllBare s'.gens) s₁ := by
    intro H only hS
    have hok : HOk P w H s₁.heap := fun b u e => by
      rcases only b with z | ⟨rfl, _, z⟩
      · rw [z] at e
        cases e
      · rw [z] at e
        cases e
        exact ⟨ha, by rw [List.length_map]; exact hl, vs, _, rv, ha⟩
    have free : ∀ {b : Addr} {o : Obj}, s₁.heap.get? b = some o → (∀ n, o.data ≠ .seq vs.toArray n) → H b = none := fun {b o} e d => by
      rcases only b with z | ⟨rfl, _, _⟩
      · exact z
      · rw [ha] at e
        cases e
        exact (d _ rfl).elim
    have hidNs : ∀ {b : Addr} {m : Str → Option Value}, s₁.heap.Ns b m → (hidT s₁.heap H).Ns b m := fun {b m} ⟨o, es, ep, e, d, r⟩ =>
      ⟨o, es, ep, hidT_get e (free e fun n z => by rw [show o.data = _ from d] at z; cases z), d, r⟩
    have hidK : K.In (hidT s₁.heap H) := fun b o e => hidT_get (KX b o e) (by
      rcases only b with z | ⟨rfl, z, _⟩
      · exact z
      · rw [z] at e
        cases e)
    have hM : Mod K mg (hidT s₁.heap H) := ⟨hidK, hidNs hns, ⟨mb, hidNs hb, hbb⟩, let ⟨mc, h1, h2⟩ := hlim; ⟨mc, hidNs h1, h2⟩⟩
    have e0 : Env0 P w K mg (hidT s₁.heap H) callerA [] s₁ H := ⟨rfl, hM, fun b o e => of_hidT e, Nat.le_of_eq (hidT_size _ _), trivial, fun b z => absurd (show b ∈ ([] : List Addr) from z) (by simp), hok, .of_eq hg⟩
    have hx : HR K (clOf P w mg) ⟨[], []⟩ H [] := ⟨rfl, .nil, fun n a o e _ => by simp at e, fun a ha => by simp at ha⟩
    have hfz : FrzAt K ⟨[], []⟩ H a (ns.map V.int) := hS.imp (fun z => ⟨z, by simp [Ix.out]⟩) id
    have po : PoC P w K mg (fun _ _ _ => False) ⟨[], []⟩ H (F ([.frz (ns.map D.int)] ++ []) []) fun v _ => v = .bl true := by
      show PoC P w K mg _ _ H (F [.frz (ns.map D.int)] []) _
      cases q : F [.frz (ns.map D.int)] [] with
      | ok d h' =>
        rw [q, w_ok] at hF
        subst hF
        intro v H' ι' _ _ rv
        cases rv
        rfl
      | ex y h' => rw [q] at hF; unfold Ok at hF; exact hF.elim
      | no => rw [q] at hF; unfold Ok at hF; exact hF.elim
    refine codeAny_mono ((FD _ hidK (hidNs hns)).run (A := callerA) (outer := []) (us := [.ref a]) (ws := []) (vs := [.ref a]) (zs := []) (es := []) hr rfl e0 (.cons rfl .nil) .nil hx (.cons (.frz hfz (res_ints ns)) .nil) .nil rfl po) fun r s' z => ?_
    cases r with
    | error e =>
      obtain ⟨_, _, _, _, _, _, _, _, _, _, _, _, z⟩ := z
      exact z.elim
    | ok fl =>
      cases fl with
      | next => exact False.elim z
      | brk => exact False.elim z
      | cont => exact False.elim z
      | ret u =>
        obtain ⟨v, H', os, bare, un, hok', r', rfl⟩ := z
        obtain rfl : u = Value.bool true := r'
        refine ⟨rfl, OldK.of_keep fun b o e => ?_, os, bare⟩
        rcases only b with z | ⟨rfl, _, z⟩
        · exact un.keep b o e z (by intro y; exact absurd (show b ∈ ([] : List Addr) from y) (by simp)) (by simp)
        · obtain ⟨e2, _⟩ := hok' b _ (un.frzs b _ _ z)
          rw [ha] at e
          cases e
          exact e2
  cases hk : K.lookup a with
  | some o =>
    have e := (KX a o hk).symm.trans ha
    cases e
    exact go (fun _ => none) (fun _ => .inl rfl) (.inr ⟨_, vs.toArray, _, hk, rfl, rfl, rfl, by rw [List.size_toArray, lenV]; exact hl, by simpa using rv⟩)
  | none =>
    refine go (scriptH a vs ns) (fun b => ?_) (.inl (.inr ⟨{ cls := .type "list", data := .seq vs.toArray }, if_pos rfl⟩))
    by_cases hb : b = a
    · exact .inr ⟨hb, hk, if_pos hb⟩
    · exact .inl (if_neg hb)
theorem walkLaw {l : PySem.W.OpenLaw} {n k : Nat} {q : Program} {loose : List Str} {XP : (Str → Option Value) → Heap → Prop} {YP : World → Heap → Prop} {d : DefRec} {K : Params → PySem.W.Frag}
    (hn : l.most = some n) (hn2 : n ≤ sizeLine) (hdf : d.params.defaults = []) (hr : Room k callerA) (hY : ∀ (w : World) (h : Heap), YP w h → (K w.params).In h)
    (F : ∀ (w : World) (mg : Str → Option Value) (fa : Addr) (h : Heap), (K w.params).In h → h.Ns mainGlobals mg → mg d.name = some (.ref fa) →
      ∃ Fn, (∀ base : Heap, (K w.params).In base → base.Ns mainGlobals mg → FnD l.prog w (K w.params) mg base k fa [] Fn) ∧ ∀ (ns : List Int) (h : Hh), ns.length ≤ n → Ok (Fn [.frz (ns.map D.int)] h) fun d _ => d = .bl true) :
    PySem.W.WalkO q loose XP YP l.row.toRowW d [] (fun f vs => PySem.call f vs) := by
  refine Att.attach_call hn hdf fun w s₀ s₁ mg mb fa o pm cd doc a vs ns G Y ho hd hcd hmg hobj hints hlen hg => ?_
  have KX := hY w _ Y
  obtain ⟨Fn, hF, hL⟩ := F w mg fa _ KX G.T.g hmg
  exact law_callD KX G.T.g G.T.b G.T.builtins G.T.nolimit hg hobj hints (Nat.le_trans hlen hn2) hr hF (hL ns [] hlen)
end Lg
set_option Elab.async false
set_option linter.all false
set_option maxRecDepth 100000
set_option maxHeartbeats 4000000
/-! own errors: classes two steps below Exception whose __init__ keeps its one argument -/
namespace Lx
open PySem PySem.Spec PyProof.Rows PySem.W PySem.Calls PySem.HandSPX
section
open Builtin Builtin.ObjectAttr
variable {prog : Program} {w : World} {A : Around} {R : Result → Shared → Prop} {hp : Heap} {g : Array GenState} {dr : Drawn} {tk0 : Nat} {os : OsState}
/-- the first field of a new error, whatever its classes are, as long as none of them refuses -/
theorem first_field {K : W.Frag} {nm : Str} {tk : Tok} {v : Value} {x C : Addr} {fv : Array Value} {cd : ClassData} (X : K.In hp) (ox : hp.get? x = some { cls := .ref C, data := .fields fv }) (hcd : W.clsIn K C = some cd)
    (ob : cd.mro.contains (.type "object") = true) (em : cd.mro.isEmpty = false) (ps : refuseLoop (.ref x) "__setattr__" cd.mro = pure ()) (hd : cd.hasDict = true) (na : W.findIn K (.ref C) nm = some none)
    (q : ∀ h1 tk1 dx, (∀ b o, b ≠ x → hp.get? b = some o → h1.get? b = some o) → hp.objs.size ≤ dx → dx ≠ x → h1.get? x = some { cls := .ref C, dict := some dx, data := .fields fv } → h1.Ns1 dx (fun y => if y = nm then some v else none) → R (.ok (.ret .none)) ⟨h1, g, dr, tk1, os⟩) :
    codeAny (model prog w) A (.call (.builtin "object.__setattr__") ⟨[.ref x, .str nm tk, v], []⟩) R ⟨hp, g, dr, tk0, os⟩ := by
  have at_ : W.InstAt hp x { cls := .ref C, data := .fields fv } C none := ⟨ox, rfl, rfl, trivial⟩
  have xs : x ≠ hp.objs.size := Nat.ne_of_lt (Heap.lt_size ox)
  have slot := F.store_object
  have up : W.Looks (model prog w) hp (isInstance (.ref x) (.type "object")) true := at_.type.andThen (W.looks_mroIn X (by unfold W.mroIn; rw [hcd, Option.bind_some, if_neg (by rw [em]; decide), ob]))
  have ms : W.Looks (model prog w) hp (mroOf (.ref C)) cd.mro := (W.looks_clsIn X hcd).andThen .now
  have no : W.Looks (model prog w) hp (storeTaker? none) none := .now
  have cl : W.Looks (model prog w) hp (classData C) cd := W.looks_clsIn X hcd
  refine codeAny_call_builtin slot.slot.plain slot.entry (@W.check_slot (model prog w) _ _ ⟨hp, g, dr, tk0, os⟩ "object.__setattr__" "object" "__setattr__" (.ref x) [.str nm tk, v] [] _ slot.kind slot.split up (slot.args (.ref x) (.str nm tk) v) ?_)
  rw [W.osa_eq, refuse_eq]; refine wpAny_bind (wpAny_bind (at_.type.at (wpAny_bind (ms.at ?_)))); rw [ps]
  refine wpAny_pure (wpAny_bind (at_.type.at (wpAny_bind ((W.looks_findIn X na).at (wpAny_bind (no.at ?_)))))); show wpAny _ _ (storeInOwnDict (.ref x) (.ref C) (.str nm tk) nm v false) _ _ _
  obtain ⟨c1, c2, c3, c4, c5, c6, c7, c8, c9, c10, c11⟩ := cd
  have hd : c6 = true := hd
  subst hd; unfold storeInOwnDict ownDictForStores
  repeat (first | with_reducible refine store_in_new ?_ ?_ | with_reducible refine wpAny_loadPart_at ox ?_ | with_reducible refine cl.at ?_ | wp_step)
  · refine ⟨_, #[], _, (Heap.get?_update_ne _ _ _ _ xs.symm).trans (Heap.get?_push_at rfl rfl), rfl, fun e he => ?_, fun _ => rfl⟩; simp at he
  intro h1 tk1 n1 sm
  have ox1 : (hp.push { cls := .type "dict", data := .dict #[] }).get? x = some { cls := .ref C, data := .fields fv } := Heap.get?_push_of_some _ ox
  have kp : ∀ b o, b ≠ x → hp.get? b = some o → h1.get? b = some o := fun b o n e => by
    rw [sm.2 b (Nat.ne_of_lt (Heap.lt_size e)), Heap.get?_update_ne _ _ _ _ n]; exact Heap.get?_push_of_some _ e
  exact q h1 tk1 hp.objs.size kp (Nat.le_refl _) xs.symm (by rw [sm.2 x xs]; exact Heap.get?_update_self _ ox1 rfl) n1
end
/-- what an __init__ that keeps its argument f must be; all of it is seen at the text -/
structure Keeps (st : Stmt) (f : Str) : Prop where
  body : ∃ p1 p2 p3 p4, L2.defBody st = [.Assign [.Attribute (.Name "self" p1) f p2] (.Name f p3) p4]
  bind : ∀ (s : Shared) (qual : Str) (kV doc pm : Value) (an : Option Addr) (cdv ct x v : Value), BindsTo s (W.fnOf "__init__" qual (L2.defArgs st) (L2.defBody st) (L2.defScope st) .none kV doc pm an cdv ct) ⟨[x, v], []⟩ [("self", x), (f, v)]
  kinds : ∀ (x v : Value), ([(("self" : Str), x), (f, v)].all fun y => (L2.defScope st).names.lookup y.1 == some .local || (L2.defScope st).names.lookup y.1 == some .cell) = true
  look : ∀ (qual : Str) (L a : Addr) (cdv x v : Value), bindL (envOfC qual (L2.defScope st) L a cdv).kindOf [("self", x), (f, v)] (fun _ => none) f = some v ∧ bindL (envOfC qual (L2.defScope st) L a cdv).kindOf [("self", x), (f, v)] (fun _ => none) "self" = some x ∧ (envOfC qual (L2.defScope st) L a cdv).kindOf f = some .local ∧ (envOfC qual (L2.defScope st) L a cdv).kindOf "self" = some .local
  dbg : (f == ("__debug__" : Str)) = false
  co : (L2.defScope st).isCoroutine = false
  ge : (L2.defScope st).isGenerator = false
  kd : (L2.defScope st).kind = .function
/-- what the top has written of such a class at C -/
structure Err (K : W.Frag) (C fI : Addr) (f qual : Str) (st : Stmt) : Prop where
  cls : ∃ nm q N bs b2 sn sub ab col dd k0 k1 k2 k3 k5, K.lookup C = some (excClassObj nm q C N bs (.ref b2 :: ESX.exTail) true sn sub ab col dd k0 k1 k2 k3 k5 "Exception.__new__")
  sa : W.findIn K (.ref C) "__setattr__" = some (some (.builtin "object.__setattr__"))
  ga : W.findIn K (.ref C) "__getattribute__" = some (some (.builtin "BaseException.__getattribute__"))
  gg : W.findIn K (.ref C) "__getattr__" = some none
  no : W.findIn K (.ref C) f = some none
  iC : W.findIn K (.ref C) "__init__" = some (some (.ref fI))
  tC : W.typeIn K (.ref fI) = some (.type "function")
  kC : W.keepIn K (.ref C) = true
  exC : W.subIn K (.ref C) (.type "BaseException") = some true
  tyC : W.typeIn K (.ref C) = some (.type "type")
  hdC : W.hasDictIn K C = true
  fn : ∃ (oc : Value) (od : Option Addr) (kV doc pm : Value) (an : Option Addr) (cdv ct : Value) (osl : Array (Option Value)), K.lookup fI = some ⟨oc, od, .func (W.fnOf "__init__" qual (L2.defArgs st) (L2.defBody st) (L2.defScope st) .none kV doc pm an cdv ct), osl⟩ ∧ W.codeIn K cdv qual = true
theorem tail2 (X : String) (b2 : Addr) : ((.ref b2 :: ESX.exTail : List Value)).contains (.type X) = ESX.exTail.contains (.type X) := by rw [List.contains_cons]; rfl
/-- an error that has been made: at e, its dict at dx -/
structure Made (h h' : Heap) (e C dx : Addr) (f : Str) (v : Value) : Prop where
  kp : ∀ b o, h.get? b = some o → h'.get? b = some o
  ne : h.objs.size ≤ e
  ob : ∃ oe vs, h'.get? e = some oe ∧ oe.cls = .ref C ∧ oe.dict = some dx ∧ oe.data = .fields vs ∧ vs[1]? = some .none
  nd : h.objs.size ≤ dx
  di : dx ≠ e
  ns : h'.Ns1 dx fun y => if y = f then some v else none
section
variable {prog : Program} {w : World} {A : Around} {R : Result → Shared → Prop} {s : Shared} {K : W.Frag} {C fI : Addr} {f qual : Str} {st : Stmt}
theorem err_init (T : Err K C fI f qual st) (S : Keeps st f) {x t1 : Addr} {v : Value} (X : K.In s.heap) (lim : s.heap.NoLimit) (hx : s.heap.get? x = some (excO C t1)) (room : A.depth < recursionLimit)
    (q : ∀ h1 tk dx, (∀ b o, b ≠ x → s.heap.get? b = some o → h1.get? b = some o) → s.heap.objs.size ≤ dx → dx ≠ x → h1.get? x = some { cls := .ref C, dict := some dx, data := .fields #[.ref t1, .none, .none, .none, .bool false, .none] } → h1.Ns1 dx (fun y => if y = f then some v else none) → R (.ok (.ret .none)) { s with heap := h1, toks := tk }) :
    codeAny (model prog w) A (.call (.ref fI) ⟨[.ref x, v], []⟩) R s := by
  obtain ⟨oc, od, kV, doc, pm, an, cdv, ct, osl, lk, cd⟩ := T.fn
  obtain ⟨nm, qn, N, bs, b2, sn, sub, ab, col, dd, k0, k1, k2, k3, k5, hC⟩ := T.cls
  have cl : W.clsIn K C = some { name := nm, bases := bs, mro := .ref C :: .ref b2 :: ESX.exTail, ns := N, qualname := qn, hasDict := true, slotNames := sn, subclasses := sub, abstract := ab, collection := col, hasDel := false } := by
    unfold W.clsIn
    rw [hC]
  obtain ⟨p1, p2, p3, p4, eb⟩ := S.body
  refine Att.call_fn X lim lk cd room (S.bind s qual kV doc pm an cdv ct (.ref x) v) (S.kinds _ _) (fun s1 IC => ?_) S.co S.ge S.kd
  obtain ⟨h1, tk1, rfl⟩ := IC.toInCall.same
  have kp : ∀ b o, s.heap.get? b = some o → h1.get? b = some o := IC.toInCall.keep
  have ns := IC.toInCall.ns
  obtain ⟨l1, l2, l3, l4⟩ := S.look qual s.heap.objs.size fI cdv (.ref x) v
  have xL : s.heap.objs.size ≠ x := Nat.ne_of_gt (Heap.lt_size hx)
  rw [eb]
  show wpAny _ _ (execs [_] _) _ _ _
  refine wpAny_execs_cons (plainObj_wpAny_Assign_Attribute (wpAny_Name (wpAny_loadName_local S.kd l3 ns l1 (wpAny_Name (wpAny_loadName_local S.kd l4 ns l2 ?_) (by decide))) S.dbg))
  refine set_plain (X.keeps kp) (ox := excO C t1) (od := none) ⟨kp _ _ hx, rfl, rfl, trivial⟩ T.sa ?_
  have z : s.heap.objs.size < h1.objs.size := ns.lt
  have pass : refuseLoop (.ref x) "__setattr__" (.ref C :: .ref b2 :: ESX.exTail) = pure () := by
    rw [refuseLoop_ref, refuseLoop_ref]
    exact F.store_Exception.passes _
  refine first_field (X.keeps kp) (kp _ _ hx) cl (by show (Value.ref C :: .ref b2 :: ESX.exTail).contains _ = true; rw [List.contains_cons, tail2]; rfl) rfl pass rfl T.no fun h3 tk3 dx k3 d1 d2 hx3 n3 => ?_
  show wpAny _ _ (execs [] _) _ _ _
  exact wpAny_execs_nil (q h3 tk3 dx (fun b o hb e => k3 b o hb (kp b o e)) (Nat.le_of_lt (Nat.lt_of_lt_of_le z d1)) d2 hx3 n3)
theorem err_made (T : Err K C fI f qual st) (S : Keeps st f) {v : Value} (X : K.In s.heap) (lim : s.heap.NoLimit) (room : A.depth + 1 < recursionLimit)
    (q : ∀ h1 tk e dx, Made s.heap h1 e C dx f v → R (.ok (.ret (.ref e))) { s with heap := h1, toks := tk }) : codeAny (model prog w) A (.call (.ref C) ⟨[v], []⟩) R s := by
  obtain ⟨nm, qn, N, bs, b2, sn, sub, ab, col, dd, k0, k1, k2, k3, k5, hC⟩ := T.cls
  obtain ⟨hp, g, dr, tk, os⟩ := s
  have one : [v].length ≤ sizeLine := by rw [sizeLine_eq]; exact (by decide : 1 ≤ 16777216)
  have old : ∀ b o, hp.get? b = some o → ((hp.push (W.kdv_tup [v])).push (excO C hp.objs.size)).get? b = some o := fun b o e => Heap.get?_push_of_some _ (Heap.get?_push_of_some _ e)
  have new : ((hp.push (W.kdv_tup [v])).push (excO C hp.objs.size)).get? (hp.objs.size + 1) = some (excO C hp.objs.size) := by heap_get
  refine HandSPX.call_own F.excBase_Exception (fun X => tail2 X b2) (X _ _ hC) (W.looks_findIn X T.iC) (fun self => W.bind_fn X self T.tC) one ?_
  refine err_init (s := ⟨(hp.push (W.kdv_tup [v])).push (excO C hp.objs.size), g, dr, tk, os⟩) T S (X.keeps old) (lim.keeps old) new room fun h1 tk1 dx k1 d1 d2 hx n1 => ?_
  have big : hp.objs.size + 1 + 1 ≤ dx := by
    have := d1
    simpa only [Heap.size_push] using this
  have keep : ∀ b o, hp.get? b = some o → h1.get? b = some o := fun b o e => k1 b o (Nat.ne_of_lt (Nat.lt_succ_of_lt (Heap.lt_size e))) (old b o e)
  exact ⟨rfl, q h1 tk1 (hp.objs.size + 1) dx ⟨keep, Nat.le_succ _, ⟨_, _, hx, rfl, rfl, rfl, rfl⟩, Nat.le_trans (Nat.le_trans (Nat.le_succ _) (Nat.le_succ _)) big, d2, n1⟩⟩
end
end Lx
set_option Elab.async false
set_option linter.all false
set_option maxRecDepth 100000
set_option maxHeartbeats 4000000
/-! raise of an own error -/
namespace Lg
open PySem PySem.Spec PyProof.Rows L2
open Lx (Err Keeps Made err_made)
section
variable {X : Cx} {C fI : Addr} {f qual : Str} {st : Stmt}
/-- C(e): the error's dict is new -/
def tMkE (C : Addr) (f : Str) (ta : TA) : L2.St → Hp → XK → Prop := fun σ H Q => ta σ H fun vs H1 => ∃ v, vs = [v] ∧ ∀ d, H1 d = none → Q (.ref C) (some d) (upd H1 d (.xd [(f, v)]))
theorem pmk_err {x : Str} {a : Expr} {ta : TA} {p pos : Pos} {k : Nat} (T : Err X.K C fI f qual st) (S : Keeps st f) (gC : X.mg x = some (.ref C)) (hr : Room k X.A) (ha : PA X [a] ta) (hg : Gl X x)
    (db : (x == ("__debug__" : Str)) = false) (he : starEach (a :: []) X.env = (false, eval a X.env) :: starEach [] X.env := by rfl) (pl : (backTo pos (starEach [] X.env)).any (·.1) = false := by rfl) : PMk X (.Call (.Name x p) [a] [] pos) (tMkE C f ta) := by
  intro pins s σ H Q I hq
  refine wpAny_Call_Name_kw (ld_glob I hg gC (PySem.W.callWith_K (h₀ := X.base) I.ok.mod.kin T.kC (thn (ha.run pos pins s σ H _ I hq) fun us s1 z => ?_) he pl) db)
  obtain ⟨vs, H1, I1, rv, v, rfl, q⟩ := z
  refine ⟨I1.kIn, ?_⟩
  obtain ⟨u, rfl, r⟩ : ∃ u, us = [u] ∧ RelV v u := by
    cases rv with
    | cons r rn => cases rn; exact ⟨_, rfl, r⟩
  have lim := I1.nolimit
  obtain ⟨hp, g, dr, tk, os⟩ := s1
  show wpAny _ _ (call (.ref C) [u]) _ _ _
  have room : X.A.depth + 1 < recursionLimit := by have := hr.dp; omega
  refine wpAny_call (err_made T S I1.kIn lim room fun h1 tk1 e dx M => ?_)
  show MkP X pins σ Q (.ref e) ⟨h1, g, dr, tk1, os⟩
  obtain ⟨oe, fv, o1, o2, o3, o4, o5⟩ := M.ob
  obtain ⟨h0, r1, r2⟩ := restrict h1 fun b => decide (b ≠ e)
  have at_ : ∀ b, b ≠ e → h0.get? b = h1.get? b := fun b hb => r1 b (decide_eq_true hb)
  have no : h0.get? e = none := r2 e (by simp)
  have lay : ObjOk X.prog X.w (upd H1 dx (.xd [(f, v)])) h0 dx (.xd [(f, v)]) := ⟨_, M.ns.at (fun o z => (at_ dx M.di).trans z), fun y => relO_put (fs := []) (mA := fun _ => none) r (fun _ => True.intro) y⟩
  have J : Inv X pins σ (upd H1 dx (.xd [(f, v)])) ⟨h0, g, dr, tk1, os⟩ := I1.laid (t' := tk1) (fun b o z => (at_ b (by have := Heap.lt_size z; have := M.ne; exact Nat.ne_of_lt (Nat.lt_of_lt_of_le (Heap.lt_size z) M.ne))).trans (M.kp b o z)) M.nd lay
  have fe : upd H1 dx (.xd [(f, v)]) e = none := by
    rw [upd_ne (Ne.symm M.di)]
    exact I1.hok.fresh M.ne
  refine ⟨e, oe, fv, ⟨h0, g, dr, tk1, os⟩, _, .ref C, some dx, rfl, J, fun b o z => ?_, no, o1, ⟨o2, o3⟩, o4, o5, fe, rfl, I1.bare, raises_own T.exC T.tyC, q dx (I1.hok.fresh M.nd)⟩
  by_cases hb : b = e
  · have z : h0.get? b = some o := z
    rw [hb, no] at z
    cases z
  · exact (at_ b hb).symm.trans z
end
end Lg
namespace Lg
open PySem PySem.Spec PyProof.Rows L2
open Lx (Err Keeps Made err_made)
def gRaise (C f : Str) (fe : FE) : FS := fun s h => (fe s h).toS s fun d h1 => .ex ⟨C, some (f, d)⟩ s h1
section
variable {X : Cx} {W : WX} {C fI : Addr} {f qual : Str} {st : Stmt} {a : Expr} {fe : FE} {x : Str} {p pos pos2 : Pos} {k : Nat}
theorem rs_raise (tk : Takes X W) (T : Err X.K C fI f qual st) (S : Keeps st f) (gC : X.mg x = some (.ref C)) (hr : Room k X.A) (t : RE X W a fe) (hc : X.calm = true := by rfl) (hg : Gl X x := by rfl)
    (db : (x == ("__debug__" : Str)) = false := by decide +kernel) (he : starEach (a :: []) X.env = (false, eval a X.env) :: starEach [] X.env := by rfl) (pl : (backTo pos (starEach [] X.env)).any (·.1) = false := by rfl) : RS X W (.Raise (some (.Call (.Name x p) [a] [] pos)) none pos2) (gRaise x f fe) := by
  refine ⟨fun {s σ H ι h E} r hx po pins sh I => ?_⟩
  refine (ps_raise hc tk (pmk_err T S gC hr (pa_wa (es := [a])) hg db he pl)).run pins sh σ H E I ?_
  show Wa X [a] σ H fun vs H1 => ∃ v, vs = [v] ∧ ∀ d, H1 d = none → W (.ref C) (some d) σ (upd H1 d (.xd [(f, v)]))
  refine (ra_cons t ra_nil he).run r hx ?_
  unfold fCo
  unfold gRaise at po
  cases q : fe s h with
  | no => rw [q] at po; exact po.elim
  | ex y h1 => 
    rw [q] at po
    intro H1 ι1 c d st1 x1 xr
    exact po σ H1 ι1 c d st1 x1 (r.step st1) xr
  | ok d h1 =>
    rw [q] at po
    show Po X W σ ι H (.ok [d] h1) _
    intro H1 ι1 st1 x1 vs rv
    obtain ⟨v, rfl, re⟩ := rv.one
    refine ⟨v, rfl, fun dx n => ?_⟩
    refine po σ (upd H1 dx (.xd [(f, v)])) ι1 (.ref C) (some dx) (st1.trans (Step.new n)) (x1.new n) ((r.step st1).step (Step.new n)) ⟨⟨C, ?_, rfl⟩, .inr ⟨f, d, dx, v, rfl, rfl, upd_same, x1.fresh n, re.step (Step.new n)⟩⟩
    show clAt X.mg x = some C
    unfold clAt
    rw [gC]
end
end Lg
set_option Elab.async false
set_option linter.all false
set_option maxRecDepth 100000
set_option maxHeartbeats 4000000
/-! try .. except C as n -/
namespace Lg
open PySem PySem.Spec PyProof.Rows L2
def Os.wp (i : Nat) : Os → Os
  | .nx s h => .nx (s.set i none) h
  | .bk s h => .bk (s.set i none) h
  | .ct s h => .ct (s.set i none) h
  | .rt d h => .rt d h
  | _ => .no
/-- ca: which classes are caught; the suite's function asks for the error's addresses, its outcome does not hang on them -/
def gTry (ca : List (Str × Bool)) (i : Nat) (gb : FS) (gs : Addr → Addr → FS) : FS := fun s h => match gb s h with
  | .ex x s1 h1 => match ca.lookup x.cls, x.fld with
    | some true, some (f, e) => if i < s1.length then (gs 0 0 (s1.set i (some (.exc 0 0 f e))) h1).wp i else .no
    | some false, _ => .ex x s1 h1
    | _, _ => .no
  | o => o
theorem SR.wipeX {K : PySem.W.Frag} {ι : Ix} {H : Hp} {s : S} {σ : L2.St} (r : SR K ι H s σ) (i : Nat) : SR K ι H (s.set i none) (σ.set i none) := by
  refine ⟨by simp [r.len], fun j d e => ?_⟩
  by_cases hj : i = j
  · subst hj
    by_cases hl : i < s.length
    · rw [List.getElem?_set_self hl] at e
      cases e
    · rw [List.getElem?_eq_none (by simp; omega)] at e
      cases e
  · rw [List.getElem?_set_ne hj] at e
    rw [List.getElem?_set_ne hj]
    exact r.at_ j d e
section
variable {X : Cx} {W : WX} {x n : Str} {c : Value} {i : Nat} {body suite : List Stmt} {b₀ : Stmt} {np pos pos' : Pos} {ca : List (Str × Bool)} {gb : FS} {gs : Addr → Addr → FS}
theorem rs_try (hc : Names X x c) (tk : Takes X W) (hN : X.N.Nodup)
    (hm : ∀ cn b, ca.lookup cn = some b → ∃ Ca, X.mg cn = some (.ref Ca) ∧ PySem.W.exmOne X.K (.ref Ca) c = some b)
    (hb : ∀ (W' : WX) (pn : List (Addr × Obj)) (xe : Value → Shared → Prop), Takes (X.tr pn xe) W' → PassesOwn (model X.prog X.w) X.A X.env xe → RSs (X.tr pn xe) W' body gb)
    (su : ∀ (a : Addr) (oe : Obj) (Ca dd : Addr) (pn : List (Addr × Obj)) (cn : Str), ca.lookup cn = some true → X.mg cn = some (.ref Ca) → L2.Zc (.ref Ca) (some dd) oe → (∃ vs, oe.data = .fields vs) → RSs (X.suite a ((a, oe) :: pn)) W0 (b₀ :: suite) (gs a dd))
    (hI : ∀ (a dd : Addr) (f : Str) (e : D) (s : S) (h : Hh), i < s.length → (gs a dd (s.set i (some (.exc a dd f e))) h).wp i = (gs 0 0 (s.set i (some (.exc 0 0 f e))) h).wp i)
    (hi : X.N[i]? = some n := by rfl) (hs : X.stack = X.env :: X.outer := by rfl) (hf : X.env.frame = some X.env.locals := by rfl) (hln : X.env.kindOf n = some .local := by rfl) :
    RS X W (.Try body [.ExceptHandler (some (.Name x np)) (some n) (b₀ :: suite) pos'] [] [] pos) (gTry ca i gb gs) := by
  refine ⟨fun {s σ H ι h E} r hx po pins sh I => ?_⟩
  refine (ps_try_as (tb := fun W E σ H => ∀ (pn : List (Addr × Obj)) (xe : Value → Shared → Prop), Takes (X.tr pn xe) W → PassesOwn (model X.prog X.w) X.A X.env xe → Wss (X.tr pn xe) body E σ H)
    (ts := fun a cls d E σ H => ∀ (oe : Obj) (pn : List (Addr × Obj)), L2.Zc cls d oe → (∃ vs, oe.data = .fields vs) → Wss (X.suite a ((a, oe) :: pn)) (b₀ :: suite) E σ H)
    hs hf hN hi hln hc tk (fun W pn xe t p => ⟨fun pins s σ H E I h => h pn xe t p pins s I⟩) (fun a oe cls d pn z v => ⟨fun pins s σ H E I h => h oe pn z v pins s I⟩)).run pins sh σ H E I ?_
  intro pn xe t p
  refine (hb _ pn xe t p).run r hx ?_
  unfold gTry at po
  cases q : gb s h with
  | nx s1 h1 => rw [q] at po; exact po
  | rt d h1 => rw [q] at po; exact po
  | bk s1 h1 => rw [q] at po; exact po
  | ct s1 h1 => rw [q] at po; exact po
  | no => rw [q] at po; exact po.elim
  | ex y s1 h1 =>
    rw [q] at po
    dsimp only at po
    intro σ1 H1 ι1 cv d st1 x1 r1 xr
    obtain ⟨⟨Ca, e1, rfl⟩, fl⟩ := id xr
    cases l : ca.lookup y.cls with
    | none => rw [l] at po; exact po.elim
    | some b =>
      obtain ⟨Cb, m1, m2⟩ := hm _ _ l
      have ec : Ca = Cb := by
        have e1 : clAt X.mg y.cls = some Ca := e1
        unfold clAt at e1
        rw [m1] at e1
        exact (Option.some.inj e1).symm
      subst ec
      rw [l] at po
      cases b with
      | false =>
        have po : PoS X W E ι H (.ex y s1 h1) := by
          cases e : y.fld with
          | none => rw [e] at po; exact po
          | some z => rw [e] at po; exact po
        exact ⟨false, m2, fun z => (by cases z), fun _ => po σ1 H1 ι1 _ d st1 x1 r1 xr⟩
      | true =>
        rcases fl with ⟨e2, _⟩ | ⟨f, e, dd, v, e2, rfl, hd, ho, re⟩
        · rw [e2] at po; exact po.elim
        · rw [e2] at po
          dsimp only at po
          by_cases hl : i < s1.length
          · rw [if_pos hl] at po
            refine ⟨true, m2, fun _ a na oe pn2 z vv => ?_, fun z => (by cases z)⟩
            rw [← hI a dd f e s1 h1 hl] at po
            refine (su a oe Ca dd pn2 y.cls l m1 z vv).run (r1.set (.exc hd ho re) i) x1 ?_
            cases g : gs a dd (s1.set i (some (.exc a dd f e))) h1 with
            | nx s2 h2 => rw [g] at po; exact fun σ2 H2 ι2 st2 x2 r2 => po (σ2.set i none) H2 ι2 (st1.trans st2) x2 (r2.wipeX i)
            | bk s2 h2 => rw [g] at po; exact fun σ2 H2 ι2 st2 x2 r2 => po (σ2.set i none) H2 ι2 (st1.trans st2) x2 (r2.wipeX i)
            | ct s2 h2 => rw [g] at po; exact fun σ2 H2 ι2 st2 x2 r2 => po (σ2.set i none) H2 ι2 (st1.trans st2) x2 (r2.wipeX i)
            | rt w2 h2 => rw [g] at po; exact fun v2 H2 ι2 st2 x2 r2 => po v2 H2 ι2 (st1.trans st2) x2 r2
            | ex y2 s2 h2 => rw [g] at po; exact po.elim
            | no => rw [g] at po; exact po.elim
          · rw [if_neg hl] at po
            exact po.elim
end
end Lg
namespace Lg
open PySem PySem.Spec PyProof.Rows L2
/-- n.f, n the caught error in slot i -/
def fXf (i : Nat) (f : Str) (a d : Addr) : FE := fun s h => match s[i]? with
  | some (some (.exc a' d' f' e)) => if a' = a ∧ d' = d ∧ f' = f then .ok e h else .no
  | _ => .no
theorem re_xf {X : Cx} {a Ca dd : Addr} {oe : Obj} {pn : List (Addr × Obj)} {n f : Str} {p q : Pos} (i : Nat) (xf : XfC X.K Ca) (na : PySem.W.findIn X.K (.ref Ca) f = some none) (z : L2.Zc (.ref Ca) (some dd) oe) (vs : ∃ vs, oe.data = .fields vs)
    (hN : X.N[i]? = some n := by rfl) (hv : Vis X.env.scope n := by first | exact Or.inl rfl | exact Or.inr (Or.inl rfl) | exact Or.inr (Or.inr rfl)) (hd : (n == ("__debug__" : Str)) = false := by decide +kernel) (hcd : (n == ("__classdict__" : Str)) = false := by decide +kernel)
    (hb : attributeBase (.Name n p) f X.env (eval (.Name n p) X.env) = eval (.Name n p) X.env := by rfl) : RE (X.suite a ((a, oe) :: pn)) W0 (.Attribute (.Name n p) f q) (fXf i f a dd) := by
  refine ⟨fun {s σ H ι h Q} r hx po => we_of (pe_xf xf na z vs pe_we hb) ?_⟩
  refine (re_v (X := X.suite a ((a, oe) :: pn)) (W := W0) i hN hv hd hcd).run r hx ?_
  unfold fXf at po
  cases e : s[i]? with
  | none => rw [e] at po; exact po.elim
  | some o =>
    rw [e] at po
    cases o with
    | none => exact po.elim
    | some dv =>
      cases dv with
      | exc a' d' f' e' =>
        dsimp only at po
        by_cases c : a' = a ∧ d' = dd ∧ f' = f
        · rw [if_pos c] at po
          obtain ⟨rfl, rfl, rfl⟩ := c
          unfold fV
          rw [e]
          intro H1 ι1 st1 x1 v rv
          cases rv with
          | exc h1 h2 h3 => exact ⟨rfl, rfl, _, _, _, rfl, h1, by simp [List.lookup], po H1 ι1 st1 x1 _ h3⟩
        · rw [if_neg c] at po
          exact po.elim
      | _ => exact po.elim
structure IndE (i : Nat) (fe : Addr → Addr → FE) : Prop where
  eq : ∀ (a d : Addr) (f : Str) (e : D) (s : S) (h : Hh), i < s.length → fe a d (s.set i (some (.exc a d f e))) h = fe 0 0 (s.set i (some (.exc 0 0 f e))) h
structure IndA (i : Nat) (fe : Addr → Addr → FA) : Prop where
  eq : ∀ (a d : Addr) (f : Str) (e : D) (s : S) (h : Hh), i < s.length → fe a d (s.set i (some (.exc a d f e))) h = fe 0 0 (s.set i (some (.exc 0 0 f e))) h
section
variable {i : Nat} {fe : Addr → Addr → FE} {fs : Addr → Addr → FA}
theorem ind_xf {f : Str} : IndE i (fXf i f) := ⟨fun a d f' e s h hl => by
  unfold fXf
  rw [List.getElem?_set_self hl, List.getElem?_set_self hl]
  simp⟩
theorem ind_c {d : D} : IndE i (fun _ _ => fC d) := ⟨fun _ _ _ _ _ _ _ => rfl⟩
theorem ind_v {j : Nat} (n : i ≠ j) : IndE i (fun _ _ => fV j) := ⟨fun a d f e s h _ => by
  unfold fV
  rw [List.getElem?_set_ne n, List.getElem?_set_ne n]⟩
theorem ind_n : IndA i (fun _ _ => fN) := ⟨fun _ _ _ _ _ _ _ => rfl⟩
theorem ind_co0 (h1 : IndE i fe) : IndA i (fun a d => fCo (fe a d) fN) := ⟨fun a d f e s h hl => by
  unfold fCo
  rw [h1.eq a d f e s h hl]
  rfl⟩
theorem ind_coC {d0 : D} (h2 : IndA i fs) : IndA i (fun a d => fCo (fC d0) (fs a d)) := ⟨fun a d f e s h hl => by
  unfold fCo
  show (Oc.ok d0 h).bind _ = (Oc.ok d0 h).bind _
  rw [Oc.bind_ok, Oc.bind_ok, h2.eq a d f e s h hl]⟩
theorem ind_coX {f : Str} (h2 : IndA i fs) : IndA i (fun a d => fCo (fXf i f a d) (fs a d)) := ⟨fun a d f' e s h hl => by
  unfold fCo
  rw [(ind_xf (i := i) (f := f)).eq a d f' e s h hl]
  unfold fXf
  rw [List.getElem?_set_self hl]
  by_cases c : f' = f
  · simp only [c, and_self, if_true, Oc.bind_ok]
    subst c
    rw [h2.eq a d f' e s h hl]
  · simp [c]⟩
theorem ind_lst (h : IndA i fs) : IndE i (fun a d => fLst (fs a d)) := ⟨fun a d f e s hh hl => by unfold fLst; rw [h.eq a d f e s hh hl]⟩
theorem ind_tup (h : IndA i fs) : IndE i (fun a d => fTup (fs a d)) := ⟨fun a d f e s hh hl => by unfold fTup; rw [h.eq a d f e s hh hl]⟩
theorem ind_set {j : Nat} (n : i ≠ j) (h1 : IndE i fe) (a d : Addr) (f : Str) (e : D) (s : S) (h : Hh) (hl : i < s.length) : (gSet j (fe a d) (s.set i (some (.exc a d f e))) h).wp i = (gSet j (fe 0 0) (s.set i (some (.exc 0 0 f e))) h).wp i := by
  unfold gSet
  rw [h1.eq a d f e s h hl]
  cases fe 0 0 (s.set i (some (.exc 0 0 f e))) h with
  | ok d1 h1 =>
    show Os.nx (((s.set i _).set j _).set i none) h1 = Os.nx (((s.set i _).set j _).set i none) h1
    rw [List.set_comm _ _ n, List.set_set, List.set_comm _ _ n, List.set_set]
  | ex x h1 => rfl
  | no => rfl
end
end Lg
set_option Elab.async false
set_option linter.all false
set_option maxRecDepth 100000
set_option maxHeartbeats 2000000
/-! repr of data in which empty dicts may stand; {} as a value -/
namespace Lg
open PySem PySem.Spec PyProof.Rows L2
/-- a value as data; n: how deep; empty dicts too -/
def pyE (h : Hh) : Nat → D → Option PyData
  | 0, _ => none
  | n + 1, d => match d with
    | .non => some .none
    | .bl b => some (.bool b)
    | .int i => some (.int i)
    | .str x => some (.str x)
    | .tup l => (l.mapM (pyE h n)).map .tuple
    | .frt l => (l.mapM (pyE h n)).map .tuple
    | .lst l => (l.mapM (pyE h n)).map .list
    | .frz l => (l.mapM (pyE h n)).map .list
    | .dic false [] => some (.dict [])
    | .ref k => match h[k]? with
      | some (.lst l) => (l.mapM (pyE h n)).map .list
      | _ => none
    | _ => none
/-- the first dict of the interpreter is there -/
def Low (K : PySem.W.Frag) : Prop := PySem.W.typeIn K (.ref 1) = some (.type "dict")
section
variable {X : Cx} {pins : List (Addr × Obj)} {σ : L2.St} {H : Hp} {s : Shared} {ι : Ix} {h : Hh}
theorem low_rd (L : Low X.K) (I : Inv X pins σ H s) {a : Addr} {u : HO} (r : Rd H a u) : a ≠ sysModules := by
  rintro rfl
  unfold Low PySem.W.typeIn at L
  obtain ⟨o, ho, _⟩ := Option.map_eq_some_iff.mp L
  have z := (I.bs _ _ (I.mod.kin _ _ ho)).2
  have z : H sysModules = none := z
  rcases r with r | ⟨_, r⟩
  · rw [z] at r; cases r
  · rw [z] at r; cases r
theorem low_sq (L : Low X.K) (I : Inv X pins σ H s) {a : Addr} {xs : List V} (r : SqL X.K H a xs) : a ≠ sysModules := by
  rcases r with r | ⟨o, its, n, hk, hc, _⟩
  · exact low_rd L I r
  · rintro rfl
    unfold Low PySem.W.typeIn at L
    obtain ⟨o2, ho, e⟩ := Option.map_eq_some_iff.mp L
    have ho : X.K.lookup sysModules = some o2 := ho
    rw [hk] at ho
    cases ho
    rw [hc] at e
    injection e with e
    exact absurd e (by decide)
/-- what a value is, in the heap, and where -/
def Sees (s : Shared) (u : Value) (p : PyData) : Prop := ∃ as, Reads s.heap u p as ∧ sysModules ∉ as
def SeesAll (s : Shared) (us : List Value) (ps : List PyData) : Prop := ∃ as, ReadsAll s.heap us ps as ∧ sysModules ∉ as
theorem sees_list (L : Low X.K) (I : Inv X pins σ H s) {a : Addr} {xs : List V} {ps : List PyData} (q : SqL X.K H a xs) (k : ∀ us, Vals xs us → SeesAll s us ps) : Sees s (.ref a) (.list ps) := by
  obtain ⟨its, rv, ⟨o, n, ho, hc, _, hd⟩, _⟩ := I.list q
  obtain ⟨as, hr, nm⟩ := k _ rv
  refine ⟨_, Reads.list ho hc hd hr, fun z => ?_⟩
  rcases List.mem_cons.mp z with z | z
  · exact low_sq L I q z.symm
  · exact nm z
theorem sees_tuple (I : Inv X pins σ H s) {a : Addr} {xs : List V} {ps : List PyData} (q : SqT X.K H a xs) (k : ∀ us, Vals xs us → SeesAll s us ps) : Sees s (.ref a) (.tuple ps) := by
  obtain ⟨its, rv, ⟨o, ho, hc, n, hd⟩, _⟩ := I.tuple q
  obtain ⟨as, hr, nm⟩ := k _ rv
  exact ⟨_, Reads.tuple ho hc hd hr, nm⟩
theorem sees_all {g : D → Option PyData} (hg : ∀ d p v u, g d = some p → ReX X ι H d v → RelV v u → Sees s u p) : ∀ {l : List D} {ps : List PyData} {vs : List V}, l.mapM g = some ps → Res X.K ι H l vs → ∀ us, Vals vs us → SeesAll s us ps
  | [], ps, vs, e, r, us, rv => by
    cases r
    simp at e
    subst e
    cases rv
    exact ⟨_, .nil, by simp⟩
  | d :: l, ps, vs, e, r, us, rv => by
    cases r with
    | cons r1 r2 =>
      simp only [List.mapM_cons, Option.bind_eq_bind, Option.bind_eq_some_iff, Option.pure_def, Option.some.injEq] at e
      obtain ⟨p, h1, ps', h2, e⟩ := e
      subst e
      cases rv with
      | cons v1 v2 =>
        obtain ⟨as, q1, n1⟩ := hg _ _ _ _ h1 r1 v1
        obtain ⟨bs, q2, n2⟩ := sees_all hg h2 r2 _ v2
        exact ⟨_, .cons q1 q2, fun z => (List.mem_append.mp z).elim n1 n2⟩
theorem sees (L : Low X.K) (I : Inv X pins σ H s) (x : HX X ι H h) : ∀ (n : Nat) (d : D) (p : PyData) (v : V) (u : Value), pyE h n d = some p → ReX X ι H d v → RelV v u → Sees s u p
  | 0, _, _, _, _, e, _, _ => by cases e
  | n + 1, d, p, v, u, e, r, rv => by
    have ih := sees L I x n
    cases d with
    | non => cases e; cases r; cases rv; exact ⟨_, Reads.none, by simp⟩
    | bl b => cases e; cases r; cases rv; exact ⟨_, Reads.bool b, by simp⟩
    | int i => cases e; cases r; obtain ⟨t, rfl⟩ := rv; exact ⟨_, Reads.int i t, by simp⟩
    | str y => cases e; cases r; obtain ⟨t, rfl⟩ := rv; exact ⟨_, Reads.str y t, by simp⟩
    | tup l =>
      obtain ⟨ps, e1, rfl⟩ := Option.map_eq_some_iff.mp (show (l.mapM (pyE h n)).map PyData.tuple = some p from e)
      cases r with
      | tup h1 _ h2 => cases rv; exact sees_tuple I (.inl (.inl h1)) (sees_all ih e1 h2)
    | frt l =>
      obtain ⟨ps, e1, rfl⟩ := Option.map_eq_some_iff.mp (show (l.mapM (pyE h n)).map PyData.tuple = some p from e)
      cases r with
      | frt h1 h2 => cases rv; exact sees_tuple I h1.sq (sees_all ih e1 h2)
    | lst l =>
      obtain ⟨ps, e1, rfl⟩ := Option.map_eq_some_iff.mp (show (l.mapM (pyE h n)).map PyData.list = some p from e)
      cases r with
      | lst h1 _ h2 => cases rv; exact sees_list L I (.inl (.inl h1)) (sees_all ih e1 h2)
    | frz l =>
      obtain ⟨ps, e1, rfl⟩ := Option.map_eq_some_iff.mp (show (l.mapM (pyE h n)).map PyData.list = some p from e)
      cases r with
      | frz h1 h2 => cases rv; exact sees_list L I h1.sq (sees_all ih e1 h2)
    | ref k =>
      cases q : h[k]? with
      | none => simp [pyE, q] at e
      | some o =>
        cases o with
        | lst l =>
          simp only [pyE, q] at e
          obtain ⟨ps, e1, rfl⟩ := Option.map_eq_some_iff.mp e
          cases r with
          | ref hn =>
            obtain ⟨vs, h1, h2⟩ := x.at_ k _ _ hn q
            cases rv
            exact sees_list L I (.inl (.inl h1)) (sees_all ih e1 h2)
        | _ => simp [pyE, q] at e
    | dic t l =>
      cases t with
      | true => cases e
      | false =>
        cases l with
        | cons _ _ => cases e
        | nil =>
          cases e
          cases r with
          | dicK h1 _ h2 =>
            cases h2
            cases rv
            obtain ⟨_, hs, vs, rel, o, es, ep, ho, hx, hd, _, hp, _⟩ := dk_of I.hok h1
            have zv : vs = [] := List.eq_nil_of_length_eq_zero (by have := rel.length; simpa using this.symm)
            subst zv
            have ze : es.toList = [] := by
              cases q : es.toList with
              | nil => rfl
              | cons a b => rw [q] at hp; cases hp
            refine ⟨_, Reads.dict ho hx.1 hd (kvs := []) (as := []) (bs := []) (by rw [ze]; exact .nil) (by rw [ze]; exact .nil), fun z => ?_⟩
            rcases List.mem_cons.mp (by simpa using z : sysModules ∈ [_]) with z | z
            · exact beq_eq_false_iff_ne.mp hs z.symm
            · cases z
    | fix a => cases e
    | exc _ _ _ _ => cases e
def showE (d : PyData) : Bool := decide (d.depth ≤ 60) && d.showable && decide (d.shown.length ≤ 16000000)
def bReprE : BF
  | [d], h => match pyE h 66 d with
    | some p => if showE p then some (.str p.shown, h) else none
    | none => none
  | _, _ => none
theorem reprE_ok (hg : X.A.guards = some []) (hu : X.A.units + 200 < cLine) (I : Inv X pins σ H s) {u : Value} {p : PyData} {Q : VK} (se : Sees s u p) (dp : p.depth ≤ 60) (sh : p.showable = true) (sz : p.shown.length ≤ sizeLine) (q : Q (.str p.shown) H) :
    wpAny (model X.prog X.w) X.A (call (.builtin "repr") [u]) (EP X pins σ Q) X.xe s := by
  obtain ⟨as, rd, nm⟩ := se
  have back : ∀ {a : Addr}, Value.ref a = u → wpAny (model X.prog X.w) X.A (call (.builtin "repr") [u]) (EP X pins σ Q) X.xe s := fun {a} e => by
    subst e
    exact repr_of_reads' rd sh (fun z => nm) hg (by omega) (fun b o e => e) (fun h' t tk k => ⟨.str p.shown, H, I.kept k, ⟨_, rfl⟩, q⟩) sz
  cases rd with
  | none => exact PySem.P.repr_of_none ⟨.str _, H, I.tok _, ⟨_, rfl⟩, q⟩
  | bool b => exact PySem.P.repr_of_bool ⟨.str _, H, I.tok _, ⟨_, rfl⟩, q⟩
  | int i t => exact PySem.P.repr_of_int (by simpa [PyData.showable] using sh) ⟨.str _, H, I.tok _, ⟨_, rfl⟩, q⟩
  | str y t => exact PySem.P.repr_of_str ⟨.str _, H, I.tok _, ⟨_, rfl⟩, q⟩ sz
  | list _ _ _ _ => exact back rfl
  | tuple _ _ _ _ => exact back rfl
  | dict _ _ _ _ _ => exact back rfl
theorem c_reprE (L : Low X.K) (hg : X.A.guards = some []) (hu : X.A.units + 200 < cLine) : CallR X (.builtin "repr") (rC X bReprE) := by
  intro pins s σ H vs us Q I r ⟨ι, h, ds, d, h', x, rs, e, q⟩
  match ds, e with
  | [dd], e =>
    obtain ⟨v, rfl, rv⟩ := rs.one
    obtain ⟨u, rfl, ru⟩ := vals1 r
    cases z : pyE h 66 dd with
    | none => simp [bReprE, z] at e
    | some p =>
      cases sh : showE p with
      | false => simp [bReprE, z, sh] at e
      | true =>
        simp only [bReprE, z, sh, if_true, Option.some.injEq, Prod.mk.injEq] at e
        obtain ⟨rfl, rfl⟩ := e
        unfold showE at sh
        simp only [Bool.and_eq_true, decide_eq_true_eq] at sh
        exact reprE_ok hg hu I (sees L I x 66 _ _ _ _ z rv ru) sh.1.1 sh.1.2 (Nat.le_trans sh.2 (by decide)) (q _ _ _ Step.refl x (.str _))
  | [], e => cases e
  | _ :: _ :: _, e => simp [bReprE] at e
end
/-- {} as a value -/
theorem re_dval {X : Cx} {W : WX} {pos : Pos} : RE X W (.Dict [] [] pos) (fC (.dic false [])) :=
  ⟨fun {s σ H ι h Q} r x q => we_of pe_dnewK fun p n => q.use' (Step.new n) (x.new n) _ (.dicK upd_same (x.fresh n) .nil)⟩
end Lg
set_option Elab.async false
set_option linter.all false
set_option maxRecDepth 100000
set_option maxHeartbeats 2000000
/-! x.upper(), list(range(a, b)) -/
namespace Lg
open PySem PySem.Spec PyProof.Rows L2
section
variable {X : Cx} {W : WX} {o a b : Expr} {fo fa fb : FE} {apos pos p p1 q1 : Pos}
def fUpr (fo : FE) : FE := fun s h => (fo s h).bind fun d h1 => match d with
  | .str a => if a.length ≤ 5000000 then .ok (.str (Txt.upper a)) h1 else .no
  | _ => .no
theorem re_upr (to : RE X W o fo) (hbase : attributeBase o "upper" X.env (eval o X.env) = eval o X.env := by rfl) (hline : (apos.endLine == pos.line) = true := by rfl) : RE X W (.Call (.Attribute o "upper" apos) [] [] pos) (fUpr fo) :=
  ⟨fun {s σ H ι h Q} r x q => we_of (pe_upper pe_we hbase hline) (to.next r x q fun d h1 v H1 ι1 s1 r1 x1 rv p1 => by
    cases d with
    | str z =>
      cases rv
      dsimp only at p1
      by_cases c : z.length ≤ 5000000
      · rw [if_pos c] at p1
        exact ⟨⟨_, rfl⟩, _, rfl, rfl, Nat.le_trans c (by decide), p1.use x1 _ (.str _)⟩
      · rw [if_neg c] at p1
        exact p1.elim
    | _ => exact p1.elim)⟩
def rgD (i j : Int) : List D := (List.range (j - i).toNat).map fun k => D.int (i + (k : Nat))
def rgB (i j : Int) : Bool := decide (-1000000 ≤ i ∧ i ≤ 1000000 ∧ -1000000 ≤ j ∧ j ≤ 1000000)
def fLRg2 (fa fb : FE) : FE := fun s h => (fa s h).bind fun d h1 => (fb s h1).bind fun e h2 => match d, e with
  | .int i, .int j => if rgB i j then .ok (.lst (rgD i j)) h2 else .no
  | _, _ => .no
theorem rg_res {K : PySem.W.Frag} {ι : Ix} {H : Hp} (i : Int) : ∀ (l : List Nat), Res K ι H (l.map fun k => D.int (i + (k : Nat))) (l.map fun k => V.int (i + (k : Nat)))
  | [] => .nil
  | _ :: l => .cons (.int _) (rg_res i l)
theorem re_lstRg2 (hc : X.calm = true) (ml : X.mg "list" = none) (mr : X.mg "range" = none) (ta : RE X W a fa) (tb : RE X W b fb) (hg : Gl X "list" := by rfl) (hg2 : Gl X "range" := by rfl)
    (na : starEach [a, b] X.env = (false, eval a X.env) :: starEach [b] X.env := by rfl) (nb : starEach [b] X.env = (false, eval b X.env) :: starEach [] X.env := by rfl) (hp : (backTo q1 (starEach [b] X.env)).any (·.1) = false := by rfl)
    (nl : starEach [Expr.Call (.Name "range" p1) [a, b] [] q1] X.env = (false, eval (.Call (.Name "range" p1) [a, b] [] q1) X.env) :: starEach [] X.env := by rfl) :
    RE X W (.Call (.Name "list" p) [.Call (.Name "range" p1) [a, b] [] q1] [] pos) (fLRg2 fa fb) :=
  ⟨fun {s σ H ι h Q} r x q => we_of (pe_listRg hc hg ml (prg_2 hg2 mr pe_we pe_we na nb hp) nl) (ta.next r x q fun d h1 v H1 ι1 s1 r1 x1 rv p1 => tb.next r1 x1 p1 fun e h2 w H2 ι2 s2 r2 x2 rw p2 => by
    cases d with
    | int i =>
      cases e with
      | int j =>
        cases rv
        cases rw
        dsimp only at p2
        cases c : rgB i j with
        | false => rw [c] at p2; exact p2.elim
        | true =>
          rw [c] at p2
          have z := of_decide_eq_true c
          refine ⟨i, j, rfl, rfl, ⟨by omega, by omega, by omega, by omega, by omega⟩, fun q hq => ?_⟩
          exact p2.use' (Step.new hq) (x2.new hq) _ (.lst upd_same (x2.fresh hq) (rg_res i _))
      | _ => exact p2.elim
    | _ => cases e <;> exact p2.elim)⟩
end
end Lg
set_option Elab.async false
set_option linter.all false
set_option maxRecDepth 100000
set_option maxHeartbeats 2000000
/-! try with one own class; defs called with keywords -/
namespace Lg
open PySem PySem.Spec PyProof.Rows L2
open Lx (Err Keeps)
/-- what the top has written of the own error x -/
structure Ers (K : PySem.W.Frag) (mg : Str → Option Value) (x f qual : Str) (st : Stmt) (C fI : Addr) : Prop where
  e : Err K C fI f qual st
  s : Keeps st f
  g : mg x = some (.ref C)
  x : PySem.W.exmOne K (.ref C) (.ref C) = some true
theorem Ers.xf {K : PySem.W.Frag} {mg : Str → Option Value} {x f qual : Str} {st : Stmt} {C fI : Addr} (T : Ers K mg x f qual st C fI) : XfC K C := ⟨T.e.ga, T.e.gg, T.e.exC, T.e.hdC⟩
section
variable {X : Cx} {W : WX} {x n f qual : Str} {st : Stmt} {C fI : Addr} {i : Nat} {body suite : List Stmt} {b₀ : Stmt} {np pos pos' : Pos} {gb : FS} {gs : Addr → Addr → FS}
theorem rs_try1 (T : Ers X.K X.mg x f qual st C fI) (tk : Takes X W) (hN : X.N.Nodup)
    (hb : ∀ (W' : WX) (pn : List (Addr × Obj)) (xe : Value → Shared → Prop), Takes (X.tr pn xe) W' → RSs (X.tr pn xe) W' body gb)
    (su : ∀ (a : Addr) (oe : Obj) (dd : Addr) (pn : List (Addr × Obj)), L2.Zc (.ref C) (some dd) oe → (∃ vs, oe.data = .fields vs) → RSs (X.suite a ((a, oe) :: pn)) W0 (b₀ :: suite) (gs a dd))
    (hI : ∀ (a dd : Addr) (f : Str) (e : D) (s : S) (h : Hh), i < s.length → (gs a dd (s.set i (some (.exc a dd f e))) h).wp i = (gs 0 0 (s.set i (some (.exc 0 0 f e))) h).wp i)
    (hg : Gl X x := by rfl) (db : (x == ("__debug__" : Str)) = false := by decide +kernel)
    (hi : X.N[i]? = some n := by rfl) (hs : X.stack = X.env :: X.outer := by rfl) (hf : X.env.frame = some X.env.locals := by rfl) (hln : X.env.kindOf n = some .local := by rfl) :
    RS X W (.Try body [.ExceptHandler (some (.Name x np)) (some n) (b₀ :: suite) pos'] [] [] pos) (gTry [(x, true)] i gb gs) := by
  have key : ∀ {cn : Str} {b : Bool}, ([(x, true)] : List (Str × Bool)).lookup cn = some b → cn = x ∧ b = true := fun {cn b} q => by
    rw [List.lookup_cons] at q
    cases z : cn == x with
    | true =>
      rw [z] at q
      cases q
      exact ⟨eq_of_beq z, rfl⟩
    | false =>
      rw [z] at q
      cases q
  refine rs_try (c := .ref C) ⟨hg, db, .inl T.g⟩ tk hN (fun cn b q => ?_) (fun W' pn xe t _ => hb W' pn xe t) (fun a oe Ca dd pn cn q m z v => ?_) hI hi hs hf hln
  · obtain ⟨rfl, rfl⟩ := key q
    exact ⟨C, T.g, T.x⟩
  · obtain ⟨rfl, _⟩ := key q
    rw [T.g] at m
    obtain rfl : C = Ca := by injection m with m; injection m
    exact su a oe dd pn z v
end
/-- the second and the third one change their places -/
def sw3 {α : Type} : List α → List α
  | [a, b, c] => [a, c, b]
  | l => l
theorem sw3_len {α : Type} (l : List α) : (sw3 l).length = l.length := by
  match l with
  | [] => rfl
  | [_] => rfl
  | [_, _] => rfl
  | [_, _, _] => rfl
  | _ :: _ :: _ :: _ :: _ => rfl
section
variable {P : Program} {w : World} {K : PySem.W.Frag} {mg : Str → Option Value} {base : Heap}
def KwB (K : PySem.W.Frag) (fd : FuncData) (ps ks : List Str) (pu : List Value → List Value) : Prop := ∀ (s : Shared) (us ws : List Value), K.In s.heap → (us ++ ws).length = ps.length → ws.length = ks.length → BindsTo s fd ⟨us, ks.zip ws⟩ (ps.zip (pu (us ++ ws)))
theorem fnd_kw {x qual : Str} {st : Stmt} {f : Addr} {fd : FuncData} {N ps ks : List Str} {k : Nat} {g : FS} (F : Fun K x qual st f fd) (S : FnScope N ps (defScope st)) (hb : KwB K fd ps ks id)
    (body : ∀ (cdv : Value) (A : Around) (outer : List Env) (s : Shared) (H : Hp) (E : XK), Room k (A.deeper (envOfC qual (defScope st) s.heap.objs.size f cdv)) → (A.deeper (envOfC qual (defScope st) s.heap.objs.size f cdv)).guards = some [] →
      RSs (cxOf (L2.CX P w) P w K mg base N qual (defScope st) f cdv A outer s H E) (fun c d _ H => E c d H) (defBody st) g) : FnD P w K mg base (k + 1) f ks (callB N ps.length id g) :=
  fnd_of (pv := id) (pu := id) F S hb (fun vs h => h) (fun r _ => r) (fun r _ => r) body
theorem fnd_sw {x qual : Str} {st : Stmt} {f : Addr} {fd : FuncData} {N ps ks : List Str} {k : Nat} {g : FS} (F : Fun K x qual st f fd) (S : FnScope N ps (defScope st)) (hb : KwB K fd ps ks sw3)
    (body : ∀ (cdv : Value) (A : Around) (outer : List Env) (s : Shared) (H : Hp) (E : XK), Room k (A.deeper (envOfC qual (defScope st) s.heap.objs.size f cdv)) → (A.deeper (envOfC qual (defScope st) s.heap.objs.size f cdv)).guards = some [] →
      RSs (cxOf (L2.CX P w) P w K mg base N qual (defScope st) f cdv A outer s H E) (fun c d _ H => E c d H) (defBody st) g) : FnD P w K mg base (k + 1) f ks (callB N ps.length sw3 g) :=
  fnd_of (pv := sw3) (pu := sw3) F S hb (fun vs h => (sw3_len vs).trans h) (fun {vs us} r _ => by
    cases r with
    | nil => exact .nil
    | cons a r => cases r with
      | nil => exact .cons a .nil
      | cons b r => cases r with
        | nil => exact .cons a (.cons b .nil)
        | cons c r => cases r with
          | nil => exact .cons a (.cons c (.cons b .nil))
          | cons d r => exact .cons a (.cons b (.cons c (.cons d r)))) (fun {ι H ds vs} r _ => by
    cases r with
    | nil => exact .nil
    | cons a r => cases r with
      | nil => exact .cons a .nil
      | cons b r => cases r with
        | nil => exact .cons a (.cons b .nil)
        | cons c r => cases r with
          | nil => exact .cons a (.cons c (.cons b .nil))
          | cons d r => exact .cons a (.cons b (.cons c (.cons d r)))) body
/-- keywords bound: from the def's facts -/
theorem kwb_of {x qual : Str} {st : Stmt} {f : Addr} {fd : FuncData} {ps ks : List Str} {pu : List Value → List Value} (F : Fun K x qual st f fd)
    (h : ∀ (kV doc pm : Value) (an : Option Addr) (cdv ct : Value) (us ws : List Value), (us ++ ws).length = ps.length → ws.length = ks.length → bindArgs (PySem.W.fnOf x qual (defArgs st) (defBody st) (defScope st) .none kV doc pm an cdv ct) ⟨us, ks.zip ws⟩ = pure (ps.zip (pu (us ++ ws)))) : KwB K fd ps ks pu := by
  obtain ⟨oc, od, kV, doc, pm, an, cdv, ct, osl, rfl, lk, hcd⟩ := F.ex
  exact fun s us ws _ h1 h2 => .of_eq (h kV doc pm an cdv ct us ws h1 h2)
end
end Lg
set_option Elab.async false
set_option linter.all false
set_option maxRecDepth 100000
set_option maxHeartbeats 1000000
/-! data that can be shown, and texts of them shown again -/
namespace Lg
open PySem PySem.Spec PyProof.Rows L2 Builtin Builtin.Str
/-- the signs of a text are bounded -/
def Ch (x : Str) : Prop := ∀ c ∈ x.cps.toList, c < 16 ^ 8
theorem Ch.of (s : String) : Ch (Str.ofString s) := fun c hc => by
  have e : (Str.ofString s).cps.toList = s.toList.map Char.toNat := by rw [Str.ofString_eq_toList]
  rw [e] at hc
  obtain ⟨d, _, rfl⟩ := List.mem_map.mp hc
  have := d.val.toNat_lt
  show d.val.toNat < 16 ^ 8
  exact Nat.lt_of_lt_of_le this (by decide)
theorem Ch.app {x y : Str} (h : Ch x) (k : Ch y) : Ch (x ++ y) := fun c hc => by
  have e : (x ++ y).cps.toList = x.cps.toList ++ y.cps.toList := by
    show (x.cps ++ y.cps).toList = _
    simp
  rw [e] at hc
  rcases List.mem_append.mp hc with hc | hc
  · exact h c hc
  · exact k c hc
theorem ch_digits (n : Nat) : ∀ c ∈ (Nat.toDigits 16 n).map Char.toNat, c < 16 ^ 8 := fun c hc => by
  obtain ⟨d, _, rfl⟩ := List.mem_map.mp hc
  have := d.val.toNat_lt
  exact Nat.lt_of_lt_of_le this (by decide)
theorem ch_char {q c : Nat} (hq : q < 16 ^ 8) (hc : c < 16 ^ 8) : ∀ d ∈ reprChar q c, d < 16 ^ 8 := by
  have dg := ch_digits c
  intro d hd
  unfold reprChar at hd
  dsimp only at hd
  repeat' split at hd
  all_goals
    simp only [List.mem_append, List.mem_cons, List.not_mem_nil, or_false, List.mem_replicate] at hd
    first
    | omega
    | (rcases hd with hd | hd | hd | hd <;> first | omega | exact dg d hd | (obtain ⟨_, hd⟩ := hd; omega))
    | (rcases hd with hd | hd | hd <;> first | omega | exact dg d hd | (obtain ⟨_, hd⟩ := hd; omega))
    | (rcases hd with (hd | hd) | hd | hd <;> first | omega | exact dg d hd | (obtain ⟨_, hd⟩ := hd; omega))
theorem ch_fold {q : Nat} (hq : q < 16 ^ 8) : ∀ (l : List Nat) (acc : Array Nat), (∀ c ∈ l, c < 16 ^ 8) → (∀ c ∈ acc.toList, c < 16 ^ 8) → ∀ c ∈ (l.foldl (fun out c => out ++ (reprChar q c).toArray) acc).toList, c < 16 ^ 8
  | [], acc, _, h => h
  | c :: r, acc, h, k => by
    refine ch_fold hq r _ (fun d hd => h d (List.mem_cons_of_mem _ hd)) fun d hd => ?_
    rw [Array.toList_append] at hd
    rcases List.mem_append.mp hd with hd | hd
    · exact k d hd
    · exact ch_char hq (h c List.mem_cons_self) d (by simpa using hd)
theorem ch_quote (x : Str) : reprQuote x < 16 ^ 8 := by
  unfold reprQuote
  split <;> decide
theorem Ch.repr {x : Str} (h : Ch x) : Ch (reprText x) := fun c hc => by
  have e : (reprText x).cps.toList = (x.cps.toList.foldl (fun out c => out ++ (reprChar (reprQuote x) c).toArray) #[reprQuote x]).toList ++ [reprQuote x] := by
    unfold reprText
    dsimp only
    rw [Array.toList_push, ← Array.foldl_toList]
  rw [e] at hc
  rcases List.mem_append.mp hc with hc | hc
  · refine ch_fold (ch_quote x) _ _ h (fun d hd => ?_) c hc
    have : d = reprQuote x := by simpa using hd
    rw [this]
    exact ch_quote x
  · have : c = reprQuote x := by simpa using hc
    rw [this]
    exact ch_quote x
theorem ch_from : ∀ (ts : List Str) (k : Nat) (acc : Str), (∀ t ∈ ts, Ch t) → Ch acc → Ch (textFrom k acc ts)
  | [], _, _, _, h => h
  | t :: ts, k, acc, h, ha => ch_from ts (k + 1) _ (fun x hx => h x (List.mem_cons_of_mem _ hx)) ((ha.app (by split <;> exact Ch.of _)).app (h t List.mem_cons_self))
theorem Ch.list {ts : List Str} (h : ∀ t ∈ ts, Ch t) : Ch (listText ts) := (ch_from ts 0 _ h (Ch.of "[")).app (Ch.of "]")
theorem ch_join : ∀ (ts : List Str), (∀ t ∈ ts, Ch t) → Ch (Str.join ", " ts)
  | [], _ => Ch.of ""
  | [x], h => h x List.mem_cons_self
  | x :: y :: r, h => by
    show Ch (x ++ ", " ++ Str.join ", " (y :: r))
    exact ((h x List.mem_cons_self).app (Ch.of ", ")).app (ch_join (y :: r) fun t ht => h t (List.mem_cons_of_mem _ ht))
theorem Ch.tuple {ts : List Str} (h : ∀ t ∈ ts, Ch t) : Ch (tupleText ts) := by
  unfold tupleText
  exact ((Ch.of "(").app (ch_join ts h)).app (by split <;> exact Ch.of _)
/-- it can be shown: how deep, how long -/
structure Sh (k B : Nat) (d : PyData) : Prop where
  dp : d.depth ≤ k
  sh : d.showable = true
  ln : d.shown.length ≤ B
  ch : Ch d.shown
theorem Sh.mono {k B j C : Nat} {d : PyData} (h : Sh k B d) (a : k ≤ j) (b : B ≤ C) : Sh j C d := ⟨Nat.le_trans h.dp a, h.sh, Nat.le_trans h.ln b, h.ch⟩
theorem shAll {k B : Nat} : ∀ {ds : List PyData}, (∀ d ∈ ds, Sh k B d) → PyData.depthAll ds ≤ k ∧ PyData.showableAll ds = true ∧ ((PyData.shownAll ds).map (·.length)).sum ≤ ds.length * B ∧ (PyData.shownAll ds).length = ds.length ∧ ∀ t ∈ PyData.shownAll ds, Ch t
  | [], _ => ⟨by simp [PyData.depthAll], by simp [PyData.showableAll], by simp [PyData.shownAll], by simp [PyData.shownAll], by simp [PyData.shownAll]⟩
  | d :: ds, h => by
    obtain ⟨h1, h2, h3, h4, h5⟩ := shAll fun e he => h e (List.mem_cons_of_mem _ he)
    have g := h d List.mem_cons_self
    have g1 := g.dp
    have g3 := g.ln
    refine ⟨by simp only [PyData.depthAll]; omega, by rw [PyData.showableAll, h2, g.sh]; rfl, ?_, by simp [PyData.shownAll, h4], ?_⟩
    · simp only [PyData.shownAll, List.map_cons, List.sum_cons, List.length_cons, Nat.succ_mul]
      omega
    · intro t ht
      rw [PyData.shownAll] at ht
      rcases List.mem_cons.mp ht with rfl | ht
      · exact g.ch
      · exact h5 t ht
theorem Sh.lst {k B : Nat} {ds : List PyData} (h : ∀ d ∈ ds, Sh k B d) : Sh (k + 1) (ds.length * (B + 2) + 3) (.list ds) := by
  obtain ⟨h1, h2, h3, h4, h5⟩ := shAll h
  have l := listText_len_le (PyData.shownAll ds)
  refine ⟨by simp only [PyData.depth]; omega, by simpa only [PyData.showable] using h2, ?_, ?_⟩
  · simp only [PyData.shown]
    rw [Nat.mul_add]
    omega
  · simp only [PyData.shown]
    exact Ch.list h5
theorem Sh.tup {k B : Nat} {ds : List PyData} (h : ∀ d ∈ ds, Sh k B d) : Sh (k + 1) (ds.length * (B + 2) + 3) (.tuple ds) := by
  obtain ⟨h1, h2, h3, h4, h5⟩ := shAll h
  have l := tupleText_len_le (PyData.shownAll ds)
  refine ⟨by simp only [PyData.depth]; omega, by simpa only [PyData.showable] using h2, ?_, ?_⟩
  · simp only [PyData.shown]
    rw [Nat.mul_add]
    omega
  · simp only [PyData.shown]
    exact Ch.tuple h5
theorem Sh.str {x : Str} {n : Nat} (h : Ch x) (l : x.length ≤ n) : Sh 0 (10 * n + 2) (.str x) := by
  have := StrLaws.reprText_len x h
  refine ⟨Nat.zero_le _, by simp [PyData.showable], ?_, ?_⟩
  · simp only [PyData.shown]; omega
  · simp only [PyData.shown]; exact h.repr
theorem Sh.non : Sh 0 4 .none := ⟨by decide, by decide, by decide, by simp only [PyData.shown]; exact Ch.of "None"⟩
theorem Sh.bl (b : Bool) : Sh 0 5 (.bool b) := ⟨by cases b <;> decide, by cases b <;> decide, by cases b <;> decide, by cases b <;> (simp only [PyData.shown]; exact Ch.of _)⟩
theorem Sh.int {i : Int} {B : Nat} (h : i.natAbs.log2 < 1920) (l : (PyData.int i).shown.length ≤ B) : Sh 0 B (.int i) := ⟨Nat.zero_le _, by simpa only [PyData.showable, decide_eq_true_eq] using h, l, by simp only [PyData.shown]; exact Ch.of _⟩
theorem Sh.ints {i : Int} (h : i.natAbs < 1000000) : Sh 0 13 (.int i) := Sh.int (by
  have : i.natAbs.log2 ≤ i.natAbs := Nat.log2_le_self _
  by_cases c : i.natAbs = 0
  · rw [c]; decide
  · have := (Nat.log2_lt (n := i.natAbs) (k := 1920) c).mpr (Nat.lt_of_lt_of_le h (Nat.le_trans (by decide : 1000000 ≤ 2 ^ 20) (Nat.pow_le_pow_right (by decide) (by decide))))
    exact this) (PyData.shown_int_le (Nat.lt_of_lt_of_le h (by decide)))
theorem Sh.dic0 : Sh 1 2 (.dict []) := ⟨by decide, by decide, by decide, by simp only [PyData.shown]; exact Ch.of "{}"⟩
theorem Sh.big : Sh 0 50 (.int (10 ^ 39)) ∧ Sh 0 50 (.int (-(10 ^ 39))) := ⟨Sh.int (by decide) (by decide +kernel), Sh.int (by decide) (by decide +kernel)⟩
theorem reprE_same {h : Hh} {d : D} {p : PyData} {k B : Nat} (e : pyE h 66 d = some p) (g : Sh k B p) (hk : k ≤ 60) (hB : B ≤ 16000000) : bReprE [d] h = some (D.str p.shown, h) := by
  show (match pyE h 66 d with
    | some p => if showE p then some (D.str p.shown, h) else none
    | none => none) = _
  rw [e]
  dsimp only
  have : showE p = true := by
    unfold showE
    rw [g.sh, decide_eq_true (Nat.le_trans g.dp hk), decide_eq_true (Nat.le_trans g.ln hB)]
    rfl
  rw [this, if_pos rfl]
/-- data that stand nowhere in the heap -/
def Nice (d : D) (p : PyData) : Prop := ∀ h n, pyE h (n + 4) d = some p
theorem pyE_cons {h : Hh} {n : Nat} {d : D} {p : PyData} {l : List D} {ps : List PyData} (a : pyE h n d = some p) (b : l.mapM (pyE h n) = some ps) : (d :: l).mapM (pyE h n) = some (p :: ps) := by
  rw [List.mapM_cons, a]
  show (do let ys ← l.mapM (pyE h n); some (p :: ys)) = _
  rw [b]
  rfl
theorem pyE_mapf {α : Type} {h : Hh} {n : Nat} {f : α → D} {g : α → PyData} (e : ∀ a, pyE h n (f a) = some (g a)) : ∀ l : List α, (l.map f).mapM (pyE h n) = some (l.map g)
  | [] => rfl
  | a :: l => by
    rw [List.map_cons, List.map_cons]
    exact pyE_cons (e a) (pyE_mapf e l)
/-- one that has less -/
theorem py_pyE {h : Hh} : ∀ (n : Nat) (d : D) (p : PyData), py h n d = some p → pyE h n d = some p
  | 0, _, _, e => by cases e
  | n + 1, d, p, e => by
    have ih := py_pyE (h := h) n
    have all : ∀ (l : List D) (ps : List PyData), l.mapM (py h n) = some ps → l.mapM (pyE h n) = some ps := fun l => by
      induction l with
      | nil => intro ps e; exact e
      | cons d l il =>
        intro ps e
        simp only [List.mapM_cons, Option.bind_eq_bind, Option.bind_eq_some_iff, Option.pure_def, Option.some.injEq] at e
        obtain ⟨p, h1, ps', h2, e⟩ := e
        subst e
        exact pyE_cons (ih _ _ h1) (il _ h2)
    have am : ∀ (l : List D) (f : List PyData → PyData), (l.mapM (py h n)).map f = some p → (l.mapM (pyE h n)).map f = some p := fun l f e => by
      obtain ⟨ps, e1, e2⟩ := Option.map_eq_some_iff.mp e
      rw [all _ _ e1]
      exact congrArg some e2
    cases d with
    | tup l => exact am l _ e
    | frt l => exact am l _ e
    | lst l => exact am l _ e
    | frz l => exact am l _ e
    | dic t l => cases e
    | ref k =>
      cases q : h[k]? with
      | none => simp [py, q] at e
      | some o =>
        cases o with
        | lst l =>
          simp only [py, q] at e
          simp only [pyE, q]
          exact am l _ e
        | _ => simp [py, q] at e
    | _ => first | exact e | cases e
end Lg
set_option Elab.async false
set_option linter.all false
set_option maxRecDepth 100000
set_option maxHeartbeats 1000000
/-! facts of own errors and of keywords, out of what the top has written -/
namespace Lg
open PySem PySem.Spec PyProof.Rows L2
open Lx (Err Keeps)
section
variable {K : PySem.W.Frag}
theorem exm_self {C N b2 : Addr} {nm q : Str} {bs : List Value} {sn : List Str} {sub : List Value} {ab : Bool} {col : Option Bool} {dd : Option Addr} {k0 k1 k2 k3 k5 : Option Value} (hx : PySem.W.subIn K (.ref C) (.type "BaseException") = some true) (ht : PySem.W.typeIn K (.ref C) = some (.type "type"))
    (hC : K.lookup C = some (excClassObj nm q C N bs (.ref b2 :: ESX.exTail) true sn sub ab col dd k0 k1 k2 k3 k5 "Exception.__new__")) (hs : PySem.W.subIn K (.ref C) (.ref C) = some true) : PySem.W.exmOne K (.ref C) (.ref C) = some true := by
  unfold PySem.W.exmOne
  rw [hx, if_pos (by decide)]
  unfold PySem.W.kitCls
  have : (PySem.W.clsIn K C).isSome = true := by
    unfold PySem.W.clsIn
    rw [hC]
    rfl
  dsimp only
  rw [this, ht, if_pos (by decide)]
  exact hs
theorem kwb1 {x qual : Str} {st : Stmt} {f : Addr} {fd : FuncData} {p1 p2 k1 : Str} {pu : List Value → List Value} (F : Fun K x qual st f fd)
    (h : ∀ (kV doc pm : Value) (an : Option Addr) (cdv ct a b : Value), bindArgs (PySem.W.fnOf x qual (defArgs st) (defBody st) (defScope st) .none kV doc pm an cdv ct) ⟨[a], [(k1, b)]⟩ = pure ([p1, p2].zip (pu [a, b]))) : KwB K fd [p1, p2] [k1] pu :=
  kwb_of F fun kV doc pm an cdv ct us ws h1 h2 => by
    match ws, h2 with
    | [b], _ =>
      match us, h1 with
      | [a], _ => exact h kV doc pm an cdv ct a b
      | [], h1 => exact absurd h1 (by simp)
      | _ :: _ :: us, h1 => exact absurd h1 (by simp)
    | [], h2 => exact absurd h2 (by simp)
    | _ :: _ :: ws, h2 => exact absurd h2 (by simp)
theorem kwb2 {x qual : Str} {st : Stmt} {f : Addr} {fd : FuncData} {p1 p2 p3 k1 k2 : Str} {pu : List Value → List Value} (F : Fun K x qual st f fd)
    (h : ∀ (kV doc pm : Value) (an : Option Addr) (cdv ct a b c : Value), bindArgs (PySem.W.fnOf x qual (defArgs st) (defBody st) (defScope st) .none kV doc pm an cdv ct) ⟨[a], [(k1, b), (k2, c)]⟩ = pure ([p1, p2, p3].zip (pu [a, b, c]))) : KwB K fd [p1, p2, p3] [k1, k2] pu :=
  kwb_of F fun kV doc pm an cdv ct us ws h1 h2 => by
    match ws, h2 with
    | [b, c], _ =>
      match us, h1 with
      | [a], _ => exact h kV doc pm an cdv ct a b c
      | [], h1 => exact absurd h1 (by simp)
      | _ :: _ :: us, h1 => exact absurd h1 (by simp)
    | [], h2 => exact absurd h2 (by simp)
    | [_], h2 => exact absurd h2 (by simp)
    | _ :: _ :: _ :: ws, h2 => exact absurd h2 (by simp)
end
end Lg
set_option linter.all false
namespace Lf
section
variable {α : Type} [DecidableEq α]
/-- what a book says of two neighbours -/
abbrev Tab (α : Type) := α → α → Option (List α)
/-- no result is longer than one -/
def Small (L : Tab α) : Prop := ∀ x y r, L x y = some r → r.length ≤ 1
/-- one fold -/
inductive Fd (L : Tab α) : List α → List α → Prop
  | mk (p q : List α) {x y : α} {r : List α} : L x y = some r → Fd L (p ++ x :: y :: q) (p ++ (r ++ q))
/-- folds, any number -/
inductive Fds (L : Tab α) : List α → List α → Prop
  | refl (a : List α) : Fds L a a
  | head {a b c : List α} : Fd L a b → Fds L b c → Fds L a c
def Net (L : Tab α) : List α → Prop
  | [] => True
  | [_] => True
  | x :: y :: l => L x y = none ∧ Net L (y :: l)
theorem Fds.trans {L : Tab α} {a b c : List α} (h : Fds L a b) (k : Fds L b c) : Fds L a c := by
  induction h with
  | refl => exact k
  | head s _ ih => exact .head s (ih k)
theorem Fds.one {L : Tab α} {a b : List α} (h : Fd L a b) : Fds L a b := .head h (.refl _)
theorem Fd.len {L : Tab α} (g : Small L) {a b : List α} (h : Fd L a b) : b.length < a.length := by
  cases h with
  | mk p q e =>
    have := g _ _ _ e
    simp only [List.length_append, List.length_cons]
    omega
theorem Fd.ctx {L : Tab α} {a b : List α} (h : Fd L a b) (u v : List α) : Fd L (u ++ (a ++ v)) (u ++ (b ++ v)) := by
  cases h with
  | mk p q e =>
    have := Fd.mk (L := L) (u ++ p) (q ++ v) e
    simpa [List.append_assoc] using this
theorem Fds.ctx {L : Tab α} {a b : List α} (h : Fds L a b) (u v : List α) : Fds L (u ++ (a ++ v)) (u ++ (b ++ v)) := by
  induction h with
  | refl => exact .refl _
  | head s _ ih => exact .head (s.ctx u v) ih
/-- a net has no fold; what has none is a net -/
theorem Net.app_right {L : Tab α} : ∀ (p : List α) {q : List α}, Net L (p ++ q) → Net L q
  | [], _, h => h
  | [x], q, h => by
    cases q with
    | nil => trivial
    | cons y q => exact h.2
  | x :: y :: p, q, h => Net.app_right (y :: p) h.2
theorem Net.no {L : Tab α} {a b : List α} (h : Net L a) (s : Fd L a b) : False := by
  cases s with
  | mk p q e =>
    have h2 := Net.app_right p h
    have h3 : L _ _ = none := h2.1
    rw [h3] at e
    cases e
theorem net_or {L : Tab α} : ∀ (a : List α), Net L a ∨ ∃ b, Fd L a b
  | [] => .inl trivial
  | [_] => .inl trivial
  | x :: y :: l => by
    cases e : L x y with
    | some r => exact .inr ⟨_, Fd.mk [] l e⟩
    | none =>
      rcases net_or (y :: l) with h | ⟨b, h⟩
      · exact .inl ⟨e, h⟩
      · have := h.ctx [x] []
        simp only [List.append_nil] at this
        exact .inr ⟨_, this⟩
theorem net_exists {L : Tab α} (g : Small L) : ∀ (n : Nat) (a : List α), a.length ≤ n → ∃ b, Fds L a b ∧ Net L b
  | 0, a, h => by
    have : a = [] := List.length_eq_zero_iff.mp (by omega)
    subst this
    exact ⟨[], .refl _, trivial⟩
  | n + 1, a, h => by
    rcases net_or (L := L) a with hn | ⟨b, hb⟩
    · exact ⟨a, .refl _, hn⟩
    · have := hb.len g
      obtain ⟨c, h1, h2⟩ := net_exists g n b (by omega)
      exact ⟨c, .head hb h1, h2⟩
/-- the net of a row of at most two -/
def nf2 (L : Tab α) : List α → List α
  | [x, y] => (L x y).getD [x, y]
  | l => l
theorem net_small {L : Tab α} : ∀ {a : List α}, a.length ≤ 1 → Net L a
  | [], _ => trivial
  | [_], _ => trivial
  | _ :: _ :: _, h => by simp at h
theorem nf2_net {L : Tab α} (g : Small L) : ∀ {a : List α}, a.length ≤ 2 → Net L (nf2 L a)
  | [], _ => trivial
  | [_], _ => trivial
  | [x, y], _ => by
    show Net L ((L x y).getD [x, y])
    cases e : L x y with
    | none => exact ⟨e, trivial⟩
    | some r => exact net_small (g _ _ _ e)
  | _ :: _ :: _ :: _, h => by simp at h
theorem nf2_to {L : Tab α} : ∀ {a : List α}, Fds L a (nf2 L a)
  | [] => .refl _
  | [_] => .refl _
  | [x, y] => by
    show Fds L [x, y] ((L x y).getD [x, y])
    cases e : L x y with
    | none => exact .refl _
    | some r =>
      have := Fd.mk (L := L) [] [] e
      simp only [List.nil_append, List.append_nil] at this
      exact .one this
  | _ :: _ :: _ :: _ => .refl _
theorem Fd.cons_inv {L : Tab α} {a c : List α} (h : Fd L a c) : ∃ p q x y r, a = p ++ x :: y :: q ∧ c = p ++ (r ++ q) ∧ L x y = some r := by
  cases h with
  | mk p q e => exact ⟨p, q, _, _, _, rfl, rfl, e⟩
theorem short_inv {L : Tab α} : ∀ {a c : List α}, a.length ≤ 2 → Fd L a c → ∃ x y r, a = [x, y] ∧ c = r ∧ L x y = some r := fun {a c} h s => by
  obtain ⟨p, q, x, y, r, rfl, rfl, e⟩ := s.cons_inv
  simp only [List.length_append, List.length_cons] at h
  have hp : p = [] := List.length_eq_zero_iff.mp (by omega)
  have hq : q = [] := List.length_eq_zero_iff.mp (by omega)
  subst hp hq
  exact ⟨x, y, r, rfl, by simp, e⟩
theorem nf2_uniq {L : Tab α} (g : Small L) {a n : List α} (h : a.length ≤ 2) (s : Fds L a n) (hn : Net L n) : n = nf2 L a := by
  cases s with
  | refl =>
    match a, h with
    | [], _ => rfl
    | [_], _ => rfl
    | [x, y], _ =>
      show [x, y] = (L x y).getD [x, y]
      rw [show L x y = none from hn.1]
      rfl
    | _ :: _ :: _ :: _, h => simp at h
  | head s1 s2 =>
    obtain ⟨x, y, r, rfl, rfl, e⟩ := short_inv h s1
    have hr : Net L _ := net_small (g _ _ _ e)
    cases s2 with
    | refl =>
      show _ = (L x y).getD [x, y]
      rw [e]
      rfl
    | head s3 _ => exact (hr.no s3).elim
/-- two ways to fold a row of three that end unlike -/
def Clash (L : Tab α) (x y z : α) : Prop := ∃ r s, L x y = some r ∧ L y z = some s ∧ nf2 L (r ++ [z]) ≠ nf2 L (x :: s)
theorem three_inv {L : Tab α} {x y z : α} {c : List α} (s : Fd L [x, y, z] c) : (∃ r, L x y = some r ∧ c = r ++ [z]) ∨ ∃ r, L y z = some r ∧ c = x :: r := by
  obtain ⟨p, q, u, v, r, e, rfl, hr⟩ := s.cons_inv
  match p, e with
  | [], e =>
    simp only [List.nil_append, List.cons.injEq] at e
    obtain ⟨rfl, rfl, rfl⟩ := e
    exact .inl ⟨r, hr, by simp⟩
  | [a], e =>
    simp only [List.cons_append, List.nil_append, List.cons.injEq] at e
    obtain ⟨rfl, rfl, rfl, rfl⟩ := e
    exact .inr ⟨r, hr, by simp⟩
  | a :: b :: p, e =>
    exfalso
    have := congrArg List.length e
    simp only [List.length_append, List.length_cons, List.length_nil] at this
    omega
theorem len_left {L : Tab α} (g : Small L) {x y z : α} {r : List α} (e : L x y = some r) : (r ++ [z]).length ≤ 2 := by
  have := g _ _ _ e
  simp only [List.length_append, List.length_cons, List.length_nil]
  omega
theorem len_right {L : Tab α} (g : Small L) {x y z : α} {r : List α} (e : L y z = some r) : (x :: r).length ≤ 2 := by
  have := g _ _ _ e
  simp only [List.length_cons]
  omega
/-- a row of three has two nets exactly if it is a clash -/
theorem clash_iff {L : Tab α} (g : Small L) (x y z : α) : Clash L x y z ↔ ∃ m n, m ≠ n ∧ (Fds L [x, y, z] m ∧ Net L m) ∧ (Fds L [x, y, z] n ∧ Net L n) := by
  constructor
  · rintro ⟨r, s, e1, e2, ne⟩
    have f1 : Fd L [x, y, z] (r ++ [z]) := by
      have := Fd.mk (L := L) [] [z] e1
      simpa using this
    have f2 : Fd L [x, y, z] (x :: s) := by
      have := Fd.mk (L := L) [x] [] e2
      simpa using this
    exact ⟨_, _, ne, ⟨.head f1 nf2_to, nf2_net g (len_left g e1)⟩, ⟨.head f2 nf2_to, nf2_net g (len_right g e2)⟩⟩
  · rintro ⟨m, n, ne, ⟨hm, nm⟩, ⟨hn, nn⟩⟩
    have key : ∀ k, Fds L [x, y, z] k → Net L k → (k = [x, y, z]) ∨ (∃ r, L x y = some r ∧ k = nf2 L (r ++ [z])) ∨ (∃ r, L y z = some r ∧ k = nf2 L (x :: r)) := by
      intro k hk nk
      cases hk with
      | refl => exact .inl rfl
      | head s1 s2 =>
        rcases three_inv s1 with ⟨r, e, rfl⟩ | ⟨r, e, rfl⟩
        · exact .inr (.inl ⟨r, e, nf2_uniq g (len_left g e) s2 nk⟩)
        · exact .inr (.inr ⟨r, e, nf2_uniq g (len_right g e) s2 nk⟩)
    have self : ∀ k, Net L k → k = [x, y, z] → L x y = none ∧ L y z = none := by
      rintro k nk rfl
      exact ⟨nk.1, nk.2.1⟩
    rcases key m hm nm with h1 | ⟨r, e, h1⟩ | ⟨r, e, h1⟩
    · obtain ⟨a, b⟩ := self m nm h1
      rcases key n hn nn with h2 | ⟨r, e, h2⟩ | ⟨r, e, h2⟩
      · exact (ne (h1.trans h2.symm)).elim
      · rw [a] at e; cases e
      · rw [b] at e; cases e
    · rcases key n hn nn with h2 | ⟨r', e', h2⟩ | ⟨r', e', h2⟩
      · obtain ⟨a, b⟩ := self n nn h2
        rw [a] at e; cases e
      · rw [e] at e'; cases e'; exact (ne (h1.trans h2.symm)).elim
      · exact ⟨r, r', e, e', fun q => ne (by rw [h1, h2, q])⟩
    · rcases key n hn nn with h2 | ⟨r', e', h2⟩ | ⟨r', e', h2⟩
      · obtain ⟨a, b⟩ := self n nn h2
        rw [b] at e; cases e
      · exact ⟨r', r, e', e, fun q => ne (by rw [h1, h2, q])⟩
      · rw [e] at e'; cases e'; exact (ne (h1.trans h2.symm)).elim
/-- entries of a row stay entries -/
def Over (P : α → Prop) (a : List α) : Prop := ∀ x ∈ a, P x
def Closed (L : Tab α) (P : α → Prop) : Prop := ∀ x y r, L x y = some r → Over P r
theorem Fd.over {L : Tab α} {P : α → Prop} (c : Closed L P) {a b : List α} (h : Fd L a b) (o : Over P a) : Over P b := by
  cases h with
  | mk p q e =>
    intro z hz
    simp only [List.mem_append] at hz
    rcases hz with hz | hz | hz
    · exact o z (by simp [hz])
    · exact c _ _ _ e z hz
    · exact o z (by simp [hz])
theorem Fds.over {L : Tab α} {P : α → Prop} (c : Closed L P) {a b : List α} (h : Fds L a b) (o : Over P a) : Over P b := by
  induction h with
  | refl => exact o
  | head s _ ih => exact ih (s.over c o)
theorem app_cases {α : Type} : ∀ {p p' q q' : List α}, p ++ q = p' ++ q' → (∃ m, p' = p ++ m ∧ q = m ++ q') ∨ ∃ m, p = p' ++ m ∧ q' = m ++ q
  | [], p', q, q', h => .inl ⟨p', rfl, h⟩
  | a :: p, [], q, q', h => .inr ⟨a :: p, rfl, h.symm⟩
  | a :: p, b :: p', q, q', h => by
    simp only [List.cons_append, List.cons.injEq] at h
    obtain ⟨rfl, h⟩ := h
    rcases app_cases h with ⟨m, rfl, e⟩ | ⟨m, rfl, e⟩
    · exact .inl ⟨m, rfl, e⟩
    · exact .inr ⟨m, rfl, e⟩
/-- one fold first or another one: both can be brought together -/
theorem join_after {L : Tab α} {P : α → Prop} (hc : ∀ x y z, P x → P y → P z → ¬ Clash L x y z) {p q : List α} {x y : α} {r : List α} (e : L x y = some r)
    {m q' : List α} {u v : α} {s : List α} (e' : L u v = some s) (h : x :: y :: q = m ++ u :: v :: q') (o : Over P (p ++ x :: y :: q)) :
    ∃ c, Fds L (p ++ (r ++ q)) c ∧ Fds L ((p ++ m) ++ (s ++ q')) c := by
  match m, h with
  | [], h =>
    simp only [List.nil_append, List.cons.injEq] at h
    obtain ⟨rfl, rfl, rfl⟩ := h
    rw [e] at e'
    cases e'
    exact ⟨_, .refl _, by simpa using Fds.refl _⟩
  | [a], h =>
    simp only [List.cons_append, List.nil_append, List.cons.injEq] at h
    obtain ⟨rfl, rfl, rfl⟩ := h
    have nc := hc x y v (o x (by simp)) (o y (by simp)) (o v (by simp))
    have eq : nf2 L (r ++ [v]) = nf2 L (x :: s) := Classical.byContradiction fun q => nc ⟨r, s, e, e', q⟩
    refine ⟨p ++ (nf2 L (r ++ [v]) ++ q'), ?_, ?_⟩
    · have := (nf2_to (L := L) (a := r ++ [v])).ctx p q'
      simpa [List.append_assoc] using this
    · rw [eq]
      have := (nf2_to (L := L) (a := x :: s)).ctx p q'
      simpa [List.append_assoc] using this
  | a :: b :: m, h =>
    simp only [List.cons_append, List.cons.injEq] at h
    obtain ⟨rfl, rfl, rfl⟩ := h
    refine ⟨p ++ (r ++ (m ++ (s ++ q'))), ?_, ?_⟩
    · have := Fd.mk (L := L) (p ++ (r ++ m)) q' e'
      exact .one (by simpa [List.append_assoc] using this)
    · have := Fd.mk (L := L) p (m ++ (s ++ q')) e
      exact .one (by simpa [List.append_assoc] using this)
theorem join {L : Tab α} {P : α → Prop} (hc : ∀ x y z, P x → P y → P z → ¬ Clash L x y z) {a b c : List α} (h1 : Fd L a b) (h2 : Fd L a c) (o : Over P a) : ∃ d, Fds L b d ∧ Fds L c d := by
  obtain ⟨p, q, x, y, r, rfl, rfl, e⟩ := h1.cons_inv
  obtain ⟨p', q', u, v, s, he, rfl, e'⟩ := h2.cons_inv
  rcases app_cases he with ⟨m, rfl, h⟩ | ⟨m, rfl, h⟩
  · exact join_after hc e e' h o
  · rw [he] at o
    obtain ⟨d, h3, h4⟩ := join_after hc e' e h o
    exact ⟨d, h4, h3⟩
/-- rules without a clash: just one net -/
theorem one_net {L : Tab α} {P : α → Prop} (g : Small L) (c : Closed L P) (hc : ∀ x y z, P x → P y → P z → ¬ Clash L x y z) : ∀ (n : Nat) (a : List α), a.length ≤ n → Over P a → ∀ m k, Fds L a m → Net L m → Fds L a k → Net L k → m = k
  | 0, a, h, o, m, k, hm, nm, hk, nk => by
    have e : a = [] := List.length_eq_zero_iff.mp (by omega)
    subst e
    have no : ∀ {t}, Fds L [] t → t = [] := fun {t} h => by
      cases h with
      | refl => rfl
      | head s _ =>
        have := s.len g
        simp at this
    rw [no hm, no hk]
  | n + 1, a, h, o, m, k, hm, nm, hk, nk => by
    cases hm with
    | refl =>
      cases hk with
      | refl => rfl
      | head s _ => exact (nm.no s).elim
    | head s1 t1 =>
      cases hk with
      | refl => exact (nk.no s1).elim
      | head s2 t2 =>
        obtain ⟨d, j1, j2⟩ := join hc s1 s2 o
        obtain ⟨e, he, ne⟩ := net_exists g d.length d (Nat.le_refl _)
        have l1 := s1.len g
        have l2 := s2.len g
        have q1 := one_net g c hc n _ (by omega) (s1.over c o) m e t1 nm (j1.trans he) ne
        have q2 := one_net g c hc n _ (by omega) (s2.over c o) k e t2 nk (j2.trans he) ne
        rw [q1, q2]
end
end Lf
set_option linter.all false
namespace Lf
section
variable {α : Type} [DecidableEq α]
/-- what the rule for the neighbours at k says -/
def at2 (L : Tab α) (a : List α) (k : Nat) : Option (List α) := match a[k]?, a[k + 1]? with
  | some x, some y => L x y
  | _, _ => none
def spots (L : Tab α) (a : List α) : List Nat := (List.range (a.length - 1)).filter fun k => (at2 L a k).isSome
def once (L : Tab α) (a : List α) (k : Nat) : List α := a.take k ++ ((at2 L a k).getD [] ++ a.drop (k + 2))
theorem cut_at : ∀ {a : List α} {k : Nat} {x y : α}, a[k]? = some x → a[k + 1]? = some y → a = a.take k ++ x :: y :: a.drop (k + 2)
  | [], k, x, y, h, _ => by simp at h
  | [b], 0, x, y, _, h => by simp at h
  | b :: c :: a, 0, x, y, h1, h2 => by
    simp at h1 h2
    subst h1 h2
    simp
  | b :: a, k + 1, x, y, h1, h2 => by
    simp only [List.getElem?_cons_succ] at h1 h2
    have := cut_at h1 h2
    simp only [List.take_succ_cons, List.cons_append, List.drop_succ_cons]
    exact congrArg (b :: ·) this
theorem at2_some {L : Tab α} {a : List α} {k : Nat} {r : List α} (h : at2 L a k = some r) : ∃ x y, a[k]? = some x ∧ a[k + 1]? = some y ∧ L x y = some r := by
  unfold at2 at h
  cases h1 : a[k]? with
  | none => simp [h1] at h
  | some x =>
    cases h2 : a[k + 1]? with
    | none => simp [h1, h2] at h
    | some y =>
      simp [h1, h2] at h
      exact ⟨x, y, rfl, rfl, h⟩
theorem at2_of {L : Tab α} {a : List α} {k : Nat} {x y : α} (h1 : a[k]? = some x) (h2 : a[k + 1]? = some y) : at2 L a k = L x y := by
  unfold at2
  rw [h1, h2]
theorem mem_spots {L : Tab α} {a : List α} {k : Nat} : k ∈ spots L a ↔ ∃ r, at2 L a k = some r := by
  unfold spots
  rw [List.mem_filter, List.mem_range]
  constructor
  · rintro ⟨_, h⟩
    exact Option.isSome_iff_exists.mp h
  · rintro ⟨r, h⟩
    obtain ⟨x, y, _, h2, _⟩ := at2_some h
    have := (List.getElem?_eq_some_iff.mp h2).1
    exact ⟨by omega, by rw [h]; rfl⟩
theorem once_fd {L : Tab α} {a : List α} {k : Nat} (h : k ∈ spots L a) : Fd L a (once L a k) := by
  obtain ⟨r, h⟩ := mem_spots.mp h
  obtain ⟨x, y, h1, h2, e⟩ := at2_some h
  have hc := cut_at h1 h2
  have f := Fd.mk (L := L) (a.take k) (a.drop (k + 2)) e
  rw [← hc] at f
  unfold once
  rw [h]
  exact f
theorem fd_once {L : Tab α} {a c : List α} (h : Fd L a c) : ∃ k ∈ spots L a, c = once L a k := by
  obtain ⟨p, q, x, y, r, rfl, rfl, e⟩ := h.cons_inv
  have h1 : (p ++ x :: y :: q)[p.length]? = some x := by simp
  have h2 : (p ++ x :: y :: q)[p.length + 1]? = some y := by simp
  have h3 : at2 L (p ++ x :: y :: q) p.length = some r := by rw [at2_of h1 h2, e]
  refine ⟨p.length, mem_spots.mpr ⟨r, h3⟩, ?_⟩
  unfold once
  rw [h3]
  simp
theorem net_spots {L : Tab α} {a : List α} : Net L a ↔ spots L a = [] := by
  constructor
  · intro h
    cases e : spots L a with
    | nil => rfl
    | cons k l => exact (h.no (once_fd (k := k) (by rw [e]; simp))).elim
  · intro h
    rcases net_or (L := L) a with hn | ⟨b, hb⟩
    · exact hn
    · obtain ⟨k, hk, _⟩ := fd_once hb
      rw [h] at hk
      simp at hk
theorem spots_len {L : Tab α} (a : List α) : (spots L a).length ≤ a.length - 1 := by
  unfold spots
  have := List.length_filter_le (fun k => (at2 L a k).isSome) (List.range (a.length - 1))
  rw [List.length_range] at this
  exact this
theorem nodup_len {β : Type} [DecidableEq β] : ∀ {l m : List β}, l.Nodup → (∀ x ∈ l, x ∈ m) → l.length ≤ m.length
  | [], m, _, _ => Nat.zero_le _
  | a :: l, m, nd, h => by
    rw [List.nodup_cons] at nd
    have ha : a ∈ m := h a (by simp)
    have := nodup_len (m := m.erase a) nd.2 fun x hx => (List.mem_erase_of_ne (by rintro rfl; exact nd.1 hx)).mpr (h x (by simp [hx]))
    rw [List.length_erase_of_mem ha] at this
    have : 0 < m.length := List.length_pos_of_mem ha
    simp only [List.length_cons]
    omega
/-- the nets of a row, each once -/
def EndsOf (L : Tab α) (a : List α) (es : List (List α)) : Prop := es.Nodup ∧ ∀ r, r ∈ es ↔ Fds L a r ∧ Net L r
def wt (B : Nat) : List (List α) → Nat
  | [] => 0
  | a :: l => B ^ a.length + wt B l
theorem wt_app (B : Nat) : ∀ l m : List (List α), wt B (l ++ m) = wt B l + wt B m
  | [], m => by simp [wt]
  | a :: l, m => by simp [wt, wt_app B l m]; omega
theorem wt_ge (B : Nat) (hB : 0 < B) : ∀ l : List (List α), l.length ≤ wt B l
  | [] => Nat.zero_le _
  | a :: l => by
    have := wt_ge B hB l
    have h : 0 < B ^ a.length := Nat.pow_pos hB
    simp only [List.length_cons, wt]
    omega
/-- the search: rows that wait, that are known, nets found; D: those that are done -/
structure Bfs (L : Tab α) (a : List α) (wa kn fo D : List (List α)) : Prop where
  perm : kn.Perm (wa ++ D)
  nd : kn.Nodup
  here : a ∈ kn
  to : ∀ r ∈ kn, Fds L a r
  on : ∀ r ∈ D, ∀ c, Fd L r c → c ∈ kn
  fnd : fo.Nodup
  fo : ∀ r, r ∈ fo ↔ r ∈ D ∧ Net L r
  sum : D.length + wt (a.length + 1) wa ≤ (a.length + 1) ^ a.length
theorem Bfs.start {L : Tab α} (a : List α) : Bfs L a [a] [a] [] [] where
  perm := by simp
  nd := by simp
  here := by simp
  to := fun r hr => by simp at hr; subst hr; exact .refl _
  on := fun r hr => by simp at hr
  fnd := List.nodup_nil
  fo := fun r => by simp
  sum := by simp [wt]
theorem Bfs.len {L : Tab α} {a : List α} {wa kn fo D : List (List α)} (b : Bfs L a wa kn fo D) : kn.length ≤ (a.length + 1) ^ a.length ∧ wa.length ≤ (a.length + 1) ^ a.length ∧ fo.length ≤ (a.length + 1) ^ a.length := by
  have h1 := b.perm.length_eq
  have h2 := wt_ge (a.length + 1) (by omega) wa
  have h3 := b.sum
  rw [List.length_append] at h1
  have h4 : fo.length ≤ D.length := by
    refine nodup_len b.fnd fun r hr => ((b.fo r).mp hr).1
  omega
theorem Bfs.done {L : Tab α} {a : List α} {kn fo D : List (List α)} (b : Bfs L a [] kn fo D) : EndsOf L a fo := by
  refine ⟨b.fnd, fun r => ?_⟩
  rw [b.fo]
  have hp : ∀ c, c ∈ kn ↔ c ∈ D := fun c => by simpa using b.perm.mem_iff (a := c)
  constructor
  · rintro ⟨h, n⟩
    exact ⟨b.to r ((hp r).mpr h), n⟩
  · rintro ⟨h, n⟩
    have key : ∀ {c d}, Fds L c d → c ∈ kn → d ∈ kn := by
      intro c d h
      induction h with
      | refl => exact id
      | head s _ ih => exact fun m => ih (b.on _ ((hp _).mp m) _ s)
    exact ⟨(hp r).mp (key h b.here), n⟩
/-- within the turn of one row: h the row, ks the spots that are left -/
structure BfsIn (L : Tab α) (a : List α) (h : List α) (ks : List Nat) (wa kn fo D : List (List α)) : Prop where
  perm : kn.Perm (wa ++ h :: D)
  nd : kn.Nodup
  here : a ∈ kn
  to : ∀ r ∈ kn, Fds L a r
  on : ∀ r ∈ D, ∀ c, Fd L r c → c ∈ kn
  mine : ∀ k ∈ spots L h, k ∉ ks → once L h k ∈ kn
  sub : ∀ k ∈ ks, k ∈ spots L h
  fnd : fo.Nodup
  fo : ∀ r, r ∈ fo ↔ (r ∈ D ∨ r = h) ∧ Net L r
  sum : D.length + 1 + wt (a.length + 1) wa + ks.length * (a.length + 1) ^ (h.length - 1) ≤ (a.length + 1) ^ a.length
theorem Fds.le {L : Tab α} (g : Small L) {a b : List α} (h : Fds L a b) : b.length ≤ a.length := by
  induction h with
  | refl => exact Nat.le_refl _
  | head s _ ih =>
    have := s.len g
    omega
/-- the row h is taken; nets found are noted -/
theorem Bfs.take {L : Tab α} (g : Small L) {a h : List α} {wa kn fo D : List (List α)} (b : Bfs L a (wa ++ [h]) kn fo D) :
    BfsIn L a h (spots L h) wa kn (if spots L h = [] then fo ++ [h] else fo) D := by
  have hk : h ∈ kn := b.perm.mem_iff.mpr (by simp)
  have hD : h ∉ D := fun q => by
    have := b.perm.nodup_iff.mp b.nd
    rw [List.nodup_append] at this
    exact this.2.2 h (by simp) h q rfl
  have hle : h.length ≤ a.length := (b.to h hk).le g
  refine ⟨by simpa using b.perm, b.nd, b.here, b.to, b.on, fun k hk hn => (hn hk).elim, fun k hk => hk, ?_, fun r => ?_, ?_⟩
  · split
    · rw [List.nodup_append]
      refine ⟨b.fnd, by simp, fun r hr s hs => ?_⟩
      simp at hs
      subst hs
      rintro rfl
      exact hD ((b.fo _).mp hr).1
    · exact b.fnd
  · split
    · rename_i e
      rw [List.mem_append, b.fo]
      have hn : Net L h := net_spots.mpr e
      constructor
      · rintro (⟨q, n⟩ | q)
        · exact ⟨.inl q, n⟩
        · simp at q
          subst q
          exact ⟨.inr rfl, hn⟩
      · rintro ⟨q | q, n⟩
        · exact .inl ⟨q, n⟩
        · exact .inr (by simp [q])
    · rename_i e
      rw [b.fo]
      constructor
      · rintro ⟨q, n⟩
        exact ⟨.inl q, n⟩
      · rintro ⟨q | q, n⟩
        · exact ⟨q, n⟩
        · subst q
          exact (e (net_spots.mp n)).elim
  · have h1 := b.sum
    have h2 := spots_len (L := L) h
    rw [wt_app] at h1
    simp only [wt, Nat.add_zero] at h1
    generalize hB : a.length + 1 = B at h1 ⊢
    have h3 : (spots L h).length * B ^ (h.length - 1) + 1 ≤ B ^ h.length := by
      cases e : h.length with
      | zero =>
        have : (spots L h).length = 0 := by omega
        rw [this]
        simp
      | succ m =>
        have hp : 0 < B ^ m := Nat.pow_pos (by omega)
        have hm : (spots L h).length + 1 ≤ B := by omega
        calc (spots L h).length * B ^ (m + 1 - 1) + 1 ≤ (spots L h).length * B ^ m + B ^ m := by
              rw [Nat.add_sub_cancel]; omega
          _ = ((spots L h).length + 1) * B ^ m := by rw [Nat.add_mul, Nat.one_mul]
          _ ≤ B * B ^ m := Nat.mul_le_mul_right _ hm
          _ = B ^ (m + 1) := by rw [Nat.pow_succ, Nat.mul_comm]
    omega
/-- one spot: what is met is known -/
theorem BfsIn.old {L : Tab α} {a h : List α} {k : Nat} {ks : List Nat} {wa kn fo D : List (List α)} (b : BfsIn L a h (k :: ks) wa kn fo D) (m : once L h k ∈ kn) : BfsIn L a h ks wa kn fo D :=
  { b with
    mine := fun j hj hn => by
      by_cases e : j = k
      · subst e; exact m
      · exact b.mine j hj (by simp [e, hn])
    sub := fun j hj => b.sub j (List.mem_cons_of_mem _ hj)
    sum := by
      have := b.sum
      simp only [List.length_cons, Nat.add_mul, Nat.one_mul] at this
      omega }
/-- .. or new -/
theorem BfsIn.new {L : Tab α} (g : Small L) {a h : List α} {k : Nat} {ks : List Nat} {wa kn fo D : List (List α)} (b : BfsIn L a h (k :: ks) wa kn fo D) (m : once L h k ∉ kn) :
    BfsIn L a h ks (wa ++ [once L h k]) (kn ++ [once L h k]) fo D := by
  have hk := b.sub k (by simp)
  have f := once_fd hk
  have hh : h ∈ kn := b.perm.mem_iff.mpr (by simp)
  refine ⟨?_, ?_, ?_, ?_, ?_, ?_, ?_, b.fnd, b.fo, ?_⟩
  · have p1 : (kn ++ [once L h k]).Perm ((wa ++ h :: D) ++ [once L h k]) := b.perm.append_right _
    refine p1.trans ?_
    rw [List.append_assoc, List.append_assoc]
    exact List.Perm.append_left wa List.perm_append_comm
  · rw [List.nodup_append]
    refine ⟨b.nd, by simp, fun r hr s hs => ?_⟩
    simp at hs
    subst hs
    rintro rfl
    exact m hr
  · simp [b.here]
  · intro r hr
    rw [List.mem_append] at hr
    rcases hr with hr | hr
    · exact b.to r hr
    · simp at hr
      subst hr
      exact (b.to h hh).trans (.one f)
  · intro r hr c hc
    exact List.mem_append_left _ (b.on r hr c hc)
  · intro j hj hn
    by_cases e : j = k
    · subst e; simp
    · exact List.mem_append_left _ (b.mine j hj (by simp [e, hn]))
  · exact fun j hj => b.sub j (List.mem_cons_of_mem _ hj)
  · have h1 := b.sum
    have h2 := f.len g
    rw [wt_app]
    simp only [wt, Nat.add_zero, List.length_cons, Nat.add_mul, Nat.one_mul] at h1 ⊢
    have h3 : (a.length + 1) ^ (once L h k).length ≤ (a.length + 1) ^ (h.length - 1) := Nat.pow_le_pow_right (by omega) (by omega)
    omega
theorem BfsIn.out {L : Tab α} {a h : List α} {wa kn fo D : List (List α)} (b : BfsIn L a h [] wa kn fo D) : Bfs L a wa kn fo (h :: D) where
  perm := b.perm
  nd := b.nd
  here := b.here
  to := b.to
  on := fun r hr c hc => by
    rcases List.mem_cons.mp hr with rfl | hr
    · obtain ⟨k, hk, rfl⟩ := fd_once hc
      exact b.mine k hk (by simp)
    · exact b.on r hr c hc
  fnd := b.fnd
  fo := fun r => by
    rw [b.fo, List.mem_cons]
    constructor
    · rintro ⟨h, n⟩; exact ⟨h.symm, n⟩
    · rintro ⟨h, n⟩; exact ⟨h.symm, n⟩
  sum := by
    have := b.sum
    simp only [List.length_cons, List.length_nil, Nat.zero_mul] at this ⊢
    omega
theorem BfsIn.len {L : Tab α} {a h : List α} {ks : List Nat} {wa kn fo D : List (List α)} (b : BfsIn L a h ks wa kn fo D) : kn.length ≤ (a.length + 1) ^ a.length ∧ wa.length ≤ (a.length + 1) ^ a.length := by
  have h1 := b.perm.length_eq
  have h2 := wt_ge (a.length + 1) (by omega) wa
  have h3 := b.sum
  rw [List.length_append, List.length_cons] at h1
  generalize ks.length * (a.length + 1) ^ (h.length - 1) = z at h3
  omega
/-- what the measure of the search falls by -/
theorem Bfs.lower {L : Tab α} (g : Small L) {a h : List α} {wa kn fo D : List (List α)} (b : Bfs L a (wa ++ [h]) kn fo D) {wa' kn' fo' : List (List α)} (b' : Bfs L a wa' kn' fo' (h :: D)) :
    (a.length + 1) ^ a.length - (h :: D).length < (a.length + 1) ^ a.length - D.length := by
  have h1 := b'.sum
  simp only [List.length_cons] at h1 ⊢
  omega
theorem EndsOf.two {L : Tab α} {a : List α} {es : List (List α)} (e : EndsOf L a es) : (1 < es.length) ↔ ∃ m n, m ≠ n ∧ (Fds L a m ∧ Net L m) ∧ (Fds L a n ∧ Net L n) := by
  constructor
  · intro h
    match es, e, h with
    | m :: n :: es, e, _ =>
      have nd := e.1
      simp only [List.nodup_cons, List.mem_cons, not_or] at nd
      exact ⟨m, n, nd.1.1, (e.2 m).mp (by simp), (e.2 n).mp (by simp)⟩
  · rintro ⟨m, n, ne, hm, hn⟩
    have h1 := (e.2 m).mpr hm
    have h2 := (e.2 n).mpr hn
    match es, h1, h2 with
    | [], h1, _ => simp at h1
    | [x], h1, h2 =>
      simp at h1 h2
      exact (ne (h1.trans h2.symm)).elim
    | _ :: _ :: _, _, _ => simp
theorem EndsOf.one {L : Tab α} {P : α → Prop} (g : Small L) (c : Closed L P) (hc : ∀ x y z, P x → P y → P z → ¬ Clash L x y z) {a : List α} {es : List (List α)} (o : Over P a) (e : EndsOf L a es) : es.length = 1 := by
  obtain ⟨b, hb, nb⟩ := net_exists g a.length a (Nat.le_refl _)
  have h1 := (e.2 b).mpr ⟨hb, nb⟩
  have h2 : ¬ 1 < es.length := fun q => by
    obtain ⟨m, n, ne, ⟨hm, nm⟩, ⟨hn, nn⟩⟩ := e.two.mp q
    exact ne (one_net g c hc a.length a (Nat.le_refl _) o m n hm nm hn nn)
  match es, h1, h2 with
  | [], h1, _ => simp at h1
  | [x], _, _ => rfl
  | _ :: _ :: _, _, h2 => simp at h2
end
end Lf
set_option linter.all false
namespace Lf
section
variable {α : Type} [DecidableEq α]
def isClash (L : Tab α) (x y z : α) : Bool := match L x y, L y z with
  | some r, some s => decide (nf2 L (r ++ [z]) ≠ nf2 L (x :: s))
  | _, _ => false
theorem isClash_iff {L : Tab α} {x y z : α} : isClash L x y z = true ↔ Clash L x y z := by
  unfold isClash Clash
  cases h1 : L x y with
  | none => simp
  | some r =>
    cases h2 : L y z with
    | none => simp
    | some s => simp
def clashL (ns : List α) (L : Tab α) : Option (List α) :=
  ns.findSome? fun x => ns.findSome? fun y => ns.findSome? fun z => if isClash L x y z = true then some [x, y, z] else none
theorem fs_step {β : Type} {g : α → Option β} {l : List α} {i : Nat} {x : α} (h : (l.take i).findSome? g = none) (hx : l[i]? = some x) (e : g x = none) : (l.take (i + 1)).findSome? g = none := by
  rw [List.take_add_one, hx, List.findSome?_append, h]
  simp [e]
theorem fs_hit {β : Type} {g : α → Option β} {l : List α} {i : Nat} {x : α} {b : β} (h : (l.take i).findSome? g = none) (hx : l[i]? = some x) (e : g x = some b) : l.findSome? g = some b := by
  have hl := (List.getElem?_eq_some_iff.mp hx)
  obtain ⟨hi, hx⟩ := hl
  rw [← List.take_append_drop i l, List.findSome?_append, h, List.drop_eq_getElem_cons hi, hx]
  simp [e]
theorem fs_all {β : Type} {g : α → Option β} {l : List α} (h : (l.take l.length).findSome? g = none) : l.findSome? g = none := by
  rwa [List.take_length] at h
theorem clashL_none {ns : List α} {L : Tab α} (h : clashL ns L = none) : ∀ x y z, x ∈ ns → y ∈ ns → z ∈ ns → ¬ Clash L x y z := by
  intro x y z hx hy hz hc
  unfold clashL at h
  rw [List.findSome?_eq_none_iff] at h
  have h1 := h x hx
  rw [List.findSome?_eq_none_iff] at h1
  have h2 := h1 y hy
  rw [List.findSome?_eq_none_iff] at h2
  have h3 := h2 z hz
  rw [if_pos (isClash_iff.mpr hc)] at h3
  cases h3
/-- going on only where there is a rule finds the same -/
theorem fs_filter {β : Type} {g : α → Option β} {p : α → Bool} : ∀ {l : List α}, (∀ x ∈ l, p x = false → g x = none) → (l.filter p).findSome? g = l.findSome? g
  | [], _ => rfl
  | a :: l, h => by
    have ih := fs_filter (g := g) (p := p) (l := l) fun x hx => h x (by simp [hx])
    cases e : p a with
    | true =>
      rw [List.filter_cons_of_pos e, List.findSome?_cons, List.findSome?_cons, ih]
    | false =>
      rw [List.filter_cons_of_neg (by simp [e]), ih, List.findSome?_cons, h a (by simp) e]
theorem fs_congr {β : Type} {g g' : α → Option β} : ∀ {l : List α}, (∀ x ∈ l, g x = g' x) → l.findSome? g = l.findSome? g'
  | [], _ => rfl
  | a :: l, h => by
    rw [List.findSome?_cons, List.findSome?_cons, h a (by simp), fs_congr (l := l) fun x hx => h x (by simp [hx])]
/-- the same by way of the entries that follow -/
theorem clashL_seconds (ns : List α) (L : Tab α) : clashL ns L = ns.findSome? fun x => (ns.filter fun y => (L x y).isSome).findSome? fun y => (ns.filter fun z => (L y z).isSome).findSome? fun z => if isClash L x y z = true then some [x, y, z] else none := by
  unfold clashL
  refine fs_congr fun x _ => ?_
  have e1 : ∀ y z, (L y z).isSome = false → isClash L x y z = false := fun y z h => by
    have : L y z = none := by simpa using h
    unfold isClash
    rw [this]
    cases L x y <;> rfl
  have e2 : ∀ y z, (L x y).isSome = false → isClash L x y z = false := fun y z h => by
    have : L x y = none := by simpa using h
    unfold isClash
    rw [this]
  rw [fs_filter fun y _ h => ?_]
  · refine fs_congr fun y _ => ?_
    rw [fs_filter fun z _ h => ?_]
    rw [if_neg (by rw [e1 y z h]; simp)]
  · rw [List.findSome?_eq_none_iff]
    intro z _
    rw [if_neg (by rw [e2 y z h]; simp)]
/-- what a list of rules tells -/
def tabL (rs : List (α × α × List α)) : Tab α := fun x y => (rs.find? fun q => decide (q.1 = x ∧ q.2.1 = y)).map (·.2.2)
def pairsOf (rs : List (α × α × List α)) : List (α × α) := rs.map fun q => (q.1, q.2.1)
theorem tabL_mem {rs : List (α × α × List α)} {x y : α} {r : List α} (h : tabL rs x y = some r) : (x, y, r) ∈ rs := by
  unfold tabL at h
  cases e : rs.find? fun q => decide (q.1 = x ∧ q.2.1 = y) with
  | none => rw [e] at h; cases h
  | some q =>
    rw [e] at h
    have h1 := List.find?_some e
    have h2 := List.mem_of_find?_eq_some e
    simp at h1 h
    obtain ⟨a, b, c⟩ := q
    simp at h1 h
    obtain ⟨rfl, rfl⟩ := h1
    subst h
    exact h2
theorem mem_tabL : ∀ {rs : List (α × α × List α)} {x y : α} {r : List α}, (pairsOf rs).Nodup → (x, y, r) ∈ rs → tabL rs x y = some r
  | [], _, _, _, _, h => by simp at h
  | (a, b, s) :: rs, x, y, r, nd, h => by
    have nd' : (a, b) ∉ pairsOf rs ∧ (pairsOf rs).Nodup := List.nodup_cons.mp nd
    unfold tabL
    rw [List.find?_cons]
    by_cases q : a = x ∧ b = y
    · obtain ⟨rfl, rfl⟩ := q
      simp
      rcases List.mem_cons.mp h with h | h
      · injection h with _ h
        injection h with _ h
        exact h.symm
      · exact (nd'.1 (List.mem_map.mpr ⟨_, h, rfl⟩)).elim
    · have : decide (a = x ∧ b = y) = false := decide_eq_false q
      simp only [this]
      rcases List.mem_cons.mp h with h | h
      · injection h with h1 h
        injection h with h2 h
        exact (q ⟨h1.symm, h2.symm⟩).elim
      · exact mem_tabL nd'.2 h
theorem tabL_perm {rs qs : List (α × α × List α)} (nd : (pairsOf rs).Nodup) (p : rs.Perm qs) : tabL rs = tabL qs := by
  funext x y
  have nd2 : (pairsOf qs).Nodup := (p.map _).nodup_iff.mp nd
  cases h : tabL rs x y with
  | some r => exact (mem_tabL nd2 (p.mem_iff.mp (tabL_mem h))).symm
  | none =>
    cases h2 : tabL qs x y with
    | none => rfl
    | some r => rw [mem_tabL nd (p.mem_iff.mpr (tabL_mem h2))] at h; cases h
end
end Lf
set_option Elab.async false
set_option linter.all false
set_option maxRecDepth 100000
set_option maxHeartbeats 2000000
namespace L4
open PySem PySem.Spec PyProof.Rows L2 Lg
def topS (i : Nat) : Stmt := PySem.Challenge.pw_logfolds_k04_nets_and_folds.main.body.getD i (.Pass ⟨0, 0, 0, 0⟩)
abbrev s_NoFold : Stmt := subS (topS 4) 0
section
variable {P : Program} {w : World} {K : PySem.W.Frag} {mg : Str → Option Value} {base : Heap}
abbrev s_is_integer : Stmt := topS 7
abbrev N_is_integer : List Str := ["thing"]
theorem sc_is_integer : FnScope N_is_integer ["thing"] (defScope s_is_integer) := ⟨rfl, rfl, rfl, by decide +kernel, rfl, by decide +kernel, by decide +kernel⟩
def f_is_integer : FS :=
  (gRt (fAndV (fIsI "int" (fV 0)) (fNotV (fIsI "bool" (fV 0)))))
def F_is_integer : List D → Hh → Oc D := callB N_is_integer 1 id (f_is_integer)
theorem d_is_integer (T : Txt mg) {f : Addr} {fd : FuncData} (F : Fun K "is_integer" "is_integer" s_is_integer f fd) (B : Binds K fd ["thing"] []) : FnD P w K mg base 1 f [] F_is_integer :=
  fnd_pos F sc_is_integer B fun cdv A outer s H E hr hg => by
  have tk := takes_of (X := cxOf (L2.CX P w) P w K mg base N_is_integer "is_integer" (defScope s_is_integer) f cdv A outer s H E) (E := E) rfl rfl rfl rfl
  have ps := passes_of (X := cxOf (L2.CX P w) P w K mg base N_is_integer "is_integer" (defScope s_is_integer) f cdv A outer s H E) rfl
  exact (rss_one (rs_ret (re_and (re_isi (by decide) T.isinstance (by decide +kernel) T.int (by decide +kernel) (re_v 0)) (re_one (re_not (re_isi (by decide) T.isinstance (by decide +kernel) T.bool (by decide +kernel) (re_v 0)))))))
abbrev s_is_ascending : Stmt := topS 8
abbrev N_is_ascending : List Str := ["things", "k"]
theorem sc_is_ascending : FnScope N_is_ascending ["things"] (defScope s_is_ascending) := ⟨rfl, rfl, rfl, by decide +kernel, rfl, by decide +kernel, by decide +kernel⟩
def f_is_ascending : FS :=
  (gRt (fCB bAll (fCo (fLc (fRng1 (fOp (opI fun i j => some (i - j)) (fCB bLen (fCo (fV 0) fN)) (fC (.int 1)))) (gN 1) fYes (fOp opLt (fOp opIx (fV 0) (fV 1)) (fOp opIx (fV 0) (fOp opAdd (fV 1) (fC (.int 1))))) [1]) fN)))
def F_is_ascending : List D → Hh → Oc D := callB N_is_ascending 1 id (f_is_ascending)
theorem d_is_ascending (T : Txt mg) {f : Addr} {fd : FuncData} (F : Fun K "is_ascending" "is_ascending" s_is_ascending f fd) (B : Binds K fd ["things"] []) : FnD P w K mg base 1 f [] F_is_ascending :=
  fnd_pos F sc_is_ascending B fun cdv A outer s H E hr hg => by
  have tk := takes_of (X := cxOf (L2.CX P w) P w K mg base N_is_ascending "is_ascending" (defScope s_is_ascending) f cdv A outer s H E) (E := E) rfl rfl rfl rfl
  have ps := passes_of (X := cxOf (L2.CX P w) P w K mg base N_is_ascending "is_ascending" (defScope s_is_ascending) f cdv A outer s H E) rfl
  exact (rss_one (rs_ret (re_cb (c_all rfl) T.all (by decide +kernel) (ra_cons (re_lc (own := [("k", 1)]) rfl sc_is_ascending.nd (ri_rng1 T.range (re_op o_sub (re_cb c_len T.len (by decide +kernel) (ra_cons (re_v 0) ra_nil)) re_int)) (blkOk_by (own := [("k", 1)]) (N := N_is_ascending) (sc := defScope s_is_ascending) (by decide +kernel)) ⟨fun _ _ _ _ _ => (rgo_name 1 sc_is_ascending.nd), fun _ _ _ _ _ => rts_nil, fun _ _ _ _ _ => (re_cmp o_ltS (re_ix (u1 hr) (re_v 0) (re_v 1)) (re_ix (u1 hr) (re_v 0) (re_op o_add (re_v 1) re_int)) (nomark _))⟩) ra_nil))))
abbrev s_is_name : Stmt := topS 11
abbrev N_is_name : List Str := ["thing", "letter"]
theorem sc_is_name : FnScope N_is_name ["thing"] (defScope s_is_name) := ⟨rfl, rfl, rfl, by decide +kernel, rfl, by decide +kernel, by decide +kernel⟩
def f_is_name : FS :=
  (gSeq (gIf (fOr (fNot (fB (fIsI "str" (fV 0)))) (fNot (fB (fChain (opB fun i j => decide (i ≤ j)) (opB fun i j => decide (i ≤ j)) (fC (.int 1)) (fCB bLen (fCo (fV 0) fN)) (fC (.int 8)))))) (gRt (fC (.bl false))) gNx)
  (gRt (fCB bAll (fCo (fLc (fWalkS (fV 0)) (gN 1) fYes (fOp opInS (fV 1) (fC (.str "abcdefghijklmnopqrstuvwxyz"))) [1]) fN))))
def F_is_name : List D → Hh → Oc D := callB N_is_name 1 id (f_is_name)
theorem d_is_name (T : Txt mg) {t_LETTERS : Tok} (M_LETTERS : mg "LETTERS" = some (.str "abcdefghijklmnopqrstuvwxyz" t_LETTERS)) {f : Addr} {fd : FuncData} (F : Fun K "is_name" "is_name" s_is_name f fd) (B : Binds K fd ["thing"] []) : FnD P w K mg base 1 f [] F_is_name :=
  fnd_pos F sc_is_name B fun cdv A outer s H E hr hg => by
  have tk := takes_of (X := cxOf (L2.CX P w) P w K mg base N_is_name "is_name" (defScope s_is_name) f cdv A outer s H E) (E := E) rfl rfl rfl rfl
  have ps := passes_of (X := cxOf (L2.CX P w) P w K mg base N_is_name "is_name" (defScope s_is_name) f cdv A outer s H E) rfl
  exact (rss_cons (rs_if (RW'.rt (rw_or (rt_not (rt_val (re_isi (by decide) T.isinstance (by decide +kernel) T.str (by decide +kernel) (re_v 0)))) (rw_or1 (rt_not (rt_chain o_le o_le re_int (re_cb c_len T.len (by decide +kernel) (ra_cons (re_v 0) ra_nil)) re_int ))))) (rss_one (rs_ret re_bl)) rss_nil)
    (rss_one (rs_ret (re_cb (c_all rfl) T.all (by decide +kernel) (ra_cons (re_lc (own := [("letter", 1)]) rfl sc_is_name.nd (ri_str (re_v 0)) (blkOk_by (own := [("letter", 1)]) (N := N_is_name) (sc := defScope s_is_name) (by decide +kernel)) ⟨fun _ _ _ _ _ => (rgo_name 1 sc_is_name.nd), fun _ _ _ _ _ => rts_nil, fun _ _ _ _ _ => (re_cmp (o_inS (u65 hr)) (re_v 1) (re_gstr M_LETTERS) (by rfl))⟩) ra_nil)))))
abbrev s_are_entries : Stmt := topS 12
abbrev N_are_entries : List Str := ["thing", "name"]
theorem sc_are_entries : FnScope N_are_entries ["thing"] (defScope s_are_entries) := ⟨rfl, rfl, rfl, by decide +kernel, rfl, by decide +kernel, by decide +kernel⟩
def f_are_entries : FS :=
  (gSeq (gIf (fOr (fNot (fB (fIsI "tuple" (fV 0)))) (fB (fOp opEq (fV 0) (fTup fN)))) (gRt (fC (.bl false))) gNx)
  (gRt (fAndV (fCB bAll (fCo (fLc (fWalk (fV 0)) (gN 1) fYes (fCall F_is_name (fCo (fV 1) fN)) [1]) fN)) (fCall F_is_ascending (fCo (fV 0) fN)))))
def F_are_entries : List D → Hh → Oc D := callB N_are_entries 1 id (f_are_entries)
theorem d_are_entries (T : Txt mg) {a_is_ascending : Addr} (C_is_ascending : Dfn P w K mg base 1 "is_ascending" a_is_ascending F_is_ascending) {a_is_name : Addr} (C_is_name : Dfn P w K mg base 1 "is_name" a_is_name F_is_name) {f : Addr} {fd : FuncData} (F : Fun K "are_entries" "are_entries" s_are_entries f fd) (B : Binds K fd ["thing"] []) : FnD P w K mg base 2 f [] F_are_entries :=
  fnd_pos F sc_are_entries B fun cdv A outer s H E hr hg => by
  have tk := takes_of (X := cxOf (L2.CX P w) P w K mg base N_are_entries "are_entries" (defScope s_are_entries) f cdv A outer s H E) (E := E) rfl rfl rfl rfl
  have ps := passes_of (X := cxOf (L2.CX P w) P w K mg base N_are_entries "are_entries" (defScope s_are_entries) f cdv A outer s H E) rfl
  exact (rss_cons (rs_if (RW'.rt (rw_or (rt_not (rt_val (re_isi (by decide) T.isinstance (by decide +kernel) T.tuple (by decide +kernel) (re_v 0)))) (rw_or1 (rt_cmp (o_eq (u64 hr)) (re_v 0) (re_tup ra_nil) (nomark _))))) (rss_one (rs_ret re_bl)) rss_nil)
    (rss_one (rs_ret (re_and (re_cb (c_all rfl) T.all (by decide +kernel) (ra_cons (re_lc (own := [("name", 1)]) rfl sc_are_entries.nd (ri_seq (re_v 0)) (blkOk_by (own := [("name", 1)]) (N := N_are_entries) (sc := defScope s_are_entries) (by decide +kernel)) ⟨fun _ _ _ _ _ => (rgo_name 1 sc_are_entries.nd), fun _ _ _ _ _ => rts_nil, fun _ _ _ _ _ => (re_fn C_is_name hr (by decide) hg Lg.takes0 (ra_cons (re_v 1) ra_nil))⟩) ra_nil)) (re_one (re_fn C_is_ascending hr (by decide) hg tk (ra_cons (re_v 0) ra_nil)))))))
abbrev s_known_of : Stmt := topS 13
abbrev N_known_of : List Str := ["names", "name"]
theorem sc_known_of : FnScope N_known_of ["names"] (defScope s_known_of) := ⟨rfl, rfl, rfl, by decide +kernel, rfl, by decide +kernel, by decide +kernel⟩
def f_known_of : FS :=
  (gRt (fDc false (fWalk (fV 0)) (gN 1) fYes (fV 1) (fC (.bl true)) [1]))
def F_known_of : List D → Hh → Oc D := callB N_known_of 1 id (f_known_of)
theorem d_known_of (T : Txt mg) {f : Addr} {fd : FuncData} (F : Fun K "known_of" "known_of" s_known_of f fd) (B : Binds K fd ["names"] []) : FnD P w K mg base 1 f [] F_known_of :=
  fnd_pos F sc_known_of B fun cdv A outer s H E hr hg => by
  have tk := takes_of (X := cxOf (L2.CX P w) P w K mg base N_known_of "known_of" (defScope s_known_of) f cdv A outer s H E) (E := E) rfl rfl rfl rfl
  have ps := passes_of (X := cxOf (L2.CX P w) P w K mg base N_known_of "known_of" (defScope s_known_of) f cdv A outer s H E) rfl
  exact (rss_one (rs_ret (re_dc false (own := [("name", 1)]) (u0 hr) rfl sc_known_of.nd (ri_seq (re_v 0)) (blkOk_by (own := [("name", 1)]) (N := N_known_of) (sc := defScope s_known_of) (by decide +kernel)) ⟨fun _ _ _ _ _ => (rgo_name 1 sc_known_of.nd), fun _ _ _ _ _ => rts_nil, fun _ _ _ _ _ => (re_v 1)⟩ ⟨fun _ _ _ _ _ => (rgo_name 1 sc_known_of.nd), fun _ _ _ _ _ => rts_nil, fun _ _ _ _ _ => re_bl⟩)))
end
end L4
set_option Elab.async false
set_option linter.all false
set_option maxRecDepth 100000
set_option maxHeartbeats 2000000
namespace L4
open PySem PySem.Spec PyProof.Rows L2 Lg
section
variable {P : Program} {w : World} {K : PySem.W.Frag} {mg : Str → Option Value} {base : Heap}
abbrev s_is_known : Stmt := topS 14
abbrev N_is_known : List Str := ["thing", "known"]
theorem sc_is_known : FnScope N_is_known ["thing", "known"] (defScope s_is_known) := ⟨rfl, rfl, rfl, by decide +kernel, rfl, by decide +kernel, by decide +kernel⟩
def f_is_known : FS :=
  (gRt (fAndV (fIsI "str" (fV 0)) (fOp opInS (fV 0) (fV 1))))
def F_is_known : List D → Hh → Oc D := callB N_is_known 2 id (f_is_known)
theorem d_is_known (T : Txt mg) {f : Addr} {fd : FuncData} (F : Fun K "is_known" "is_known" s_is_known f fd) (B : Binds K fd ["thing", "known"] []) : FnD P w K mg base 1 f [] F_is_known :=
  fnd_pos F sc_is_known B fun cdv A outer s H E hr hg => by
  have tk := takes_of (X := cxOf (L2.CX P w) P w K mg base N_is_known "is_known" (defScope s_is_known) f cdv A outer s H E) (E := E) rfl rfl rfl rfl
  have ps := passes_of (X := cxOf (L2.CX P w) P w K mg base N_is_known "is_known" (defScope s_is_known) f cdv A outer s H E) rfl
  exact (rss_one (rs_ret (re_and (re_isi (by decide) T.isinstance (by decide +kernel) T.str (by decide +kernel) (re_v 0)) (re_one (re_cmp (o_inS (u65 hr)) (re_v 0) (re_v 1) (by rfl))))))
abbrev s_is_rule : Stmt := topS 15
abbrev N_is_rule : List Str := ["thing", "known", "x", "y", "result", "entry"]
theorem sc_is_rule : FnScope N_is_rule ["thing", "known"] (defScope s_is_rule) := ⟨rfl, rfl, rfl, by decide +kernel, rfl, by decide +kernel, by decide +kernel⟩
def f_is_rule : FS :=
  (gSeq (gIf (fOr (fNot (fB (fIsI "tuple" (fV 0)))) (fB (fOp opNe (fCB bLen (fCo (fV 0) fN)) (fC (.int 3))))) (gRt (fC (.bl false))) gNx)
  (gSeq (gAsg (fV 0) (gTup [2, 3, 4]))
  (gSeq (gIf (fOr (fNot (fB (fIsI "tuple" (fV 4)))) (fB (fOp (opB fun i j => decide (j < i)) (fCB bLen (fCo (fV 4) fN)) (fC (.int 1))))) (gRt (fC (.bl false))) gNx)
  (gRt (fCB bAll (fCo (fLc (fWalk (fTup (fCo (fV 2) (fCo (fV 3) (fCS (fV 4) fN))))) (gN 5) fYes (fCall F_is_known (fCo (fV 5) (fCo (fV 1) fN))) [5]) fN))))))
def F_is_rule : List D → Hh → Oc D := callB N_is_rule 2 id (f_is_rule)
theorem d_is_rule (T : Txt mg) {a_is_known : Addr} (C_is_known : Dfn P w K mg base 1 "is_known" a_is_known F_is_known) {f : Addr} {fd : FuncData} (F : Fun K "is_rule" "is_rule" s_is_rule f fd) (B : Binds K fd ["thing", "known"] []) : FnD P w K mg base 2 f [] F_is_rule :=
  fnd_pos F sc_is_rule B fun cdv A outer s H E hr hg => by
  have tk := takes_of (X := cxOf (L2.CX P w) P w K mg base N_is_rule "is_rule" (defScope s_is_rule) f cdv A outer s H E) (E := E) rfl rfl rfl rfl
  have ps := passes_of (X := cxOf (L2.CX P w) P w K mg base N_is_rule "is_rule" (defScope s_is_rule) f cdv A outer s H E) rfl
  exact (rss_cons (rs_if (RW'.rt (rw_or (rt_not (rt_val (re_isi (by decide) T.isinstance (by decide +kernel) T.tuple (by decide +kernel) (re_v 0)))) (rw_or1 (rt_cmp (o_ne (u64 hr)) (re_cb c_len T.len (by decide +kernel) (ra_cons (re_v 0) ra_nil)) re_int (nomark _))))) (rss_one (rs_ret re_bl)) rss_nil)
    (rss_cons (rs_asg (re_v 0) (rg_tup rfl sc_is_rule.nd (na_cons 2 (na_cons 3 (na_cons 4 .nil)))))
    (rss_cons (rs_if (RW'.rt (rw_or (rt_not (rt_val (re_isi (by decide) T.isinstance (by decide +kernel) T.tuple (by decide +kernel) (re_v 4)))) (rw_or1 (rt_cmp o_gt (re_cb c_len T.len (by decide +kernel) (ra_cons (re_v 4) ra_nil)) re_int (nomark _))))) (rss_one (rs_ret re_bl)) rss_nil)
    (rss_one (rs_ret (re_cb (c_all rfl) T.all (by decide +kernel) (ra_cons (re_lc (own := [("entry", 5)]) rfl sc_is_rule.nd (ri_seq (re_tup (ra_cons (re_v 2) (ra_cons (re_v 3) (ra_star (re_v 4) ra_nil))))) (blkOk_by (own := [("entry", 5)]) (N := N_is_rule) (sc := defScope s_is_rule) (by decide +kernel)) ⟨fun _ _ _ _ _ => (rgo_name 5 sc_is_rule.nd), fun _ _ _ _ _ => rts_nil, fun _ _ _ _ _ => (re_fn C_is_known hr (by decide) hg Lg.takes0 (ra_cons (re_v 5) (ra_cons (re_v 1) ra_nil)))⟩) ra_nil)))))))
abbrev s_check_rules : Stmt := topS 16
abbrev N_check_rules : List Str := ["rules", "known", "pairs", "rule"]
theorem sc_check_rules : FnScope N_check_rules ["rules", "known"] (defScope s_check_rules) := ⟨rfl, rfl, rfl, by decide +kernel, rfl, by decide +kernel, by decide +kernel⟩
def f_check_rules : FS :=
  (gSeq (gSet 2 fSet0)
  (gFor (fWalk (fV 0)) (gN 3) (gSeq (gIf (fOr (fNot (fB (fCall F_is_rule (fCo (fV 3) (fCo (fV 1) fN))))) (fB (fOp opInS (fSl (fV 3) fO0 (fO (fC (.int 2)))) (fV 2)))) gNo gNx)
  (gEx (fSAdd (fV 2) (fSl (fV 3) fO0 (fO (fC (.int 2)))))))))
def F_check_rules : List D → Hh → Oc D := callB N_check_rules 2 id (f_check_rules)
theorem d_check_rules (T : Txt mg) {a_is_rule : Addr} (C_is_rule : Dfn P w K mg base 2 "is_rule" a_is_rule F_is_rule) {f : Addr} {fd : FuncData} (F : Fun K "check_rules" "check_rules" s_check_rules f fd) (B : Binds K fd ["rules", "known"] []) : FnD P w K mg base 3 f [] F_check_rules :=
  fnd_pos F sc_check_rules B fun cdv A outer s H E hr hg => by
  have tk := takes_of (X := cxOf (L2.CX P w) P w K mg base N_check_rules "check_rules" (defScope s_check_rules) f cdv A outer s H E) (E := E) rfl rfl rfl rfl
  have ps := passes_of (X := cxOf (L2.CX P w) P w K mg base N_check_rules "check_rules" (defScope s_check_rules) f cdv A outer s H E) rfl
  exact (rss_cons (rs_set 2 sc_check_rules.nd (re_set0 T.set (by decide +kernel)))
    (rss_one (rs_for ps rfl (ri_seq (re_v 0)) (rg_name 3 sc_check_rules.nd) (rss_cons (rs_if (RW'.rt (rw_or (rt_not (rt_val (re_fn C_is_rule hr (by decide) hg tk (ra_cons (re_v 3) (ra_cons (re_v 1) ra_nil))))) (rw_or1 (rt_cmp (o_inS (u65 hr)) (re_sl (re_v 3) ro_none (ro_some re_int)) (re_v 2) (by rfl))))) (rss_one rs_any) rss_nil)
    (rss_one (rs_expr (re_sadd (re_v 2) (re_sl (re_v 3) ro_none (ro_some re_int)) (hu := u65 hr))))))))
abbrev s_results_of : Stmt := topS 17
abbrev N_results_of : List Str := ["rules", "x", "y", "result"]
theorem sc_results_of : FnScope N_results_of ["rules"] (defScope s_results_of) := ⟨rfl, rfl, rfl, by decide +kernel, rfl, by decide +kernel, by decide +kernel⟩
def f_results_of : FS :=
  (gRt (fDc true (fWalk (fV 0)) (gTup [1, 2, 3]) fYes (fTup (fCo (fV 1) (fCo (fV 2) fN))) (fV 3) [1, 2, 3]))
def F_results_of : List D → Hh → Oc D := callB N_results_of 1 id (f_results_of)
theorem d_results_of (T : Txt mg) {f : Addr} {fd : FuncData} (F : Fun K "results_of" "results_of" s_results_of f fd) (B : Binds K fd ["rules"] []) : FnD P w K mg base 1 f [] F_results_of :=
  fnd_pos F sc_results_of B fun cdv A outer s H E hr hg => by
  have tk := takes_of (X := cxOf (L2.CX P w) P w K mg base N_results_of "results_of" (defScope s_results_of) f cdv A outer s H E) (E := E) rfl rfl rfl rfl
  have ps := passes_of (X := cxOf (L2.CX P w) P w K mg base N_results_of "results_of" (defScope s_results_of) f cdv A outer s H E) rfl
  exact (rss_one (rs_ret (re_dc true (own := [("x", 1), ("y", 2), ("result", 3)]) (u0 hr) rfl sc_results_of.nd (ri_seq (re_v 0)) (blkOk_by (own := [("x", 1), ("y", 2), ("result", 3)]) (N := N_results_of) (sc := defScope s_results_of) (by decide +kernel)) ⟨fun _ _ _ _ _ => (rgo_tup rfl sc_results_of.nd (na_cons 1 (na_cons 2 (na_cons 3 .nil)))), fun _ _ _ _ _ => rts_nil, fun _ _ _ _ _ => (re_tup (ra_cons (re_v 1) (ra_cons (re_v 2) ra_nil)))⟩ ⟨fun _ _ _ _ _ => (rgo_tup rfl sc_results_of.nd (na_cons 1 (na_cons 2 (na_cons 3 .nil)))), fun _ _ _ _ _ => rts_nil, fun _ _ _ _ _ => (re_v 3)⟩)))
abbrev s_seconds_of : Stmt := topS 18
abbrev N_seconds_of : List Str := ["rules", "found", "x", "y", "_"]
theorem sc_seconds_of : FnScope N_seconds_of ["rules"] (defScope s_seconds_of) := ⟨rfl, rfl, rfl, by decide +kernel, rfl, by decide +kernel, by decide +kernel⟩
def f_seconds_of : FS :=
  (gSeq (gSet 1 (fDicN false))
  (gSeq (gFor (fWalk (fCB bSort (fCo (fV 0) fN))) (gTup [2, 3, 4]) (gEx (fApp (fSetd (fV 1) (fV 2) (fLstN fN)) (fV 3))))
  (gRt (fV 1))))
def F_seconds_of : List D → Hh → Oc D := callB N_seconds_of 1 id (f_seconds_of)
theorem d_seconds_of (T : Txt mg) {f : Addr} {fd : FuncData} (F : Fun K "seconds_of" "seconds_of" s_seconds_of f fd) (B : Binds K fd ["rules"] []) : FnD P w K mg base 1 f [] F_seconds_of :=
  fnd_pos F sc_seconds_of B fun cdv A outer s H E hr hg => by
  have tk := takes_of (X := cxOf (L2.CX P w) P w K mg base N_seconds_of "seconds_of" (defScope s_seconds_of) f cdv A outer s H E) (E := E) rfl rfl rfl rfl
  have ps := passes_of (X := cxOf (L2.CX P w) P w K mg base N_seconds_of "seconds_of" (defScope s_seconds_of) f cdv A outer s H E) rfl
  exact (rss_cons (rs_set 1 sc_seconds_of.nd (re_dnew false))
    (rss_cons (rs_for ps rfl (ri_seq (re_cb (c_sort (u200 hr)) T.sorted (by decide +kernel) (ra_cons (re_v 0) ra_nil))) (rg_tup rfl sc_seconds_of.nd (na_cons 2 (na_cons 3 (na_cons 4 .nil)))) (rss_one (rs_expr (re_app (re_setd (re_v 1) (re_v 2) (re_lstN ra_nil)) (re_v 3)))))
    (rss_one (rs_ret (re_v 1)))))
end
end L4
set_option Elab.async false
set_option linter.all false
set_option maxRecDepth 100000
set_option maxHeartbeats 2000000
namespace L4
open PySem PySem.Spec PyProof.Rows L2 Lg
section
variable {P : Program} {w : World} {K : PySem.W.Frag} {mg : Str → Option Value} {base : Heap}
abbrev s_is_clash : Stmt := topS 19
abbrev N_is_clash : List Str := ["x", "y", "z", "results", "left", "right"]
theorem sc_is_clash : FnScope N_is_clash ["x", "y", "z", "results"] (defScope s_is_clash) := ⟨rfl, rfl, rfl, by decide +kernel, rfl, by decide +kernel, by decide +kernel⟩
def f_is_clash : FS :=
  (gSeq (gSet 4 (fOp opAdd (fOp opIx (fV 3) (fTup (fCo (fV 0) (fCo (fV 1) fN)))) (fTup (fCo (fV 2) fN))))
  (gSeq (gSet 5 (fOp opAdd (fTup (fCo (fV 0) fN)) (fOp opIx (fV 3) (fTup (fCo (fV 1) (fCo (fV 2) fN))))))
  (gRt (fOp opNe (fGet2 (fV 3) (fV 4) (fV 4)) (fGet2 (fV 3) (fV 5) (fV 5))))))
def F_is_clash : List D → Hh → Oc D := callB N_is_clash 4 id (f_is_clash)
theorem d_is_clash (T : Txt mg) {f : Addr} {fd : FuncData} (F : Fun K "is_clash" "is_clash" s_is_clash f fd) (B : Binds K fd ["x", "y", "z", "results"] []) : FnD P w K mg base 1 f [] F_is_clash :=
  fnd_pos F sc_is_clash B fun cdv A outer s H E hr hg => by
  have tk := takes_of (X := cxOf (L2.CX P w) P w K mg base N_is_clash "is_clash" (defScope s_is_clash) f cdv A outer s H E) (E := E) rfl rfl rfl rfl
  have ps := passes_of (X := cxOf (L2.CX P w) P w K mg base N_is_clash "is_clash" (defScope s_is_clash) f cdv A outer s H E) rfl
  exact (rss_cons (rs_set 4 sc_is_clash.nd (re_op o_add (re_ix (u1 hr) (re_v 3) (re_tup (ra_cons (re_v 0) (ra_cons (re_v 1) ra_nil)))) (re_tup (ra_cons (re_v 2) ra_nil))))
    (rss_cons (rs_set 5 sc_is_clash.nd (re_op o_add (re_tup (ra_cons (re_v 0) ra_nil)) (re_ix (u1 hr) (re_v 3) (re_tup (ra_cons (re_v 1) (ra_cons (re_v 2) ra_nil))))))
    (rss_one (rs_ret (re_cmp (o_ne (u64 hr)) (re_get2 (u1 hr) (re_v 3) (re_v 4) (re_v 4)) (re_get2 (u1 hr) (re_v 3) (re_v 5) (re_v 5)) (nomark _))))))
abbrev s_clash_of : Stmt := topS 20
abbrev N_clash_of : List Str := ["entries", "rules", "results", "seconds", "x", "y", "z"]
theorem sc_clash_of : FnScope N_clash_of ["entries", "rules"] (defScope s_clash_of) := ⟨rfl, rfl, rfl, by decide +kernel, rfl, by decide +kernel, by decide +kernel⟩
def f_clash_of : FS :=
  (gSeq (gSet 2 (fCall F_results_of (fCo (fV 1) fN)))
  (gSeq (gSet 3 (fCall F_seconds_of (fCo (fV 1) fN)))
  (gSeq (gFor (fWalk (fV 0)) (gN 4) (gFor (fWalk (fGet2 (fV 3) (fV 4) (fTup fN))) (gN 5) (gFor (fWalk (fGet2 (fV 3) (fV 5) (fTup fN))) (gN 6) (gIf (fB (fCall F_is_clash (fCo (fV 4) (fCo (fV 5) (fCo (fV 6) (fCo (fV 2) fN)))))) (gRt (fTup (fCo (fV 4) (fCo (fV 5) (fCo (fV 6) fN))))) gNx))))
  (gRt (fC .non)))))
def F_clash_of : List D → Hh → Oc D := callS N_clash_of 1 (f_clash_of)
theorem d_clash_of (T : Txt mg) {a_is_clash : Addr} (C_is_clash : Dfn P w K mg base 1 "is_clash" a_is_clash F_is_clash) {a_seconds_of : Addr} (C_seconds_of : Dfn P w K mg base 1 "seconds_of" a_seconds_of F_seconds_of) {a_results_of : Addr} (C_results_of : Dfn P w K mg base 1 "results_of" a_results_of F_results_of) {f : Addr} {fd : FuncData} (F : Fun K "clash_of" "clash_of" s_clash_of f fd) (B : ∀ us rest : List Value, us.length = 1 → bindArgs fd ⟨us ++ rest, []⟩ = (newTuple rest >>= fun t => pure ((["entries"] : List Str).zip us ++ [(("rules" : Str), t)]))) : FnD P w K mg base 2 f [] F_clash_of :=
  fnd_star (ps := ["entries"]) (pv := "rules") F sc_clash_of B fun cdv A outer s H E hr hg => by
  have tk := takes_of (X := cxOf (L2.CX P w) P w K mg base N_clash_of "clash_of" (defScope s_clash_of) f cdv A outer s H E) (E := E) rfl rfl rfl rfl
  have ps := passes_of (X := cxOf (L2.CX P w) P w K mg base N_clash_of "clash_of" (defScope s_clash_of) f cdv A outer s H E) rfl
  exact (rss_cons (rs_set 2 sc_clash_of.nd (re_fn C_results_of hr (by decide) hg tk (ra_cons (re_v 1) ra_nil)))
    (rss_cons (rs_set 3 sc_clash_of.nd (re_fn C_seconds_of hr (by decide) hg tk (ra_cons (re_v 1) ra_nil)))
    (rss_cons (rs_for ps rfl (ri_seq (re_v 0)) (rg_name 4 sc_clash_of.nd) (rss_one (rs_for ps rfl (ri_seq (re_get2 (u1 hr) (re_v 3) (re_v 4) (re_tup ra_nil))) (rg_name 5 sc_clash_of.nd) (rss_one (rs_for ps rfl (ri_seq (re_get2 (u1 hr) (re_v 3) (re_v 5) (re_tup ra_nil))) (rg_name 6 sc_clash_of.nd) (rss_one (rs_if (rt_val (re_fn C_is_clash hr (by decide) hg tk (ra_cons (re_v 4) (ra_cons (re_v 5) (ra_cons (re_v 6) (ra_cons (re_v 2) ra_nil)))))) (rss_one (rs_ret (re_tup (ra_cons (re_v 4) (ra_cons (re_v 5) (ra_cons (re_v 6) ra_nil)))))) rss_nil)))))))
    (rss_one (rs_ret re_non)))))
abbrev s_Book___init__ : Stmt := subS (topS 29) 0
abbrev N_Book___init__ : List Str := ["self", "entries", "rules", "known", "clash"]
theorem sc_Book___init__ : FnScope N_Book___init__ ["self", "entries", "rules"] (defScope s_Book___init__) := ⟨rfl, rfl, rfl, by decide +kernel, rfl, by decide +kernel, by decide +kernel⟩
def f_Book___init__ : FS :=
  (gSeq (gIf (fNot (fB (fCall F_are_entries (fCo (fV 1) fN)))) gNo gNx)
  (gSeq (gSet 3 (fCall F_known_of (fCo (fV 1) fN)))
  (gSeq (gEx (fCall F_check_rules (fCo (fV 2) (fCo (fV 3) fN))))
  (gSeq (gSet 4 (fCall F_clash_of (fCo (fV 1) (fCS (fV 2) fN))))
  (gSeq (gIf (fB (fOp (isB true) (fV 4) (fC .non))) gNo gNx)
  (gSeq (gFld "Book" "_entries" (fV 1) (fV 0))
  (gSeq (gFld "Book" "_rules" (fCB bTup (fCo (fCB bSort (fCo (fV 2) fN)) fN)) (fV 0))
  (gSeq (gFld "Book" "_known" (fV 3) (fV 0))
  (gFld "Book" "_results" (fCall F_results_of (fCo (fV 2) fN)) (fV 0))))))))))
def F_Book___init__ : List D → Hh → Oc D := callS N_Book___init__ 2 (f_Book___init__)
theorem d_Book___init__ (T : Txt mg) {a_Book : Addr} (Z_Book : Zc K mg "Book" a_Book) (NA__results : NoAttr K a_Book "_results") (NA__known : NoAttr K a_Book "_known") (NA__rules : NoAttr K a_Book "_rules") (NA__entries : NoAttr K a_Book "_entries") {a_results_of : Addr} (C_results_of : Dfn P w K mg base 1 "results_of" a_results_of F_results_of) {a_clash_of : Addr} (C_clash_of : Dfn P w K mg base 2 "clash_of" a_clash_of F_clash_of) {a_check_rules : Addr} (C_check_rules : Dfn P w K mg base 3 "check_rules" a_check_rules F_check_rules) {a_known_of : Addr} (C_known_of : Dfn P w K mg base 1 "known_of" a_known_of F_known_of) {a_are_entries : Addr} (C_are_entries : Dfn P w K mg base 2 "are_entries" a_are_entries F_are_entries) {f : Addr} {fd : FuncData} (F : Fun K "__init__" "Book.__init__" s_Book___init__ f fd) (B : ∀ us rest : List Value, us.length = 2 → bindArgs fd ⟨us ++ rest, []⟩ = (newTuple rest >>= fun t => pure ((["self", "entries"] : List Str).zip us ++ [(("rules" : Str), t)]))) : FnD P w K mg base 4 f [] F_Book___init__ :=
  fnd_star (ps := ["self", "entries"]) (pv := "rules") F sc_Book___init__ B fun cdv A outer s H E hr hg => by
  have tk := takes_of (X := cxOf (L2.CX P w) P w K mg base N_Book___init__ "Book.__init__" (defScope s_Book___init__) f cdv A outer s H E) (E := E) rfl rfl rfl rfl
  have ps := passes_of (X := cxOf (L2.CX P w) P w K mg base N_Book___init__ "Book.__init__" (defScope s_Book___init__) f cdv A outer s H E) rfl
  exact (rss_cons (rs_if (rt_not (rt_val (re_fn C_are_entries hr (by decide) hg tk (ra_cons (re_v 1) ra_nil)))) (rss_one rs_any) rss_nil)
    (rss_cons (rs_set 3 sc_Book___init__.nd (re_fn C_known_of hr (by decide) hg tk (ra_cons (re_v 1) ra_nil)))
    (rss_cons (rs_expr (re_fn C_check_rules hr (by decide) hg tk (ra_cons (re_v 2) (ra_cons (re_v 3) ra_nil))))
    (rss_cons (rs_set 4 sc_Book___init__.nd (re_fnS C_clash_of hr (by decide) hg tk (ra_cons (re_v 1) (ra_star (re_v 2) ra_nil))))
    (rss_cons (rs_if (rt_cmp o_isntB (re_v 4) re_non (nomark _)) (rss_one rs_any) rss_nil)
    (rss_cons (rs_fld Z_Book.m Z_Book.c NA__entries (re_v 1) (re_v 0))
    (rss_cons (rs_fld Z_Book.m Z_Book.c NA__rules (re_ct c_tup T.tuple (by decide +kernel) (ra_cons (re_cb (c_sort (u200 hr)) T.sorted (by decide +kernel) (ra_cons (re_v 2) ra_nil)) ra_nil)) (re_v 0))
    (rss_cons (rs_fld Z_Book.m Z_Book.c NA__known (re_v 3) (re_v 0))
    (rss_one (rs_fld Z_Book.m Z_Book.c NA__results (re_fn C_results_of hr (by decide) hg tk (ra_cons (re_v 2) ra_nil)) (re_v 0)))))))))))
abbrev s_Book_of : Stmt := subS (topS 29) 1
abbrev N_Book_of : List Str := ["cls", "entries", "rules"]
theorem sc_Book_of : FnScope N_Book_of ["cls", "entries", "rules"] (defScope s_Book_of) := ⟨rfl, rfl, rfl, by decide +kernel, rfl, by decide +kernel, by decide +kernel⟩
def f_Book_of (a_Book : Addr) : FS :=
  (gSeq (gIf (fNot (fB (fCall F_are_entries (fCo (fV 1) fN)))) gNo gNx)
  (gSeq (gIf (fNot (fB (fIsI "tuple" (fV 2)))) gNo gNx)
  (gRt (fVar 0 a_Book (fCall (mkD "Book" F_Book___init__) (fCo (fV 1) (fCS (fV 2) fN)))))))
def F_Book_of (a_Book : Addr) : List D → Hh → Oc D := callB N_Book_of 3 id (f_Book_of a_Book)
theorem d_Book_of (T : Txt mg) {a_Book : Addr} (Z_Book : Zc K mg "Book" a_Book) {i_Book : Addr} (K_Book : Mk K a_Book i_Book) (C_Book___init__ : FnD P w K mg base 4 i_Book [] F_Book___init__) {a_are_entries : Addr} (C_are_entries : Dfn P w K mg base 2 "are_entries" a_are_entries F_are_entries) {f : Addr} {fd : FuncData} (F : Fun K "of" "Book.of" s_Book_of f fd) (B : Binds K fd ["cls", "entries", "rules"] []) : FnD P w K mg base 6 f [] (F_Book_of a_Book) :=
  fnd_pos F sc_Book_of B fun cdv A outer s H E hr hg => by
  have tk := takes_of (X := cxOf (L2.CX P w) P w K mg base N_Book_of "Book.of" (defScope s_Book_of) f cdv A outer s H E) (E := E) rfl rfl rfl rfl
  have ps := passes_of (X := cxOf (L2.CX P w) P w K mg base N_Book_of "Book.of" (defScope s_Book_of) f cdv A outer s H E) rfl
  exact (rss_cons (rs_if (rt_not (rt_val (re_fn C_are_entries hr (by decide) hg tk (ra_cons (re_v 1) ra_nil)))) (rss_one rs_any) rss_nil)
    (rss_cons (rs_if (rt_not (rt_val (re_isi (by decide) T.isinstance (by decide +kernel) T.tuple (by decide +kernel) (re_v 2)))) (rss_one rs_any) rss_nil)
    (rss_one (rs_ret (re_mkV 0 Z_Book.m K_Book C_Book___init__ (hr.mono (by decide)) hg tk (ra_cons (re_v 1) (ra_star (re_v 2) ra_nil)))))))
abbrev s_Book_is_entry : Stmt := subS (topS 29) 8
abbrev N_Book_is_entry : List Str := ["self", "thing"]
theorem sc_Book_is_entry : FnScope N_Book_is_entry ["self", "thing"] (defScope s_Book_is_entry) := ⟨rfl, rfl, rfl, by decide +kernel, rfl, by decide +kernel, by decide +kernel⟩
def f_Book_is_entry : FS :=
  (gRt (fCall F_is_known (fCo (fV 1) (fCo (fFld "Book" "_known" (fV 0)) fN))))
def F_Book_is_entry : List D → Hh → Oc D := callB N_Book_is_entry 2 id (f_Book_is_entry)
theorem d_Book_is_entry (T : Txt mg) {a_Book : Addr} (Z_Book : Zc K mg "Book" a_Book) (NA__known : NoAttr K a_Book "_known") {a_is_known : Addr} (C_is_known : Dfn P w K mg base 1 "is_known" a_is_known F_is_known) {f : Addr} {fd : FuncData} (F : Fun K "is_entry" "Book.is_entry" s_Book_is_entry f fd) (B : Binds K fd ["self", "thing"] []) : FnD P w K mg base 2 f [] F_Book_is_entry :=
  fnd_pos F sc_Book_is_entry B fun cdv A outer s H E hr hg => by
  have tk := takes_of (X := cxOf (L2.CX P w) P w K mg base N_Book_is_entry "Book.is_entry" (defScope s_Book_is_entry) f cdv A outer s H E) (E := E) rfl rfl rfl rfl
  have ps := passes_of (X := cxOf (L2.CX P w) P w K mg base N_Book_is_entry "Book.is_entry" (defScope s_Book_is_entry) f cdv A outer s H E) rfl
  exact (rss_one (rs_ret (re_fn C_is_known hr (by decide) hg tk (ra_cons (re_v 1) (ra_cons (re_fld Z_Book.m Z_Book.c NA__known (re_v 0)) ra_nil)))))
end
end L4
set_option Elab.async false
set_option linter.all false
set_option maxRecDepth 100000
set_option maxHeartbeats 2000000
namespace L4
open PySem PySem.Spec PyProof.Rows L2 Lg
section
variable {P : Program} {w : World} {K : PySem.W.Frag} {mg : Str → Option Value} {base : Heap}
abbrev s_Book_result : Stmt := subS (topS 29) 9
abbrev N_Book_result : List Str := ["self", "x", "y"]
theorem sc_Book_result : FnScope N_Book_result ["self", "x", "y"] (defScope s_Book_result) := ⟨rfl, rfl, rfl, by decide +kernel, rfl, by decide +kernel, by decide +kernel⟩
def f_Book_result : FS :=
  (gRt (fGet1 (fFld "Book" "_results" (fV 0)) (fTup (fCo (fV 1) (fCo (fV 2) fN)))))
def F_Book_result : List D → Hh → Oc D := callB N_Book_result 3 id (f_Book_result)
theorem d_Book_result (T : Txt mg) {a_Book : Addr} (Z_Book : Zc K mg "Book" a_Book) (NA__results : NoAttr K a_Book "_results") {f : Addr} {fd : FuncData} (F : Fun K "result" "Book.result" s_Book_result f fd) (B : Binds K fd ["self", "x", "y"] []) : FnD P w K mg base 1 f [] F_Book_result :=
  fnd_pos F sc_Book_result B fun cdv A outer s H E hr hg => by
  have tk := takes_of (X := cxOf (L2.CX P w) P w K mg base N_Book_result "Book.result" (defScope s_Book_result) f cdv A outer s H E) (E := E) rfl rfl rfl rfl
  have ps := passes_of (X := cxOf (L2.CX P w) P w K mg base N_Book_result "Book.result" (defScope s_Book_result) f cdv A outer s H E) rfl
  exact (rss_one (rs_ret (re_get1 (u1 hr) (re_fld Z_Book.m Z_Book.c NA__results (re_v 0)) (re_tup (ra_cons (re_v 1) (ra_cons (re_v 2) ra_nil))))))
def F_Book_result_y_x : List D → Hh → Oc D := callB N_Book_result 3 sw3 (f_Book_result)
theorem d_Book_result_y_x (T : Txt mg) {a_Book : Addr} (Z_Book : Zc K mg "Book" a_Book) (NA__results : NoAttr K a_Book "_results") {f : Addr} {fd : FuncData} (F : Fun K "result" "Book.result" s_Book_result f fd) (B : KwB K fd ["self", "x", "y"] ["y", "x"] sw3) : FnD P w K mg base 1 f ["y", "x"] (F_Book_result_y_x) :=
  fnd_sw F sc_Book_result B fun cdv A outer s H E hr hg => by
  have tk := takes_of (X := cxOf (L2.CX P w) P w K mg base N_Book_result "Book.result" (defScope s_Book_result) f cdv A outer s H E) (E := E) rfl rfl rfl rfl
  have ps := passes_of (X := cxOf (L2.CX P w) P w K mg base N_Book_result "Book.result" (defScope s_Book_result) f cdv A outer s H E) rfl
  exact (rss_one (rs_ret (re_get1 (u1 hr) (re_fld Z_Book.m Z_Book.c NA__results (re_v 0)) (re_tup (ra_cons (re_v 1) (ra_cons (re_v 2) ra_nil))))))
abbrev s_Book_push : Stmt := subS (topS 29) 11
abbrev N_Book_push : List Str := ["self", "kept", "entry", "result"]
theorem sc_Book_push : FnScope N_Book_push ["self", "kept", "entry"] (defScope s_Book_push) := ⟨rfl, rfl, rfl, by decide +kernel, rfl, by decide +kernel, by decide +kernel⟩
def f_Book_push : FS :=
  (gSeq (gWhile (fTru (fV 1)) (gSeq (gSet 3 (fMeth "Book" "result" F_Book_result (fV 0) (fCo (fOp opIx (fV 1) (fNeg (fC (.int 1)))) (fCo (fV 2) fN))))
  (gSeq (gIf (fB (fOp (isB false) (fV 3) (fC .non))) gBk gNx)
  (gSeq (gEx (fPop (fV 1)))
  (gSeq (gIf (fB (fOp opEq (fV 3) (fTup fN))) gRtN gNx)
  (gSet 2 (fOp opIx (fV 3) (fC (.int 0)))))))))
  (gEx (fApp (fV 1) (fV 2))))
def F_Book_push : List D → Hh → Oc D := callB N_Book_push 3 id (f_Book_push)
theorem d_Book_push (T : Txt mg) {a_Book : Addr} (Z_Book : Zc K mg "Book" a_Book) {m_result : Addr} (C_Book_result : Mth P w K mg base 1 a_Book "result" m_result [] F_Book_result) {f : Addr} {fd : FuncData} (F : Fun K "push" "Book.push" s_Book_push f fd) (B : Binds K fd ["self", "kept", "entry"] []) : FnD P w K mg base 2 f [] F_Book_push :=
  fnd_pos F sc_Book_push B fun cdv A outer s H E hr hg => by
  have tk := takes_of (X := cxOf (L2.CX P w) P w K mg base N_Book_push "Book.push" (defScope s_Book_push) f cdv A outer s H E) (E := E) rfl rfl rfl rfl
  have ps := passes_of (X := cxOf (L2.CX P w) P w K mg base N_Book_push "Book.push" (defScope s_Book_push) f cdv A outer s H E) rfl
  exact (rss_cons (rs_while ps (rt_tru (re_v 1)) (rss_cons (rs_set 3 sc_Book_push.nd (re_meth Z_Book.m Z_Book.c C_Book_result.t C_Book_result.d (hr.mono (by decide)) hg tk (re_v 0) (ra_cons (re_ix (u1 hr) (re_v 1) (re_neg re_int)) (ra_cons (re_v 2) ra_nil))))
    (rss_cons (rs_if (rt_cmp o_isB (re_v 3) re_non (nomark _)) (rss_one rs_break) rss_nil)
    (rss_cons (rs_expr (re_pop (re_v 1)))
    (rss_cons (rs_if (rt_cmp (o_eq (u64 hr)) (re_v 3) (re_tup ra_nil) (nomark _)) (rss_one rs_retN) rss_nil)
    (rss_one (rs_set 2 sc_Book_push.nd (re_ix (u1 hr) (re_v 3) re_int))))))))
    (rss_one (rs_expr (re_app (re_v 1) (re_v 2)))))
abbrev s_Book_net : Stmt := subS (topS 29) 12
abbrev N_Book_net : List Str := ["self", "row", "kept", "entry"]
theorem sc_Book_net : FnScope N_Book_net ["self", "row"] (defScope s_Book_net) := ⟨rfl, rfl, rfl, by decide +kernel, rfl, by decide +kernel, by decide +kernel⟩
def f_Book_net : FS :=
  (gSeq (gSet 2 (fLstN fN))
  (gSeq (gFor (fWalk (fV 1)) (gN 3) (gEx (fMeth "Book" "push" F_Book_push (fV 0) (fCo (fV 2) (fCo (fV 3) fN)))))
  (gRt (fCB bTup (fCo (fV 2) fN)))))
def F_Book_net : List D → Hh → Oc D := callB N_Book_net 2 id (f_Book_net)
theorem d_Book_net (T : Txt mg) {a_Book : Addr} (Z_Book : Zc K mg "Book" a_Book) {m_push : Addr} (C_Book_push : Mth P w K mg base 2 a_Book "push" m_push [] F_Book_push) {f : Addr} {fd : FuncData} (F : Fun K "net" "Book.net" s_Book_net f fd) (B : Binds K fd ["self", "row"] []) : FnD P w K mg base 3 f [] F_Book_net :=
  fnd_pos F sc_Book_net B fun cdv A outer s H E hr hg => by
  have tk := takes_of (X := cxOf (L2.CX P w) P w K mg base N_Book_net "Book.net" (defScope s_Book_net) f cdv A outer s H E) (E := E) rfl rfl rfl rfl
  have ps := passes_of (X := cxOf (L2.CX P w) P w K mg base N_Book_net "Book.net" (defScope s_Book_net) f cdv A outer s H E) rfl
  exact (rss_cons (rs_set 2 sc_Book_net.nd (re_lstN ra_nil))
    (rss_cons (rs_for ps rfl (ri_seq (re_v 1)) (rg_name 3 sc_Book_net.nd) (rss_one (rs_expr (re_meth Z_Book.m Z_Book.c C_Book_push.t C_Book_push.d (hr.mono (by decide)) hg tk (re_v 0) (ra_cons (re_v 2) (ra_cons (re_v 3) ra_nil))))))
    (rss_one (rs_ret (re_ct c_tup T.tuple (by decide +kernel) (ra_cons (re_v 2) ra_nil))))))
def F_Book_net_row : List D → Hh → Oc D := callB N_Book_net 2 id (f_Book_net)
theorem d_Book_net_row (T : Txt mg) {a_Book : Addr} (Z_Book : Zc K mg "Book" a_Book) {m_push : Addr} (C_Book_push : Mth P w K mg base 2 a_Book "push" m_push [] F_Book_push) {f : Addr} {fd : FuncData} (F : Fun K "net" "Book.net" s_Book_net f fd) (B : KwB K fd ["self", "row"] ["row"] id) : FnD P w K mg base 3 f ["row"] (F_Book_net_row) :=
  fnd_kw F sc_Book_net B fun cdv A outer s H E hr hg => by
  have tk := takes_of (X := cxOf (L2.CX P w) P w K mg base N_Book_net "Book.net" (defScope s_Book_net) f cdv A outer s H E) (E := E) rfl rfl rfl rfl
  have ps := passes_of (X := cxOf (L2.CX P w) P w K mg base N_Book_net "Book.net" (defScope s_Book_net) f cdv A outer s H E) rfl
  exact (rss_cons (rs_set 2 sc_Book_net.nd (re_lstN ra_nil))
    (rss_cons (rs_for ps rfl (ri_seq (re_v 1)) (rg_name 3 sc_Book_net.nd) (rss_one (rs_expr (re_meth Z_Book.m Z_Book.c C_Book_push.t C_Book_push.d (hr.mono (by decide)) hg tk (re_v 0) (ra_cons (re_v 2) (ra_cons (re_v 3) ra_nil))))))
    (rss_one (rs_ret (re_ct c_tup T.tuple (by decide +kernel) (ra_cons (re_v 2) ra_nil))))))
abbrev s_Book_folds : Stmt := subS (topS 29) 13
abbrev N_Book_folds : List Str := ["self", "row", "k"]
theorem sc_Book_folds : FnScope N_Book_folds ["self", "row"] (defScope s_Book_folds) := ⟨rfl, rfl, rfl, by decide +kernel, rfl, by decide +kernel, by decide +kernel⟩
def f_Book_folds : FS :=
  (gRt (fCB bTup (fCo (fLc (fRng1 (fOp (opI fun i j => some (i - j)) (fCB bLen (fCo (fV 1) fN)) (fC (.int 1)))) (gN 2) (fB (fOp opInS (fTup (fCo (fOp opIx (fV 1) (fV 2)) (fCo (fOp opIx (fV 1) (fOp opAdd (fV 2) (fC (.int 1)))) fN))) (fFld "Book" "_results" (fV 0)))) (fV 2) [2]) fN)))
def F_Book_folds : List D → Hh → Oc D := callB N_Book_folds 2 id (f_Book_folds)
theorem d_Book_folds (T : Txt mg) {a_Book : Addr} (Z_Book : Zc K mg "Book" a_Book) (NA__results : NoAttr K a_Book "_results") {f : Addr} {fd : FuncData} (F : Fun K "folds" "Book.folds" s_Book_folds f fd) (B : Binds K fd ["self", "row"] []) : FnD P w K mg base 1 f [] F_Book_folds :=
  fnd_pos F sc_Book_folds B fun cdv A outer s H E hr hg => by
  have tk := takes_of (X := cxOf (L2.CX P w) P w K mg base N_Book_folds "Book.folds" (defScope s_Book_folds) f cdv A outer s H E) (E := E) rfl rfl rfl rfl
  have ps := passes_of (X := cxOf (L2.CX P w) P w K mg base N_Book_folds "Book.folds" (defScope s_Book_folds) f cdv A outer s H E) rfl
  exact (rss_one (rs_ret (re_ct c_tup T.tuple (by decide +kernel) (ra_cons (re_lc (own := [("k", 2)]) rfl sc_Book_folds.nd (ri_rng1 T.range (re_op o_sub (re_cb c_len T.len (by decide +kernel) (ra_cons (re_v 1) ra_nil)) re_int)) (blkOk_by (own := [("k", 2)]) (N := N_Book_folds) (sc := defScope s_Book_folds) (by decide +kernel)) ⟨fun _ _ _ _ _ => (rgo_name 2 sc_Book_folds.nd), fun _ _ _ _ _ => (rts_one (rt_cmp (o_inS (u65 hr)) (re_tup (ra_cons (re_ix (u1 hr) (re_v 1) (re_v 2)) (ra_cons (re_ix (u1 hr) (re_v 1) (re_op o_add (re_v 2) re_int)) ra_nil))) (re_fld Z_Book.m Z_Book.c NA__results (re_v 0)) (by rfl))), fun _ _ _ _ _ => (re_v 2)⟩) ra_nil))))
def F_Book_folds_row : List D → Hh → Oc D := callB N_Book_folds 2 id (f_Book_folds)
theorem d_Book_folds_row (T : Txt mg) {a_Book : Addr} (Z_Book : Zc K mg "Book" a_Book) (NA__results : NoAttr K a_Book "_results") {f : Addr} {fd : FuncData} (F : Fun K "folds" "Book.folds" s_Book_folds f fd) (B : KwB K fd ["self", "row"] ["row"] id) : FnD P w K mg base 1 f ["row"] (F_Book_folds_row) :=
  fnd_kw F sc_Book_folds B fun cdv A outer s H E hr hg => by
  have tk := takes_of (X := cxOf (L2.CX P w) P w K mg base N_Book_folds "Book.folds" (defScope s_Book_folds) f cdv A outer s H E) (E := E) rfl rfl rfl rfl
  have ps := passes_of (X := cxOf (L2.CX P w) P w K mg base N_Book_folds "Book.folds" (defScope s_Book_folds) f cdv A outer s H E) rfl
  exact (rss_one (rs_ret (re_ct c_tup T.tuple (by decide +kernel) (ra_cons (re_lc (own := [("k", 2)]) rfl sc_Book_folds.nd (ri_rng1 T.range (re_op o_sub (re_cb c_len T.len (by decide +kernel) (ra_cons (re_v 1) ra_nil)) re_int)) (blkOk_by (own := [("k", 2)]) (N := N_Book_folds) (sc := defScope s_Book_folds) (by decide +kernel)) ⟨fun _ _ _ _ _ => (rgo_name 2 sc_Book_folds.nd), fun _ _ _ _ _ => (rts_one (rt_cmp (o_inS (u65 hr)) (re_tup (ra_cons (re_ix (u1 hr) (re_v 1) (re_v 2)) (ra_cons (re_ix (u1 hr) (re_v 1) (re_op o_add (re_v 2) re_int)) ra_nil))) (re_fld Z_Book.m Z_Book.c NA__results (re_v 0)) (by rfl))), fun _ _ _ _ _ => (re_v 2)⟩) ra_nil))))
abbrev s_Book_is_net : Stmt := subS (topS 29) 10
abbrev N_Book_is_net : List Str := ["self", "thing", "entry"]
theorem sc_Book_is_net : FnScope N_Book_is_net ["self", "thing"] (defScope s_Book_is_net) := ⟨rfl, rfl, rfl, by decide +kernel, rfl, by decide +kernel, by decide +kernel⟩
def f_Book_is_net : FS :=
  (gSeq (gIf (fNot (fB (fIsI "tuple" (fV 1)))) (gRt (fC (.bl false))) gNx)
  (gRt (fAndV (fCB bAll (fCo (fLc (fWalk (fV 1)) (gN 2) fYes (fMeth "Book" "is_entry" F_Book_is_entry (fV 0) (fCo (fV 2) fN)) [2]) fN)) (fOp opEq (fMeth "Book" "folds" F_Book_folds (fV 0) (fCo (fV 1) fN)) (fTup fN)))))
def F_Book_is_net : List D → Hh → Oc D := callB N_Book_is_net 2 id (f_Book_is_net)
theorem d_Book_is_net (T : Txt mg) {a_Book : Addr} (Z_Book : Zc K mg "Book" a_Book) {m_folds : Addr} (C_Book_folds : Mth P w K mg base 1 a_Book "folds" m_folds [] F_Book_folds) {m_is_entry : Addr} (C_Book_is_entry : Mth P w K mg base 2 a_Book "is_entry" m_is_entry [] F_Book_is_entry) {f : Addr} {fd : FuncData} (F : Fun K "is_net" "Book.is_net" s_Book_is_net f fd) (B : Binds K fd ["self", "thing"] []) : FnD P w K mg base 3 f [] F_Book_is_net :=
  fnd_pos F sc_Book_is_net B fun cdv A outer s H E hr hg => by
  have tk := takes_of (X := cxOf (L2.CX P w) P w K mg base N_Book_is_net "Book.is_net" (defScope s_Book_is_net) f cdv A outer s H E) (E := E) rfl rfl rfl rfl
  have ps := passes_of (X := cxOf (L2.CX P w) P w K mg base N_Book_is_net "Book.is_net" (defScope s_Book_is_net) f cdv A outer s H E) rfl
  exact (rss_cons (rs_if (rt_not (rt_val (re_isi (by decide) T.isinstance (by decide +kernel) T.tuple (by decide +kernel) (re_v 1)))) (rss_one (rs_ret re_bl)) rss_nil)
    (rss_one (rs_ret (re_and (re_cb (c_all rfl) T.all (by decide +kernel) (ra_cons (re_lc (own := [("entry", 2)]) rfl sc_Book_is_net.nd (ri_seq (re_v 1)) (blkOk_by (own := [("entry", 2)]) (N := N_Book_is_net) (sc := defScope s_Book_is_net) (by decide +kernel)) ⟨fun _ _ _ _ _ => (rgo_name 2 sc_Book_is_net.nd), fun _ _ _ _ _ => rts_nil, fun _ _ _ _ _ => (re_meth Z_Book.m Z_Book.c C_Book_is_entry.t C_Book_is_entry.d (hr.mono (by decide)) hg Lg.takes0 (re_v 0) (ra_cons (re_v 2) ra_nil))⟩) ra_nil)) (re_one (re_cmp (o_eq (u64 hr)) (re_meth Z_Book.m Z_Book.c C_Book_folds.t C_Book_folds.d (hr.mono (by decide)) hg tk (re_v 0) (ra_cons (re_v 1) ra_nil)) (re_tup ra_nil) (nomark _)))))))
def F_Book_is_net_thing : List D → Hh → Oc D := callB N_Book_is_net 2 id (f_Book_is_net)
theorem d_Book_is_net_thing (T : Txt mg) {a_Book : Addr} (Z_Book : Zc K mg "Book" a_Book) {m_folds : Addr} (C_Book_folds : Mth P w K mg base 1 a_Book "folds" m_folds [] F_Book_folds) {m_is_entry : Addr} (C_Book_is_entry : Mth P w K mg base 2 a_Book "is_entry" m_is_entry [] F_Book_is_entry) {f : Addr} {fd : FuncData} (F : Fun K "is_net" "Book.is_net" s_Book_is_net f fd) (B : KwB K fd ["self", "thing"] ["thing"] id) : FnD P w K mg base 3 f ["thing"] (F_Book_is_net_thing) :=
  fnd_kw F sc_Book_is_net B fun cdv A outer s H E hr hg => by
  have tk := takes_of (X := cxOf (L2.CX P w) P w K mg base N_Book_is_net "Book.is_net" (defScope s_Book_is_net) f cdv A outer s H E) (E := E) rfl rfl rfl rfl
  have ps := passes_of (X := cxOf (L2.CX P w) P w K mg base N_Book_is_net "Book.is_net" (defScope s_Book_is_net) f cdv A outer s H E) rfl
  exact (rss_cons (rs_if (rt_not (rt_val (re_isi (by decide) T.isinstance (by decide +kernel) T.tuple (by decide +kernel) (re_v 1)))) (rss_one (rs_ret re_bl)) rss_nil)
    (rss_one (rs_ret (re_and (re_cb (c_all rfl) T.all (by decide +kernel) (ra_cons (re_lc (own := [("entry", 2)]) rfl sc_Book_is_net.nd (ri_seq (re_v 1)) (blkOk_by (own := [("entry", 2)]) (N := N_Book_is_net) (sc := defScope s_Book_is_net) (by decide +kernel)) ⟨fun _ _ _ _ _ => (rgo_name 2 sc_Book_is_net.nd), fun _ _ _ _ _ => rts_nil, fun _ _ _ _ _ => (re_meth Z_Book.m Z_Book.c C_Book_is_entry.t C_Book_is_entry.d (hr.mono (by decide)) hg Lg.takes0 (re_v 0) (ra_cons (re_v 2) ra_nil))⟩) ra_nil)) (re_one (re_cmp (o_eq (u64 hr)) (re_meth Z_Book.m Z_Book.c C_Book_folds.t C_Book_folds.d (hr.mono (by decide)) hg tk (re_v 0) (ra_cons (re_v 1) ra_nil)) (re_tup ra_nil) (nomark _)))))))
end
end L4
set_option Elab.async false
set_option linter.all false
set_option maxRecDepth 100000
set_option maxHeartbeats 2000000
namespace L4
open PySem PySem.Spec PyProof.Rows L2 Lg
section
variable {P : Program} {w : World} {K : PySem.W.Frag} {mg : Str → Option Value} {base : Heap}
abbrev s_Book_folded : Stmt := subS (topS 29) 14
abbrev N_Book_folded : List Str := ["self", "row", "index"]
theorem sc_Book_folded : FnScope N_Book_folded ["self", "row", "index"] (defScope s_Book_folded) := ⟨rfl, rfl, rfl, by decide +kernel, rfl, by decide +kernel, by decide +kernel⟩
def f_Book_folded : FS :=
  (gSeq (gIf (fOr (fNot (fB (fCall F_is_integer (fCo (fV 2) fN)))) (fB (fOp opNiS (fV 2) (fMeth "Book" "folds" F_Book_folds (fV 0) (fCo (fV 1) fN))))) (gRaise "NoFold" "index" (fV 2)) gNx)
  (gRt (fOp opAdd (fOp opAdd (fSl (fV 1) fO0 (fO (fV 2))) (fMeth "Book" "result" F_Book_result (fV 0) (fCo (fOp opIx (fV 1) (fV 2)) (fCo (fOp opIx (fV 1) (fOp opAdd (fV 2) (fC (.int 1)))) fN)))) (fSl (fV 1) (fO (fOp opAdd (fV 2) (fC (.int 2)))) fO0))))
def F_Book_folded : List D → Hh → Oc D := callB N_Book_folded 3 id (f_Book_folded)
theorem d_Book_folded (T : Txt mg) {a_Book : Addr} (Z_Book : Zc K mg "Book" a_Book) {e_NoFold i_NoFold : Addr} (E_NoFold : Ers K mg "NoFold" "index" "NoFold.__init__" s_NoFold e_NoFold i_NoFold) {m_result : Addr} (C_Book_result : Mth P w K mg base 1 a_Book "result" m_result [] F_Book_result) {m_folds : Addr} (C_Book_folds : Mth P w K mg base 1 a_Book "folds" m_folds [] F_Book_folds) {a_is_integer : Addr} (C_is_integer : Dfn P w K mg base 1 "is_integer" a_is_integer F_is_integer) {f : Addr} {fd : FuncData} (F : Fun K "folded" "Book.folded" s_Book_folded f fd) (B : Binds K fd ["self", "row", "index"] []) : FnD P w K mg base 2 f [] F_Book_folded :=
  fnd_pos F sc_Book_folded B fun cdv A outer s H E hr hg => by
  have tk := takes_of (X := cxOf (L2.CX P w) P w K mg base N_Book_folded "Book.folded" (defScope s_Book_folded) f cdv A outer s H E) (E := E) rfl rfl rfl rfl
  have ps := passes_of (X := cxOf (L2.CX P w) P w K mg base N_Book_folded "Book.folded" (defScope s_Book_folded) f cdv A outer s H E) rfl
  exact (rss_cons (rs_if (RW'.rt (rw_or (rt_not (rt_val (re_fn C_is_integer hr (by decide) hg tk (ra_cons (re_v 2) ra_nil)))) (rw_or1 (rt_cmp (o_niS (u65 hr)) (re_v 2) (re_meth Z_Book.m Z_Book.c C_Book_folds.t C_Book_folds.d (hr.mono (by decide)) hg tk (re_v 0) (ra_cons (re_v 1) ra_nil)) (by rfl))))) (rss_one (rs_raise tk E_NoFold.e E_NoFold.s E_NoFold.g hr (re_v 2))) rss_nil)
    (rss_one (rs_ret (re_op o_add (re_op o_add (re_sl (re_v 1) ro_none (ro_some (re_v 2))) (re_meth Z_Book.m Z_Book.c C_Book_result.t C_Book_result.d (hr.mono (by decide)) hg tk (re_v 0) (ra_cons (re_ix (u1 hr) (re_v 1) (re_v 2)) (ra_cons (re_ix (u1 hr) (re_v 1) (re_op o_add (re_v 2) re_int)) ra_nil)))) (re_sl (re_v 1) (ro_some (re_op o_add (re_v 2) re_int)) ro_none)))))
def F_Book_folded_index_row : List D → Hh → Oc D := callB N_Book_folded 3 sw3 (f_Book_folded)
theorem d_Book_folded_index_row (T : Txt mg) {a_Book : Addr} (Z_Book : Zc K mg "Book" a_Book) {e_NoFold i_NoFold : Addr} (E_NoFold : Ers K mg "NoFold" "index" "NoFold.__init__" s_NoFold e_NoFold i_NoFold) {m_result : Addr} (C_Book_result : Mth P w K mg base 1 a_Book "result" m_result [] F_Book_result) {m_folds : Addr} (C_Book_folds : Mth P w K mg base 1 a_Book "folds" m_folds [] F_Book_folds) {a_is_integer : Addr} (C_is_integer : Dfn P w K mg base 1 "is_integer" a_is_integer F_is_integer) {f : Addr} {fd : FuncData} (F : Fun K "folded" "Book.folded" s_Book_folded f fd) (B : KwB K fd ["self", "row", "index"] ["index", "row"] sw3) : FnD P w K mg base 2 f ["index", "row"] (F_Book_folded_index_row) :=
  fnd_sw F sc_Book_folded B fun cdv A outer s H E hr hg => by
  have tk := takes_of (X := cxOf (L2.CX P w) P w K mg base N_Book_folded "Book.folded" (defScope s_Book_folded) f cdv A outer s H E) (E := E) rfl rfl rfl rfl
  have ps := passes_of (X := cxOf (L2.CX P w) P w K mg base N_Book_folded "Book.folded" (defScope s_Book_folded) f cdv A outer s H E) rfl
  exact (rss_cons (rs_if (RW'.rt (rw_or (rt_not (rt_val (re_fn C_is_integer hr (by decide) hg tk (ra_cons (re_v 2) ra_nil)))) (rw_or1 (rt_cmp (o_niS (u65 hr)) (re_v 2) (re_meth Z_Book.m Z_Book.c C_Book_folds.t C_Book_folds.d (hr.mono (by decide)) hg tk (re_v 0) (ra_cons (re_v 1) ra_nil)) (by rfl))))) (rss_one (rs_raise tk E_NoFold.e E_NoFold.s E_NoFold.g hr (re_v 2))) rss_nil)
    (rss_one (rs_ret (re_op o_add (re_op o_add (re_sl (re_v 1) ro_none (ro_some (re_v 2))) (re_meth Z_Book.m Z_Book.c C_Book_result.t C_Book_result.d (hr.mono (by decide)) hg tk (re_v 0) (ra_cons (re_ix (u1 hr) (re_v 1) (re_v 2)) (ra_cons (re_ix (u1 hr) (re_v 1) (re_op o_add (re_v 2) re_int)) ra_nil)))) (re_sl (re_v 1) (ro_some (re_op o_add (re_v 2) re_int)) ro_none)))))
abbrev s__law_deck : Stmt := topS 31
abbrev N__law_deck : List Str := ["_law_script", "_law_cells", "_law_mixed", "_law_cell"]
theorem sc__law_deck : FnScope N__law_deck ["_law_script"] (defScope s__law_deck) := ⟨rfl, rfl, rfl, by decide +kernel, rfl, by decide +kernel, by decide +kernel⟩
def f__law_deck : FS :=
  (gSeq (gPar 1 2 (fCB bList (fCo (fSl (fV 0) fO0 (fO (fC (.int 63)))) fN)) (fC (.int 98930401)))
  (gSeq (gFor (fWalk (fV 1)) (gN 3) (gSet 2 (fOp (opI gMod) (fCB bInt (fCo (fOp opAdd (fOp opAdd (fOp (opI gMul) (fV 2) (fC (.int 48271))) (fOp (opI gMod) (fCB bInt (fCo (fV 3) fN)) (fC (.int 2147483629)))) (fC (.int 43))) fN)) (fC (.int 2147483587)))))
  (gRt (fLstN (fCo (fRevN (fV 1)) (fCo (fV 2) (fCo (fC (.int 0)) fN)))))))
def F__law_deck : List D → Hh → Oc D := callB N__law_deck 1 id (f__law_deck)
theorem d__law_deck (T : Txt mg) {f : Addr} {fd : FuncData} (F : Fun K "_law_deck" "_law_deck" s__law_deck f fd) (B : Binds K fd ["_law_script"] []) : FnD P w K mg base 1 f [] F__law_deck :=
  fnd_pos F sc__law_deck B fun cdv A outer s H E hr hg => by
  have tk := takes_of (X := cxOf (L2.CX P w) P w K mg base N__law_deck "_law_deck" (defScope s__law_deck) f cdv A outer s H E) (E := E) rfl rfl rfl rfl
  have ps := passes_of (X := cxOf (L2.CX P w) P w K mg base N__law_deck "_law_deck" (defScope s__law_deck) f cdv A outer s H E) rfl
  exact (rss_cons (rs_par 1 2 rfl sc__law_deck.nd (re_ct c_list T.list (by decide +kernel) (ra_cons (re_sl (re_v 0) ro_none (ro_some re_int)) ra_nil)) re_int)
    (rss_cons (rs_for ps rfl (ri_seq (re_v 1)) (rg_name 3 sc__law_deck.nd) (rss_one (rs_set 2 sc__law_deck.nd (re_op o_mod (re_ct c_int T.int (by decide +kernel) (ra_cons (re_op o_add (re_op o_add (re_op o_mulI (re_v 2) re_int) (re_op o_mod (re_ct c_int T.int (by decide +kernel) (ra_cons (re_v 3) ra_nil)) re_int)) re_int) ra_nil)) re_int))))
    (rss_one (rs_ret (re_lstN (ra_cons (re_revN (re_v 1)) (ra_cons (re_v 2) (ra_cons re_int ra_nil))))))))
abbrev s__law_draw : Stmt := topS 32
abbrev N__law_draw : List Str := ["_law_deck_here", "_law_many", "_law_figure", "_law_cell"]
theorem sc__law_draw : FnScope N__law_draw ["_law_deck_here", "_law_many"] (defScope s__law_draw) := ⟨rfl, rfl, rfl, by decide +kernel, rfl, by decide +kernel, by decide +kernel⟩
def f__law_draw : FS :=
  (gSeq (gAsg (fOp opAdd (fOp opIx (fV 0) (fC (.int 2))) (fC (.int 1))) (gSub (fV 0) (fC (.int 2))))
  (gSeq (gSet 2 (fOp opAdd (fOp opIx (fV 0) (fC (.int 1))) (fOp (opI gMul) (fOp (opI gMul) (fC (.int 40123)) (fOp opIx (fV 0) (fC (.int 2)))) (fOp opIx (fV 0) (fC (.int 2))))))
  (gSeq (gIf (fB (fOp opNe (fOp opIx (fV 0) (fC (.int 0))) (fLst fN))) (gSeq (gSet 3 (fPop (fOp opIx (fV 0) (fC (.int 0)))))
  (gSeq (gIf (fB (fOp (opB fun i j => decide (j ≤ i)) (fV 3) (fOp (opI gPow) (fC (.int 10)) (fC (.int 18))))) (gSeq (gEx (fApp (fOp opIx (fV 0) (fC (.int 0))) (fOp (opI gDiv) (fV 3) (fV 1))))
  (gRt (fOp (opI gMod) (fCB bInt (fCo (fV 3) fN)) (fV 1)))) gNx)
  (gSet 2 (fOp opAdd (fV 2) (fCB bInt (fCo (fV 3) fN)))))) gNx)
  (gSeq (gSet 2 (fOp (opI gMod) (fOp (opI gMul) (fCB bInt (fCo (fOp opAdd (fOp (opI gMod) (fCB bInt (fCo (fV 2) fN)) (fC (.int 2147483629))) (fC (.int 47))) fN)) (fC (.int 40692))) (fC (.int 2147483647))))
  (gSeq (gSet 2 (fOp (opI gMod) (fCB bInt (fCo (fOp opAdd (fOp opAdd (fOp (opI gMul) (fV 2) (fV 2)) (fOp (opI gMul) (fC (.int 69621)) (fOp opIx (fV 0) (fC (.int 2))))) (fC (.int 7))) fN)) (fC (.int 2147483587))))
  (gRt (fOp (opI gMod) (fOp (opI gDiv) (fOp (opI gMod) (fCB bInt (fCo (fOp (opI gMul) (fV 2) (fC (.int 39373))) fN)) (fC (.int 2147483563))) (fC (.int 64))) (fV 1))))))))
def F__law_draw : List D → Hh → Oc D := callB N__law_draw 2 id (f__law_draw)
theorem d__law_draw (T : Txt mg) {f : Addr} {fd : FuncData} (F : Fun K "_law_draw" "_law_draw" s__law_draw f fd) (B : Binds K fd ["_law_deck_here", "_law_many"] []) : FnD P w K mg base 1 f [] F__law_draw :=
  fnd_pos F sc__law_draw B fun cdv A outer s H E hr hg => by
  have tk := takes_of (X := cxOf (L2.CX P w) P w K mg base N__law_draw "_law_draw" (defScope s__law_draw) f cdv A outer s H E) (E := E) rfl rfl rfl rfl
  have ps := passes_of (X := cxOf (L2.CX P w) P w K mg base N__law_draw "_law_draw" (defScope s__law_draw) f cdv A outer s H E) rfl
  exact (rss_cons (rs_asg (re_op o_add (re_ix (u1 hr) (re_v 0) re_int) re_int) (rg_sub (u1 hr) (re_v 0) re_int))
    (rss_cons (rs_set 2 sc__law_draw.nd (re_op o_add (re_ix (u1 hr) (re_v 0) re_int) (re_op o_mulI (re_op o_mulI re_int (re_ix (u1 hr) (re_v 0) re_int)) (re_ix (u1 hr) (re_v 0) re_int))))
    (rss_cons (rs_if (rt_cmp (o_ne (u64 hr)) (re_ix (u1 hr) (re_v 0) re_int) (re_lst ra_nil) (nomark _)) (rss_cons (rs_set 3 sc__law_draw.nd (re_pop (re_ix (u1 hr) (re_v 0) re_int)))
    (rss_cons (rs_if (rt_cmp o_ge (re_v 3) (re_op o_pow re_int re_int) (nomark _)) (rss_cons (rs_expr (re_app (re_ix (u1 hr) (re_v 0) re_int) (re_op o_div (re_v 3) (re_v 1))))
    (rss_one (rs_ret (re_op o_mod (re_ct c_int T.int (by decide +kernel) (ra_cons (re_v 3) ra_nil)) (re_v 1))))) rss_nil)
    (rss_one (rs_set 2 sc__law_draw.nd (re_op o_add (re_v 2) (re_ct c_int T.int (by decide +kernel) (ra_cons (re_v 3) ra_nil))))))) rss_nil)
    (rss_cons (rs_set 2 sc__law_draw.nd (re_op o_mod (re_op o_mulI (re_ct c_int T.int (by decide +kernel) (ra_cons (re_op o_add (re_op o_mod (re_ct c_int T.int (by decide +kernel) (ra_cons (re_v 2) ra_nil)) re_int) re_int) ra_nil)) re_int) re_int))
    (rss_cons (rs_set 2 sc__law_draw.nd (re_op o_mod (re_ct c_int T.int (by decide +kernel) (ra_cons (re_op o_add (re_op o_add (re_op o_mulI (re_v 2) (re_v 2)) (re_op o_mulI re_int (re_ix (u1 hr) (re_v 0) re_int))) re_int) ra_nil)) re_int))
    (rss_one (rs_ret (re_op o_mod (re_op o_div (re_op o_mod (re_ct c_int T.int (by decide +kernel) (ra_cons (re_op o_mulI (re_v 2) re_int) ra_nil)) re_int) re_int) (re_v 1)))))))))
abbrev s__law_pick : Stmt := topS 33
abbrev N__law_pick : List Str := ["_law_deck_here", "_law_some"]
theorem sc__law_pick : FnScope N__law_pick ["_law_deck_here", "_law_some"] (defScope s__law_pick) := ⟨rfl, rfl, rfl, by decide +kernel, rfl, by decide +kernel, by decide +kernel⟩
def f__law_pick : FS :=
  (gRt (fOp opIx (fV 1) (fCall F__law_draw (fCo (fV 0) (fCo (fCB bLen (fCo (fV 1) fN)) fN)))))
def F__law_pick : List D → Hh → Oc D := callB N__law_pick 2 id (f__law_pick)
theorem d__law_pick (T : Txt mg) {a__law_draw : Addr} (C__law_draw : Dfn P w K mg base 1 "_law_draw" a__law_draw F__law_draw) {f : Addr} {fd : FuncData} (F : Fun K "_law_pick" "_law_pick" s__law_pick f fd) (B : Binds K fd ["_law_deck_here", "_law_some"] []) : FnD P w K mg base 2 f [] F__law_pick :=
  fnd_pos F sc__law_pick B fun cdv A outer s H E hr hg => by
  have tk := takes_of (X := cxOf (L2.CX P w) P w K mg base N__law_pick "_law_pick" (defScope s__law_pick) f cdv A outer s H E) (E := E) rfl rfl rfl rfl
  have ps := passes_of (X := cxOf (L2.CX P w) P w K mg base N__law_pick "_law_pick" (defScope s__law_pick) f cdv A outer s H E) rfl
  exact (rss_one (rs_ret (re_ix (u1 hr) (re_v 1) (re_fn C__law_draw hr (by decide) hg tk (ra_cons (re_v 0) (ra_cons (re_cb c_len T.len (by decide +kernel) (ra_cons (re_v 1) ra_nil)) ra_nil))))))
abbrev s__law_names : Stmt := topS 34
abbrev N__law_names : List Str := ["_law_deck_here", "_law_many", "_law_pool", "_law_found", "_law_k"]
theorem sc__law_names : FnScope N__law_names ["_law_deck_here", "_law_many"] (defScope s__law_names) := ⟨rfl, rfl, rfl, by decide +kernel, rfl, by decide +kernel, by decide +kernel⟩
def f__law_names : FS :=
  (gSeq (gPar 2 3 (fSplitN (fC (.str "a b ab ba abc undo set off on x entries zzzzzzzz zzzzzzzy")) (fC (.str " "))) (fLstN fN))
  (gSeq (gFor (fRng1 (fV 1)) (gN 4) (gEx (fApp (fV 3) (fCB bStr (fCo (fPopAt (fV 2) (fCall F__law_draw (fCo (fV 0) (fCo (fCB bLen (fCo (fV 2) fN)) fN)))) fN)))))
  (gRt (fCB bTup (fCo (fCB bSort (fCo (fV 3) fN)) fN)))))
def F__law_names : List D → Hh → Oc D := callB N__law_names 2 id (f__law_names)
theorem d__law_names (T : Txt mg) {a__law_draw : Addr} (C__law_draw : Dfn P w K mg base 1 "_law_draw" a__law_draw F__law_draw) {f : Addr} {fd : FuncData} (F : Fun K "_law_names" "_law_names" s__law_names f fd) (B : Binds K fd ["_law_deck_here", "_law_many"] []) : FnD P w K mg base 2 f [] F__law_names :=
  fnd_pos F sc__law_names B fun cdv A outer s H E hr hg => by
  have tk := takes_of (X := cxOf (L2.CX P w) P w K mg base N__law_names "_law_names" (defScope s__law_names) f cdv A outer s H E) (E := E) rfl rfl rfl rfl
  have ps := passes_of (X := cxOf (L2.CX P w) P w K mg base N__law_names "_law_names" (defScope s__law_names) f cdv A outer s H E) rfl
  exact (rss_cons (rs_par 2 3 rfl sc__law_names.nd (re_splitN re_str re_str) (re_lstN ra_nil))
    (rss_cons (rs_for ps rfl (ri_rng1 T.range (re_v 1)) (rg_name 4 sc__law_names.nd) (rss_one (rs_expr (re_app (re_v 3) (re_ct c_str T.str (by decide +kernel) (ra_cons (re_popAt (re_v 2) (re_fn C__law_draw hr (by decide) hg tk (ra_cons (re_v 0) (ra_cons (re_cb c_len T.len (by decide +kernel) (ra_cons (re_v 2) ra_nil)) ra_nil)))) ra_nil))))))
    (rss_one (rs_ret (re_ct c_tup T.tuple (by decide +kernel) (ra_cons (re_cb (c_sort (u200 hr)) T.sorted (by decide +kernel) (ra_cons (re_v 3) ra_nil)) ra_nil))))))
end
end L4
set_option Elab.async false
set_option linter.all false
set_option maxRecDepth 100000
set_option maxHeartbeats 2000000
namespace L4
open PySem PySem.Spec PyProof.Rows L2 Lg
section
variable {P : Program} {w : World} {K : PySem.W.Frag} {mg : Str → Option Value} {base : Heap}
abbrev s__law_table : Stmt := topS 35
abbrev N__law_table : List Str := ["_law_deck_here", "_law_names_here", "_law_part", "_law_found", "_law_ahead", "_law_behind"]
theorem sc__law_table : FnScope N__law_table ["_law_deck_here", "_law_names_here", "_law_part"] (defScope s__law_table) := ⟨rfl, rfl, rfl, by decide +kernel, rfl, by decide +kernel, by decide +kernel⟩
def f__law_table : FS :=
  (gSeq (gSet 3 (fDicN true))
  (gSeq (gFor (fWalk (fV 1)) (gN 4) (gFor (fWalk (fV 1)) (gN 5) (gIf (fB (fOp (opB fun i j => decide (j < i)) (fCall F__law_draw (fCo (fV 0) (fCo (fV 2) fN))) (fC (.int 0)))) (gAsg (fCall F__law_pick (fCo (fV 0) (fCo (fLst (fCo (fTup fN) (fCo (fTup (fCo (fV 4) fN)) (fCo (fTup (fCo (fV 5) fN)) (fCo (fTup (fCo (fCall F__law_pick (fCo (fV 0) (fCo (fV 1) fN))) fN)) fN))))) fN))) (gSub (fV 3) (fTup (fCo (fV 4) (fCo (fV 5) fN))))) gNx)))
  (gRt (fV 3))))
def F__law_table : List D → Hh → Oc D := callB N__law_table 3 id (f__law_table)
theorem d__law_table (T : Txt mg) {a__law_draw : Addr} (C__law_draw : Dfn P w K mg base 1 "_law_draw" a__law_draw F__law_draw) {a__law_pick : Addr} (C__law_pick : Dfn P w K mg base 2 "_law_pick" a__law_pick F__law_pick) {f : Addr} {fd : FuncData} (F : Fun K "_law_table" "_law_table" s__law_table f fd) (B : Binds K fd ["_law_deck_here", "_law_names_here", "_law_part"] []) : FnD P w K mg base 3 f [] F__law_table :=
  fnd_pos F sc__law_table B fun cdv A outer s H E hr hg => by
  have tk := takes_of (X := cxOf (L2.CX P w) P w K mg base N__law_table "_law_table" (defScope s__law_table) f cdv A outer s H E) (E := E) rfl rfl rfl rfl
  have ps := passes_of (X := cxOf (L2.CX P w) P w K mg base N__law_table "_law_table" (defScope s__law_table) f cdv A outer s H E) rfl
  exact (rss_cons (rs_set 3 sc__law_table.nd (re_dnew true))
    (rss_cons (rs_for ps rfl (ri_seq (re_v 1)) (rg_name 4 sc__law_table.nd) (rss_one (rs_for ps rfl (ri_seq (re_v 1)) (rg_name 5 sc__law_table.nd) (rss_one (rs_if (rt_cmp o_gt (re_fn C__law_draw hr (by decide) hg tk (ra_cons (re_v 0) (ra_cons (re_v 2) ra_nil))) re_int (nomark _)) (rss_one (rs_asg (re_fn C__law_pick hr (by decide) hg tk (ra_cons (re_v 0) (ra_cons (re_lst (ra_cons (re_tup ra_nil) (ra_cons (re_tup (ra_cons (re_v 4) ra_nil)) (ra_cons (re_tup (ra_cons (re_v 5) ra_nil)) (ra_cons (re_tup (ra_cons (re_fn C__law_pick hr (by decide) hg tk (ra_cons (re_v 0) (ra_cons (re_v 1) ra_nil))) ra_nil)) ra_nil))))) ra_nil))) (rg_sub (u1 hr) (re_v 3) (re_tup (ra_cons (re_v 4) (ra_cons (re_v 5) ra_nil)))))) rss_nil)))))
    (rss_one (rs_ret (re_v 3)))))
abbrev s__law_spots : Stmt := topS 36
abbrev N__law_spots : List Str := ["_law_table_here", "_law_lot", "_law_k"]
theorem sc__law_spots : FnScope N__law_spots ["_law_table_here", "_law_lot"] (defScope s__law_spots) := ⟨rfl, rfl, rfl, by decide +kernel, rfl, by decide +kernel, by decide +kernel⟩
def f__law_spots : FS :=
  (gRt (fLc (fRng1 (fOp (opI fun i j => some (i - j)) (fCB bLen (fCo (fV 1) fN)) (fC (.int 1)))) (gN 2) (fB (fOp opInS (fTup (fCo (fOp opIx (fV 1) (fV 2)) (fCo (fOp opIx (fV 1) (fOp opAdd (fV 2) (fC (.int 1)))) fN))) (fV 0))) (fV 2) [2]))
def F__law_spots : List D → Hh → Oc D := callB N__law_spots 2 id (f__law_spots)
theorem d__law_spots (T : Txt mg) {f : Addr} {fd : FuncData} (F : Fun K "_law_spots" "_law_spots" s__law_spots f fd) (B : Binds K fd ["_law_table_here", "_law_lot"] []) : FnD P w K mg base 1 f [] F__law_spots :=
  fnd_pos F sc__law_spots B fun cdv A outer s H E hr hg => by
  have tk := takes_of (X := cxOf (L2.CX P w) P w K mg base N__law_spots "_law_spots" (defScope s__law_spots) f cdv A outer s H E) (E := E) rfl rfl rfl rfl
  have ps := passes_of (X := cxOf (L2.CX P w) P w K mg base N__law_spots "_law_spots" (defScope s__law_spots) f cdv A outer s H E) rfl
  exact (rss_one (rs_ret (re_lc (own := [("_law_k", 2)]) rfl sc__law_spots.nd (ri_rng1 T.range (re_op o_sub (re_cb c_len T.len (by decide +kernel) (ra_cons (re_v 1) ra_nil)) re_int)) (blkOk_by (own := [("_law_k", 2)]) (N := N__law_spots) (sc := defScope s__law_spots) (by decide +kernel)) ⟨fun _ _ _ _ _ => (rgo_name 2 sc__law_spots.nd), fun _ _ _ _ _ => (rts_one (rt_cmp (o_inS (u65 hr)) (re_tup (ra_cons (re_ix (u1 hr) (re_v 1) (re_v 2)) (ra_cons (re_ix (u1 hr) (re_v 1) (re_op o_add (re_v 2) re_int)) ra_nil))) (re_v 0) (by rfl))), fun _ _ _ _ _ => (re_v 2)⟩)))
abbrev s__law_once : Stmt := topS 37
abbrev N__law_once : List Str := ["_law_table_here", "_law_lot", "_law_k"]
theorem sc__law_once : FnScope N__law_once ["_law_table_here", "_law_lot", "_law_k"] (defScope s__law_once) := ⟨rfl, rfl, rfl, by decide +kernel, rfl, by decide +kernel, by decide +kernel⟩
def f__law_once : FS :=
  (gRt (fOp opAdd (fOp opAdd (fSl (fV 1) fO0 (fO (fV 2))) (fOp opIx (fV 0) (fTup (fCo (fOp opIx (fV 1) (fV 2)) (fCo (fOp opIx (fV 1) (fOp opAdd (fV 2) (fC (.int 1)))) fN))))) (fSl (fV 1) (fO (fOp opAdd (fV 2) (fC (.int 2)))) fO0)))
def F__law_once : List D → Hh → Oc D := callB N__law_once 3 id (f__law_once)
theorem d__law_once (T : Txt mg) {f : Addr} {fd : FuncData} (F : Fun K "_law_once" "_law_once" s__law_once f fd) (B : Binds K fd ["_law_table_here", "_law_lot", "_law_k"] []) : FnD P w K mg base 1 f [] F__law_once :=
  fnd_pos F sc__law_once B fun cdv A outer s H E hr hg => by
  have tk := takes_of (X := cxOf (L2.CX P w) P w K mg base N__law_once "_law_once" (defScope s__law_once) f cdv A outer s H E) (E := E) rfl rfl rfl rfl
  have ps := passes_of (X := cxOf (L2.CX P w) P w K mg base N__law_once "_law_once" (defScope s__law_once) f cdv A outer s H E) rfl
  exact (rss_one (rs_ret (re_op o_add (re_op o_add (re_sl (re_v 1) ro_none (ro_some (re_v 2))) (re_ix (u1 hr) (re_v 0) (re_tup (ra_cons (re_ix (u1 hr) (re_v 1) (re_v 2)) (ra_cons (re_ix (u1 hr) (re_v 1) (re_op o_add (re_v 2) re_int)) ra_nil))))) (re_sl (re_v 1) (ro_some (re_op o_add (re_v 2) re_int)) ro_none))))
abbrev s__law_ends : Stmt := topS 38
abbrev N__law_ends : List Str := ["_law_table_here", "_law_lot", "_law_waiting", "_law_known", "_law_found", "_law_here", "_law_spots_here", "_law_k", "_law_more"]
theorem sc__law_ends : FnScope N__law_ends ["_law_table_here", "_law_lot"] (defScope s__law_ends) := ⟨rfl, rfl, rfl, by decide +kernel, rfl, by decide +kernel, by decide +kernel⟩
def f__law_ends : FS :=
  (gSeq (gPar3 2 3 4 (fLstN (fCo (fV 1) fN)) (fLstN (fCo (fV 1) fN)) (fLstN fN))
  (gSeq (gWhile (fB (fOp opNe (fV 2) (fLst fN))) (gSeq (gSet 5 (fPop (fV 2)))
  (gSeq (gSet 6 (fCall F__law_spots (fCo (fV 0) (fCo (fV 5) fN))))
  (gSeq (gIf (fB (fOp opEq (fV 6) (fLst fN))) (gEx (fApp (fV 4) (fV 5))) gNx)
  (gFor (fWalk (fV 6)) (gN 7) (gSeq (gSet 8 (fCall F__law_once (fCo (fV 0) (fCo (fV 5) (fCo (fV 7) fN)))))
  (gIf (fB (fOp opNiS (fV 8) (fV 3))) (gSeq (gEx (fApp (fV 3) (fV 8)))
  (gEx (fApp (fV 2) (fV 8)))) gNx)))))))
  (gRt (fV 4))))
def F__law_ends : List D → Hh → Oc D := callB N__law_ends 2 id (f__law_ends)
theorem d__law_ends (T : Txt mg) {a__law_once : Addr} (C__law_once : Dfn P w K mg base 1 "_law_once" a__law_once F__law_once) {a__law_spots : Addr} (C__law_spots : Dfn P w K mg base 1 "_law_spots" a__law_spots F__law_spots) {f : Addr} {fd : FuncData} (F : Fun K "_law_ends" "_law_ends" s__law_ends f fd) (B : Binds K fd ["_law_table_here", "_law_lot"] []) : FnD P w K mg base 2 f [] F__law_ends :=
  fnd_pos F sc__law_ends B fun cdv A outer s H E hr hg => by
  have tk := takes_of (X := cxOf (L2.CX P w) P w K mg base N__law_ends "_law_ends" (defScope s__law_ends) f cdv A outer s H E) (E := E) rfl rfl rfl rfl
  have ps := passes_of (X := cxOf (L2.CX P w) P w K mg base N__law_ends "_law_ends" (defScope s__law_ends) f cdv A outer s H E) rfl
  exact (rss_cons (rs_par3 2 3 4 rfl sc__law_ends.nd (re_lstN (ra_cons (re_v 1) ra_nil)) (re_lstN (ra_cons (re_v 1) ra_nil)) (re_lstN ra_nil))
    (rss_cons (rs_while ps (rt_cmp (o_ne (u64 hr)) (re_v 2) (re_lst ra_nil) (nomark _)) (rss_cons (rs_set 5 sc__law_ends.nd (re_pop (re_v 2)))
    (rss_cons (rs_set 6 sc__law_ends.nd (re_fn C__law_spots hr (by decide) hg tk (ra_cons (re_v 0) (ra_cons (re_v 5) ra_nil))))
    (rss_cons (rs_if (rt_cmp (o_eq (u64 hr)) (re_v 6) (re_lst ra_nil) (nomark _)) (rss_one (rs_expr (re_app (re_v 4) (re_v 5)))) rss_nil)
    (rss_one (rs_for ps rfl (ri_seq (re_v 6)) (rg_name 7 sc__law_ends.nd) (rss_cons (rs_set 8 sc__law_ends.nd (re_fn C__law_once hr (by decide) hg tk (ra_cons (re_v 0) (ra_cons (re_v 5) (ra_cons (re_v 7) ra_nil)))))
    (rss_one (rs_if (rt_cmp (o_niS (u65 hr)) (re_v 8) (re_v 3) (by rfl)) (rss_cons (rs_expr (re_app (re_v 3) (re_v 8)))
    (rss_one (rs_expr (re_app (re_v 2) (re_v 8))))) rss_nil)))))))))
    (rss_one (rs_ret (re_v 4)))))
abbrev s__law_clash : Stmt := topS 39
abbrev N__law_clash : List Str := ["_law_names_here", "_law_table_here", "_law_ahead", "_law_behind", "_law_z"]
theorem sc__law_clash : FnScope N__law_clash ["_law_names_here", "_law_table_here"] (defScope s__law_clash) := ⟨rfl, rfl, rfl, by decide +kernel, rfl, by decide +kernel, by decide +kernel⟩
def f__law_clash : FS :=
  (gSeq (gFor (fWalk (fV 0)) (gN 2) (gFor (fWalk (fV 0)) (gN 3) (gFor (fWalk (fV 0)) (gN 4) (gIf (fB (fOp (opB fun i j => decide (j < i)) (fCB bLen (fCo (fCall F__law_ends (fCo (fV 1) (fCo (fTup (fCo (fV 2) (fCo (fV 3) (fCo (fV 4) fN)))) fN))) fN)) (fC (.int 1)))) (gRt (fTup (fCo (fV 2) (fCo (fV 3) (fCo (fV 4) fN))))) gNx))))
  (gRt (fC .non)))
def F__law_clash : List D → Hh → Oc D := callB N__law_clash 2 id (f__law_clash)
theorem d__law_clash (T : Txt mg) {a__law_ends : Addr} (C__law_ends : Dfn P w K mg base 2 "_law_ends" a__law_ends F__law_ends) {f : Addr} {fd : FuncData} (F : Fun K "_law_clash" "_law_clash" s__law_clash f fd) (B : Binds K fd ["_law_names_here", "_law_table_here"] []) : FnD P w K mg base 3 f [] F__law_clash :=
  fnd_pos F sc__law_clash B fun cdv A outer s H E hr hg => by
  have tk := takes_of (X := cxOf (L2.CX P w) P w K mg base N__law_clash "_law_clash" (defScope s__law_clash) f cdv A outer s H E) (E := E) rfl rfl rfl rfl
  have ps := passes_of (X := cxOf (L2.CX P w) P w K mg base N__law_clash "_law_clash" (defScope s__law_clash) f cdv A outer s H E) rfl
  exact (rss_cons (rs_for ps rfl (ri_seq (re_v 0)) (rg_name 2 sc__law_clash.nd) (rss_one (rs_for ps rfl (ri_seq (re_v 0)) (rg_name 3 sc__law_clash.nd) (rss_one (rs_for ps rfl (ri_seq (re_v 0)) (rg_name 4 sc__law_clash.nd) (rss_one (rs_if (rt_cmp o_gt (re_cb c_len T.len (by decide +kernel) (ra_cons (re_fn C__law_ends hr (by decide) hg tk (ra_cons (re_v 1) (ra_cons (re_tup (ra_cons (re_v 2) (ra_cons (re_v 3) (ra_cons (re_v 4) ra_nil)))) ra_nil))) ra_nil)) re_int (nomark _)) (rss_one (rs_ret (re_tup (ra_cons (re_v 2) (ra_cons (re_v 3) (ra_cons (re_v 4) ra_nil)))))) rss_nil)))))))
    (rss_one (rs_ret re_non)))
end
end L4
set_option Elab.async false
set_option linter.all false
set_option maxRecDepth 100000
set_option maxHeartbeats 2000000
namespace L4
open PySem PySem.Spec PyProof.Rows L2 Lg
section
variable {P : Program} {w : World} {K : PySem.W.Frag} {mg : Str → Option Value} {base : Heap}
abbrev s__law_clear : Stmt := topS 40
abbrev N__law_clear : List Str := ["_law_deck_here", "_law_names_here", "_law_part", "_law_table_here", "_law_clash_here", "_law_k"]
theorem sc__law_clear : FnScope N__law_clear ["_law_deck_here", "_law_names_here", "_law_part"] (defScope s__law_clear) := ⟨rfl, rfl, rfl, by decide +kernel, rfl, by decide +kernel, by decide +kernel⟩
def f__law_clear : FS :=
  (gSeq (gSet 3 (fCall F__law_table (fCo (fV 0) (fCo (fV 1) (fCo (fV 2) fN)))))
  (gSeq (gSet 4 (fCall F__law_clash (fCo (fV 1) (fCo (fV 3) fN))))
  (gSeq (gWhile (fB (fOp (isB true) (fV 4) (fC .non))) (gSeq (gSet 5 (fCall F__law_draw (fCo (fV 0) (fCo (fC (.int 2)) fN))))
  (gSeq (gEx (fDpop (fV 3) (fSl (fV 4) (fO (fV 5)) (fO (fOp opAdd (fV 5) (fC (.int 2)))))))
  (gSet 4 (fCall F__law_clash (fCo (fV 1) (fCo (fV 3) fN)))))))
  (gRt (fV 3)))))
def F__law_clear : List D → Hh → Oc D := callB N__law_clear 3 id (f__law_clear)
theorem d__law_clear (T : Txt mg) {a__law_clash : Addr} (C__law_clash : Dfn P w K mg base 3 "_law_clash" a__law_clash F__law_clash) {a__law_draw : Addr} (C__law_draw : Dfn P w K mg base 1 "_law_draw" a__law_draw F__law_draw) {a__law_table : Addr} (C__law_table : Dfn P w K mg base 3 "_law_table" a__law_table F__law_table) {f : Addr} {fd : FuncData} (F : Fun K "_law_clear" "_law_clear" s__law_clear f fd) (B : Binds K fd ["_law_deck_here", "_law_names_here", "_law_part"] []) : FnD P w K mg base 4 f [] F__law_clear :=
  fnd_pos F sc__law_clear B fun cdv A outer s H E hr hg => by
  have tk := takes_of (X := cxOf (L2.CX P w) P w K mg base N__law_clear "_law_clear" (defScope s__law_clear) f cdv A outer s H E) (E := E) rfl rfl rfl rfl
  have ps := passes_of (X := cxOf (L2.CX P w) P w K mg base N__law_clear "_law_clear" (defScope s__law_clear) f cdv A outer s H E) rfl
  exact (rss_cons (rs_set 3 sc__law_clear.nd (re_fn C__law_table hr (by decide) hg tk (ra_cons (re_v 0) (ra_cons (re_v 1) (ra_cons (re_v 2) ra_nil)))))
    (rss_cons (rs_set 4 sc__law_clear.nd (re_fn C__law_clash hr (by decide) hg tk (ra_cons (re_v 1) (ra_cons (re_v 3) ra_nil))))
    (rss_cons (rs_while ps (rt_cmp o_isntB (re_v 4) re_non (nomark _)) (rss_cons (rs_set 5 sc__law_clear.nd (re_fn C__law_draw hr (by decide) hg tk (ra_cons (re_v 0) (ra_cons re_int ra_nil))))
    (rss_cons (rs_expr (re_dpop (u1 hr) (re_v 3) (re_sl (re_v 4) (ro_some (re_v 5)) (ro_some (re_op o_add (re_v 5) re_int)))))
    (rss_one (rs_set 4 sc__law_clear.nd (re_fn C__law_clash hr (by decide) hg tk (ra_cons (re_v 1) (ra_cons (re_v 3) ra_nil))))))))
    (rss_one (rs_ret (re_v 3))))))
abbrev s__law_pairs : Stmt := topS 41
abbrev N__law_pairs : List Str := ["_law_names_here", "_law_found", "_law_one", "_law_two"]
theorem sc__law_pairs : FnScope N__law_pairs ["_law_names_here"] (defScope s__law_pairs) := ⟨rfl, rfl, rfl, by decide +kernel, rfl, by decide +kernel, by decide +kernel⟩
def f__law_pairs : FS :=
  (gSeq (gSet 1 (fLst fN))
  (gSeq (gFor (fWalk (fV 0)) (gN 2) (gSet 1 (fOp opAdd (fV 1) (fLc (fWalk (fV 0)) (gN 3) fYes (fTup (fCo (fV 2) (fCo (fV 3) fN))) [3]))))
  (gRt (fV 1))))
def F__law_pairs : List D → Hh → Oc D := callB N__law_pairs 1 id (f__law_pairs)
theorem d__law_pairs (T : Txt mg) {f : Addr} {fd : FuncData} (F : Fun K "_law_pairs" "_law_pairs" s__law_pairs f fd) (B : Binds K fd ["_law_names_here"] []) : FnD P w K mg base 1 f [] F__law_pairs :=
  fnd_pos F sc__law_pairs B fun cdv A outer s H E hr hg => by
  have tk := takes_of (X := cxOf (L2.CX P w) P w K mg base N__law_pairs "_law_pairs" (defScope s__law_pairs) f cdv A outer s H E) (E := E) rfl rfl rfl rfl
  have ps := passes_of (X := cxOf (L2.CX P w) P w K mg base N__law_pairs "_law_pairs" (defScope s__law_pairs) f cdv A outer s H E) rfl
  exact (rss_cons (rs_set 1 sc__law_pairs.nd (re_lst ra_nil))
    (rss_cons (rs_for ps rfl (ri_seq (re_v 0)) (rg_name 2 sc__law_pairs.nd) (rss_one (rs_set 1 sc__law_pairs.nd (re_op o_add (re_v 1) (re_lc (own := [("_law_two", 3)]) rfl sc__law_pairs.nd (ri_seq (re_v 0)) (blkOk_by (own := [("_law_two", 3)]) (N := N__law_pairs) (sc := defScope s__law_pairs) (by decide +kernel)) ⟨fun _ _ _ _ _ => (rgo_name 3 sc__law_pairs.nd), fun _ _ _ _ _ => rts_nil, fun _ _ _ _ _ => (re_tup (ra_cons (re_v 2) (ra_cons (re_v 3) ra_nil)))⟩)))))
    (rss_one (rs_ret (re_v 1)))))
abbrev s__law_rules : Stmt := topS 42
abbrev N__law_rules : List Str := ["_law_names_here", "_law_table_here", "_law_pair"]
theorem sc__law_rules : FnScope N__law_rules ["_law_names_here", "_law_table_here"] (defScope s__law_rules) := ⟨rfl, rfl, rfl, by decide +kernel, rfl, by decide +kernel, by decide +kernel⟩
def f__law_rules : FS :=
  (gRt (fCB bTup (fCo (fLc (fWalk (fCall F__law_pairs (fCo (fV 0) fN))) (gN 2) (fB (fOp opInS (fV 2) (fV 1))) (fOp opAdd (fV 2) (fTup (fCo (fOp opIx (fV 1) (fV 2)) fN))) [2]) fN)))
def F__law_rules : List D → Hh → Oc D := callB N__law_rules 2 id (f__law_rules)
theorem d__law_rules (T : Txt mg) {a__law_pairs : Addr} (C__law_pairs : Dfn P w K mg base 1 "_law_pairs" a__law_pairs F__law_pairs) {f : Addr} {fd : FuncData} (F : Fun K "_law_rules" "_law_rules" s__law_rules f fd) (B : Binds K fd ["_law_names_here", "_law_table_here"] []) : FnD P w K mg base 2 f [] F__law_rules :=
  fnd_pos F sc__law_rules B fun cdv A outer s H E hr hg => by
  have tk := takes_of (X := cxOf (L2.CX P w) P w K mg base N__law_rules "_law_rules" (defScope s__law_rules) f cdv A outer s H E) (E := E) rfl rfl rfl rfl
  have ps := passes_of (X := cxOf (L2.CX P w) P w K mg base N__law_rules "_law_rules" (defScope s__law_rules) f cdv A outer s H E) rfl
  exact (rss_one (rs_ret (re_ct c_tup T.tuple (by decide +kernel) (ra_cons (re_lc (own := [("_law_pair", 2)]) rfl sc__law_rules.nd (ri_seq (re_fn C__law_pairs hr (by decide) hg tk (ra_cons (re_v 0) ra_nil))) (blkOk_by (own := [("_law_pair", 2)]) (N := N__law_rules) (sc := defScope s__law_rules) (by decide +kernel)) ⟨fun _ _ _ _ _ => (rgo_name 2 sc__law_rules.nd), fun _ _ _ _ _ => (rts_one (rt_cmp (o_inS (u65 hr)) (re_v 2) (re_v 1) (by rfl))), fun _ _ _ _ _ => (re_op o_add (re_v 2) (re_tup (ra_cons (re_ix (u1 hr) (re_v 1) (re_v 2)) ra_nil)))⟩) ra_nil))))
abbrev s__law_net : Stmt := topS 43
abbrev N__law_net : List Str := ["_law_table_here", "_law_lot", "_law_spots_here"]
theorem sc__law_net : FnScope N__law_net ["_law_table_here", "_law_lot"] (defScope s__law_net) := ⟨rfl, rfl, rfl, by decide +kernel, rfl, by decide +kernel, by decide +kernel⟩
def f__law_net : FS :=
  (gSeq (gSet 2 (fCall F__law_spots (fCo (fV 0) (fCo (fV 1) fN))))
  (gSeq (gWhile (fB (fOp opNe (fV 2) (fLst fN))) (gSeq (gSet 1 (fCall F__law_once (fCo (fV 0) (fCo (fV 1) (fCo (fOp opIx (fV 2) (fNeg (fC (.int 1)))) fN)))))
  (gSet 2 (fCall F__law_spots (fCo (fV 0) (fCo (fV 1) fN))))))
  (gRt (fV 1))))
def F__law_net : List D → Hh → Oc D := callB N__law_net 2 id (f__law_net)
theorem d__law_net (T : Txt mg) {a__law_spots : Addr} (C__law_spots : Dfn P w K mg base 1 "_law_spots" a__law_spots F__law_spots) {a__law_once : Addr} (C__law_once : Dfn P w K mg base 1 "_law_once" a__law_once F__law_once) {f : Addr} {fd : FuncData} (F : Fun K "_law_net" "_law_net" s__law_net f fd) (B : Binds K fd ["_law_table_here", "_law_lot"] []) : FnD P w K mg base 2 f [] F__law_net :=
  fnd_pos F sc__law_net B fun cdv A outer s H E hr hg => by
  have tk := takes_of (X := cxOf (L2.CX P w) P w K mg base N__law_net "_law_net" (defScope s__law_net) f cdv A outer s H E) (E := E) rfl rfl rfl rfl
  have ps := passes_of (X := cxOf (L2.CX P w) P w K mg base N__law_net "_law_net" (defScope s__law_net) f cdv A outer s H E) rfl
  exact (rss_cons (rs_set 2 sc__law_net.nd (re_fn C__law_spots hr (by decide) hg tk (ra_cons (re_v 0) (ra_cons (re_v 1) ra_nil))))
    (rss_cons (rs_while ps (rt_cmp (o_ne (u64 hr)) (re_v 2) (re_lst ra_nil) (nomark _)) (rss_cons (rs_set 1 sc__law_net.nd (re_fn C__law_once hr (by decide) hg tk (ra_cons (re_v 0) (ra_cons (re_v 1) (ra_cons (re_ix (u1 hr) (re_v 2) (re_neg re_int)) ra_nil)))))
    (rss_one (rs_set 2 sc__law_net.nd (re_fn C__law_spots hr (by decide) hg tk (ra_cons (re_v 0) (ra_cons (re_v 1) ra_nil)))))))
    (rss_one (rs_ret (re_v 1)))))
abbrev s__law_row : Stmt := topS 44
abbrev N__law_row : List Str := ["_law_deck_here", "_law_names_here", "_law_table_here", "_law_many", "_law_found", "_law_k", "_law_good", "_law_one", "_law_some"]
theorem sc__law_row : FnScope N__law_row ["_law_deck_here", "_law_names_here", "_law_table_here", "_law_many"] (defScope s__law_row) := ⟨rfl, rfl, rfl, by decide +kernel, rfl, by decide +kernel, by decide +kernel⟩
def f__law_row : FS :=
  (gSeq (gSet 4 (fTup fN))
  (gSeq (gFor (fRng1 (fV 3)) (gN 5) (gSeq (gSet 6 (fLc (fWalk (fV 1)) (gN 7) (fAnd (fB (fOp (opB fun i j => decide (j < i)) (fV 5) (fC (.int 0)))) (fB (fOp opInS (fTup (fCo (fOp opIx (fV 4) (fNeg (fC (.int 1)))) (fCo (fV 7) fN))) (fV 2)))) (fV 7) [7]))
  (gSeq (gSet 8 (fIf (fAnd (fB (fOp opNe (fV 6) (fLst fN))) (fB (fOp (opB fun i j => decide (j < i)) (fCall F__law_draw (fCo (fV 0) (fCo (fC (.int 3)) fN))) (fC (.int 0))))) (fV 6) (fV 1)))
  (gSet 4 (fOp opAdd (fV 4) (fTup (fCo (fCall F__law_pick (fCo (fV 0) (fCo (fV 8) fN))) fN)))))))
  (gRt (fV 4))))
def F__law_row : List D → Hh → Oc D := callB N__law_row 4 id (f__law_row)
theorem d__law_row (T : Txt mg) {a__law_pick : Addr} (C__law_pick : Dfn P w K mg base 2 "_law_pick" a__law_pick F__law_pick) {a__law_draw : Addr} (C__law_draw : Dfn P w K mg base 1 "_law_draw" a__law_draw F__law_draw) {f : Addr} {fd : FuncData} (F : Fun K "_law_row" "_law_row" s__law_row f fd) (B : Binds K fd ["_law_deck_here", "_law_names_here", "_law_table_here", "_law_many"] []) : FnD P w K mg base 3 f [] F__law_row :=
  fnd_pos F sc__law_row B fun cdv A outer s H E hr hg => by
  have tk := takes_of (X := cxOf (L2.CX P w) P w K mg base N__law_row "_law_row" (defScope s__law_row) f cdv A outer s H E) (E := E) rfl rfl rfl rfl
  have ps := passes_of (X := cxOf (L2.CX P w) P w K mg base N__law_row "_law_row" (defScope s__law_row) f cdv A outer s H E) rfl
  exact (rss_cons (rs_set 4 sc__law_row.nd (re_tup ra_nil))
    (rss_cons (rs_for ps rfl (ri_rng1 T.range (re_v 3)) (rg_name 5 sc__law_row.nd) (rss_cons (rs_setLc 6 (own := [("_law_one", 7)]) rfl sc__law_row.nd (ri_seq (re_v 1)) (blkOk_by (own := [("_law_one", 7)]) (N := N__law_row) (sc := defScope s__law_row) (by decide +kernel)) ⟨fun _ _ _ _ _ => (rgo_name 7 sc__law_row.nd), fun _ _ _ _ _ => (rts_one (RW'.rt (rw_and (rt_cmp o_gt (re_v 5) re_int (nomark _)) (rw_and1 (rt_cmp (o_inS (u65 hr)) (re_tup (ra_cons (re_ix (u1 hr) (re_v 4) (re_neg re_int)) (ra_cons (re_v 7) ra_nil))) (re_v 2) (by rfl)))))), fun _ _ _ _ _ => (re_v 7)⟩ (sw_true rfl rfl rfl (by decide +kernel)))
    (rss_cons (rs_set 8 sc__law_row.nd (re_if (RW'.rt (rw_and (rt_cmp (o_ne (u64 hr)) (re_v 6) (re_lst ra_nil) (nomark _)) (rw_and1 (rt_cmp o_gt (re_fn C__law_draw hr (by decide) hg tk (ra_cons (re_v 0) (ra_cons re_int ra_nil))) re_int (nomark _))))) (re_v 6) (re_v 1)))
    (rss_one (rs_set 4 sc__law_row.nd (re_op o_add (re_v 4) (re_tup (ra_cons (re_fn C__law_pick hr (by decide) hg tk (ra_cons (re_v 0) (ra_cons (re_v 8) ra_nil))) ra_nil))))))))
    (rss_one (rs_ret (re_v 4)))))
end
end L4
set_option Elab.async false
set_option linter.all false
set_option maxRecDepth 100000
set_option maxHeartbeats 2000000
namespace L4
open PySem PySem.Spec PyProof.Rows L2 Lg
section
variable {P : Program} {w : World} {K : PySem.W.Frag} {mg : Str → Option Value} {base : Heap}
abbrev s__law_folded : Stmt := topS 45
abbrev N__law_folded : List Str := ["_law_book", "_law_lot", "_law_at", "_law_way", "_law_found", "e"]
theorem sc__law_folded : FnScope N__law_folded ["_law_book", "_law_lot", "_law_at", "_law_way"] (defScope s__law_folded) := ⟨rfl, rfl, rfl, by decide +kernel, rfl, by decide +kernel, by decide +kernel⟩
def f__law_folded : FS :=
  (gSeq (gSet 4 (fC .non))
  (gSeq (gTry [("NoFold", true)] 5 (gSet 4 (fLst (fCo (fC (.str "row")) (fCo (fIf (fB (fOp opEq (fV 3) (fC (.int 0)))) (fMeth "Book" "folded" F_Book_folded (fV 0) (fCo (fV 1) (fCo (fV 2) fN))) (fMethK "Book" "folded" 2 F_Book_folded_index_row (fV 0) fN (fCo (fV 2) (fCo (fV 1) fN)))) fN)))) (fun a dd => (gSet 4 (fLst (fCo (fC (.str "none")) (fCo (fXf 5 "index" a dd) fN))))))
  (gRt (fV 4))))
def F__law_folded : List D → Hh → Oc D := callB N__law_folded 4 id (f__law_folded)
theorem d__law_folded (T : Txt mg) {a_Book : Addr} (Z_Book : Zc K mg "Book" a_Book) {e_NoFold i_NoFold : Addr} (E_NoFold : Ers K mg "NoFold" "index" "NoFold.__init__" s_NoFold e_NoFold i_NoFold) {m_folded : Addr} (C_Book_folded : Mth P w K mg base 2 a_Book "folded" m_folded [] F_Book_folded) (C_Book_folded_index_row : Mth P w K mg base 2 a_Book "folded" m_folded ["index", "row"] F_Book_folded_index_row) {f : Addr} {fd : FuncData} (F : Fun K "_law_folded" "_law_folded" s__law_folded f fd) (B : Binds K fd ["_law_book", "_law_lot", "_law_at", "_law_way"] []) : FnD P w K mg base 3 f [] F__law_folded :=
  fnd_pos F sc__law_folded B fun cdv A outer s H E hr hg => by
  have tk := takes_of (X := cxOf (L2.CX P w) P w K mg base N__law_folded "_law_folded" (defScope s__law_folded) f cdv A outer s H E) (E := E) rfl rfl rfl rfl
  have ps := passes_of (X := cxOf (L2.CX P w) P w K mg base N__law_folded "_law_folded" (defScope s__law_folded) f cdv A outer s H E) rfl
  exact (rss_cons (rs_set 4 sc__law_folded.nd re_non)
    (rss_cons (rs_try1 E_NoFold tk sc__law_folded.nd (fun W2 pn xe tk => (rss_one (rs_set 4 sc__law_folded.nd (re_lst (ra_cons re_str (ra_cons (re_if (rt_cmp (o_eq (u64 hr)) (re_v 3) re_int (nomark _)) (re_meth Z_Book.m Z_Book.c C_Book_folded.t C_Book_folded.d (hr.mono (by decide)) hg tk (re_v 0) (ra_cons (re_v 1) (ra_cons (re_v 2) ra_nil))) (re_methK0 Z_Book.m Z_Book.c C_Book_folded_index_row.t C_Book_folded_index_row.d (hr.mono (by decide)) hg tk (re_v 0) (rk_cons (re_v 2) (rk_cons (re_v 1) rk_nil)))) ra_nil)))))) (fun a oe dd pn z vs => (rss_one (rs_set 4 sc__law_folded.nd (re_lst (ra_cons re_str (ra_cons (re_xf 5 E_NoFold.xf E_NoFold.e.no z vs) ra_nil)))))) (fun a d f e s h hl => ind_set (by decide) (ind_lst (ind_coC (ind_coX ind_n))) a d f e s h hl))
    (rss_one (rs_ret (re_v 4)))))
abbrev s__law_folds_right : Stmt := topS 46
abbrev N__law_folds_right : List Str := ["_law_deck_here", "_law_book", "_law_table_here", "_law_lot", "_law_spots_here", "_law_before", "_law_at", "_law_due"]
theorem sc__law_folds_right : FnScope N__law_folds_right ["_law_deck_here", "_law_book", "_law_table_here", "_law_lot"] (defScope s__law_folds_right) := ⟨rfl, rfl, rfl, by decide +kernel, rfl, by decide +kernel, by decide +kernel⟩
def f__law_folds_right : FS :=
  (gSeq (gPar 4 5 (fCall F__law_spots (fCo (fV 2) (fCo (fV 3) fN))) (fCB bReprE (fCo (fV 3) fN)))
  (gSeq (gIf (fB (fOp opNeR (fCB bReprE (fCo (fLst (fCo (fMeth "Book" "folds" F_Book_folds (fV 1) (fCo (fV 3) fN)) (fCo (fMethK "Book" "folds" 1 F_Book_folds_row (fV 1) fN (fCo (fV 3) fN)) fN))) fN)) (fCB bReprE (fCo (fOp opRep (fLst (fCo (fCB bTup (fCo (fV 4) fN)) fN)) (fC (.int 2))) fN)))) (gRt (fC (.bl false))) gNx)
  (gSeq (gFor (fWalk (fOp opAdd (fLRg2 (fNeg (fC (.int 2))) (fOp opAdd (fCB bLen (fCo (fV 3) fN)) (fC (.int 2)))) (fLst (fCo (fC .non) (fCo (fC (.bl true)) (fCo (fC (.bl false)) (fCo (fC (.str "0")) (fCo (fTup fN) (fCo (fLst (fCo (fC (.int 0)) fN)) (fCo (fOp (opI gPow) (fC (.int 10)) (fC (.int 39))) (fCo (fNeg (fOp (opI gPow) (fC (.int 10)) (fC (.int 39)))) (fCo (fC (.dic false [])) fN)))))))))))) (gN 6) (gSeq (gSet 7 (fLst (fCo (fC (.str "none")) (fCo (fV 6) fN))))
  (gSeq (gIf (fAnd (fB (fIsI "int" (fV 6))) (fAnd (fNot (fB (fIsI "bool" (fV 6)))) (fB (fOp opInS (fV 6) (fV 4))))) (gSet 7 (fLst (fCo (fC (.str "row")) (fCo (fCall F__law_once (fCo (fV 2) (fCo (fV 3) (fCo (fV 6) fN)))) fN)))) gNx)
  (gIf (fB (fOp opNeR (fCB bReprE (fCo (fCall F__law_folded (fCo (fV 1) (fCo (fV 3) (fCo (fV 6) (fCo (fCall F__law_draw (fCo (fV 0) (fCo (fC (.int 2)) fN))) fN))))) fN)) (fCB bReprE (fCo (fV 7) fN)))) (gRt (fC (.bl false))) gNx))))
  (gRt (fOp opEqR (fCB bReprE (fCo (fV 3) fN)) (fV 5))))))
def F__law_folds_right : List D → Hh → Oc D := callB N__law_folds_right 4 id (f__law_folds_right)
theorem d__law_folds_right (T : Txt mg) {a_Book : Addr} (Z_Book : Zc K mg "Book" a_Book) (L : Low K) {m_folds : Addr} (C_Book_folds_row : Mth P w K mg base 1 a_Book "folds" m_folds ["row"] F_Book_folds_row) (C_Book_folds : Mth P w K mg base 1 a_Book "folds" m_folds [] F_Book_folds) {a__law_folded : Addr} (C__law_folded : Dfn P w K mg base 3 "_law_folded" a__law_folded F__law_folded) {a__law_draw : Addr} (C__law_draw : Dfn P w K mg base 1 "_law_draw" a__law_draw F__law_draw) {a__law_once : Addr} (C__law_once : Dfn P w K mg base 1 "_law_once" a__law_once F__law_once) {a__law_spots : Addr} (C__law_spots : Dfn P w K mg base 1 "_law_spots" a__law_spots F__law_spots) {f : Addr} {fd : FuncData} (F : Fun K "_law_folds_right" "_law_folds_right" s__law_folds_right f fd) (B : Binds K fd ["_law_deck_here", "_law_book", "_law_table_here", "_law_lot"] []) : FnD P w K mg base 4 f [] F__law_folds_right :=
  fnd_pos F sc__law_folds_right B fun cdv A outer s H E hr hg => by
  have tk := takes_of (X := cxOf (L2.CX P w) P w K mg base N__law_folds_right "_law_folds_right" (defScope s__law_folds_right) f cdv A outer s H E) (E := E) rfl rfl rfl rfl
  have ps := passes_of (X := cxOf (L2.CX P w) P w K mg base N__law_folds_right "_law_folds_right" (defScope s__law_folds_right) f cdv A outer s H E) rfl
  exact (rss_cons (rs_par 4 5 rfl sc__law_folds_right.nd (re_fn C__law_spots hr (by decide) hg tk (ra_cons (re_v 2) (ra_cons (re_v 3) ra_nil))) (re_cb (c_reprE L hg (u200 hr)) T.repr (by decide +kernel) (ra_cons (re_v 3) ra_nil)))
    (rss_cons (rs_if (rt_cmp (o_neR (u64 hr)) (re_cb (c_reprE L hg (u200 hr)) T.repr (by decide +kernel) (ra_cons (re_lst (ra_cons (re_meth Z_Book.m Z_Book.c C_Book_folds.t C_Book_folds.d (hr.mono (by decide)) hg tk (re_v 1) (ra_cons (re_v 3) ra_nil)) (ra_cons (re_methK0 Z_Book.m Z_Book.c C_Book_folds_row.t C_Book_folds_row.d (hr.mono (by decide)) hg tk (re_v 1) (rk_cons (re_v 3) rk_nil)) ra_nil))) ra_nil)) (re_cb (c_reprE L hg (u200 hr)) T.repr (by decide +kernel) (ra_cons (re_op o_rep (re_lst (ra_cons (re_ct c_tup T.tuple (by decide +kernel) (ra_cons (re_v 4) ra_nil)) ra_nil)) re_int) ra_nil)) (nomark _)) (rss_one (rs_ret re_bl)) rss_nil)
    (rss_cons (rs_for ps rfl (ri_seq (re_op o_add (re_lstRg2 rfl T.list T.range (re_neg re_int) (re_op o_add (re_cb c_len T.len (by decide +kernel) (ra_cons (re_v 3) ra_nil)) re_int)) (re_lst (ra_cons re_non (ra_cons re_bl (ra_cons re_bl (ra_cons re_str (ra_cons (re_tup ra_nil) (ra_cons (re_lst (ra_cons re_int ra_nil)) (ra_cons (re_op o_pow re_int re_int) (ra_cons (re_neg (re_op o_pow re_int re_int)) (ra_cons re_dval ra_nil)))))))))))) (rg_name 6 sc__law_folds_right.nd) (rss_cons (rs_set 7 sc__law_folds_right.nd (re_lst (ra_cons re_str (ra_cons (re_v 6) ra_nil))))
    (rss_cons (rs_if (RW'.rt (rw_and (rt_val (re_isi (by decide) T.isinstance (by decide +kernel) T.int (by decide +kernel) (re_v 6))) (rw_and (rt_not (rt_val (re_isi (by decide) T.isinstance (by decide +kernel) T.bool (by decide +kernel) (re_v 6)))) (rw_and1 (rt_cmp (o_inS (u65 hr)) (re_v 6) (re_v 4) (by rfl)))))) (rss_one (rs_set 7 sc__law_folds_right.nd (re_lst (ra_cons re_str (ra_cons (re_fn C__law_once hr (by decide) hg tk (ra_cons (re_v 2) (ra_cons (re_v 3) (ra_cons (re_v 6) ra_nil)))) ra_nil))))) rss_nil)
    (rss_one (rs_if (rt_cmp (o_neR (u64 hr)) (re_cb (c_reprE L hg (u200 hr)) T.repr (by decide +kernel) (ra_cons (re_fn C__law_folded hr (by decide) hg tk (ra_cons (re_v 1) (ra_cons (re_v 3) (ra_cons (re_v 6) (ra_cons (re_fn C__law_draw hr (by decide) hg tk (ra_cons (re_v 0) (ra_cons re_int ra_nil))) ra_nil))))) ra_nil)) (re_cb (c_reprE L hg (u200 hr)) T.repr (by decide +kernel) (ra_cons (re_v 7) ra_nil)) (nomark _)) (rss_one (rs_ret re_bl)) rss_nil)))))
    (rss_one (rs_ret (re_cmp (o_eqR (u64 hr)) (re_cb (c_reprE L hg (u200 hr)) T.repr (by decide +kernel) (ra_cons (re_v 3) ra_nil)) (re_v 5) (nomark _)))))))
abbrev s__law_net_right : Stmt := topS 47
abbrev N__law_net_right : List Str := ["_law_deck_here", "_law_book", "_law_table_here", "_law_lot", "_law_due", "_law_here", "_law_k"]
theorem sc__law_net_right : FnScope N__law_net_right ["_law_deck_here", "_law_book", "_law_table_here", "_law_lot"] (defScope s__law_net_right) := ⟨rfl, rfl, rfl, by decide +kernel, rfl, by decide +kernel, by decide +kernel⟩
def f__law_net_right : FS :=
  (gSeq (gPar 4 5 (fCall F__law_net (fCo (fV 2) (fCo (fV 3) fN))) (fV 3))
  (gSeq (gFor (fRng1 (fCB bLen (fCo (fV 3) fN))) (gN 6) (gIf (fB (fOp opNe (fMeth "Book" "folds" F_Book_folds (fV 1) (fCo (fV 5) fN)) (fTup fN))) (gSet 5 (fMeth "Book" "folded" F_Book_folded (fV 1) (fCo (fV 5) (fCo (fCall F__law_pick (fCo (fV 0) (fCo (fMeth "Book" "folds" F_Book_folds (fV 1) (fCo (fV 5) fN)) fN))) fN)))) gNx))
  (gSeq (gIf (fB (fOp opNeR (fCB bReprE (fCo (fLst (fCo (fMeth "Book" "net" F_Book_net (fV 1) (fCo (fV 3) fN)) (fCo (fMethK "Book" "net" 1 F_Book_net_row (fV 1) fN (fCo (fV 3) fN)) (fCo (fMeth "Book" "net" F_Book_net (fV 1) (fCo (fV 4) fN)) (fCo (fV 5) fN))))) fN)) (fCB bReprE (fCo (fOp opRep (fLst (fCo (fV 4) fN)) (fC (.int 4))) fN)))) (gRt (fC (.bl false))) gNx)
  (gRt (fOp opEqR (fCB bReprE (fCo (fLst (fCo (fMeth "Book" "is_net" F_Book_is_net (fV 1) (fCo (fV 4) fN)) (fCo (fMeth "Book" "is_net" F_Book_is_net (fV 1) (fCo (fV 3) fN)) fN))) fN)) (fCB bReprE (fCo (fLst (fCo (fC (.bl true)) (fCo (fOp opEq (fV 3) (fV 4)) fN))) fN)))))))
def F__law_net_right : List D → Hh → Oc D := callB N__law_net_right 4 id (f__law_net_right)
theorem d__law_net_right (T : Txt mg) {a_Book : Addr} (Z_Book : Zc K mg "Book" a_Book) (L : Low K) {m_is_net : Addr} (C_Book_is_net : Mth P w K mg base 3 a_Book "is_net" m_is_net [] F_Book_is_net) {m_net : Addr} (C_Book_net : Mth P w K mg base 3 a_Book "net" m_net [] F_Book_net) (C_Book_net_row : Mth P w K mg base 3 a_Book "net" m_net ["row"] F_Book_net_row) {m_folds : Addr} (C_Book_folds : Mth P w K mg base 1 a_Book "folds" m_folds [] F_Book_folds) {m_folded : Addr} (C_Book_folded : Mth P w K mg base 2 a_Book "folded" m_folded [] F_Book_folded) {a__law_pick : Addr} (C__law_pick : Dfn P w K mg base 2 "_law_pick" a__law_pick F__law_pick) {a__law_net : Addr} (C__law_net : Dfn P w K mg base 2 "_law_net" a__law_net F__law_net) {f : Addr} {fd : FuncData} (F : Fun K "_law_net_right" "_law_net_right" s__law_net_right f fd) (B : Binds K fd ["_law_deck_here", "_law_book", "_law_table_here", "_law_lot"] []) : FnD P w K mg base 4 f [] F__law_net_right :=
  fnd_pos F sc__law_net_right B fun cdv A outer s H E hr hg => by
  have tk := takes_of (X := cxOf (L2.CX P w) P w K mg base N__law_net_right "_law_net_right" (defScope s__law_net_right) f cdv A outer s H E) (E := E) rfl rfl rfl rfl
  have ps := passes_of (X := cxOf (L2.CX P w) P w K mg base N__law_net_right "_law_net_right" (defScope s__law_net_right) f cdv A outer s H E) rfl
  exact (rss_cons (rs_par 4 5 rfl sc__law_net_right.nd (re_fn C__law_net hr (by decide) hg tk (ra_cons (re_v 2) (ra_cons (re_v 3) ra_nil))) (re_v 3))
    (rss_cons (rs_for ps rfl (ri_rng1 T.range (re_cb c_len T.len (by decide +kernel) (ra_cons (re_v 3) ra_nil))) (rg_name 6 sc__law_net_right.nd) (rss_one (rs_if (rt_cmp (o_ne (u64 hr)) (re_meth Z_Book.m Z_Book.c C_Book_folds.t C_Book_folds.d (hr.mono (by decide)) hg tk (re_v 1) (ra_cons (re_v 5) ra_nil)) (re_tup ra_nil) (nomark _)) (rss_one (rs_set 5 sc__law_net_right.nd (re_meth Z_Book.m Z_Book.c C_Book_folded.t C_Book_folded.d (hr.mono (by decide)) hg tk (re_v 1) (ra_cons (re_v 5) (ra_cons (re_fn C__law_pick hr (by decide) hg tk (ra_cons (re_v 0) (ra_cons (re_meth Z_Book.m Z_Book.c C_Book_folds.t C_Book_folds.d (hr.mono (by decide)) hg tk (re_v 1) (ra_cons (re_v 5) ra_nil)) ra_nil))) ra_nil))))) rss_nil)))
    (rss_cons (rs_if (rt_cmp (o_neR (u64 hr)) (re_cb (c_reprE L hg (u200 hr)) T.repr (by decide +kernel) (ra_cons (re_lst (ra_cons (re_meth Z_Book.m Z_Book.c C_Book_net.t C_Book_net.d (hr.mono (by decide)) hg tk (re_v 1) (ra_cons (re_v 3) ra_nil)) (ra_cons (re_methK0 Z_Book.m Z_Book.c C_Book_net_row.t C_Book_net_row.d (hr.mono (by decide)) hg tk (re_v 1) (rk_cons (re_v 3) rk_nil)) (ra_cons (re_meth Z_Book.m Z_Book.c C_Book_net.t C_Book_net.d (hr.mono (by decide)) hg tk (re_v 1) (ra_cons (re_v 4) ra_nil)) (ra_cons (re_v 5) ra_nil))))) ra_nil)) (re_cb (c_reprE L hg (u200 hr)) T.repr (by decide +kernel) (ra_cons (re_op o_rep (re_lst (ra_cons (re_v 4) ra_nil)) re_int) ra_nil)) (nomark _)) (rss_one (rs_ret re_bl)) rss_nil)
    (rss_one (rs_ret (re_cmp (o_eqR (u64 hr)) (re_cb (c_reprE L hg (u200 hr)) T.repr (by decide +kernel) (ra_cons (re_lst (ra_cons (re_meth Z_Book.m Z_Book.c C_Book_is_net.t C_Book_is_net.d (hr.mono (by decide)) hg tk (re_v 1) (ra_cons (re_v 4) ra_nil)) (ra_cons (re_meth Z_Book.m Z_Book.c C_Book_is_net.t C_Book_is_net.d (hr.mono (by decide)) hg tk (re_v 1) (ra_cons (re_v 3) ra_nil)) ra_nil))) ra_nil)) (re_cb (c_reprE L hg (u200 hr)) T.repr (by decide +kernel) (ra_cons (re_lst (ra_cons re_bl (ra_cons (re_cmp (o_eq (u64 hr)) (re_v 3) (re_v 4) (nomark _)) ra_nil))) ra_nil)) (nomark _)))))))
abbrev s__law_odd : Stmt := topS 48
abbrev N__law_odd : List Str := ["_law_deck_here", "_law_names_here", "_law_lot", "_law_some"]
theorem sc__law_odd : FnScope N__law_odd ["_law_deck_here", "_law_names_here", "_law_lot"] (defScope s__law_odd) := ⟨rfl, rfl, rfl, by decide +kernel, rfl, by decide +kernel, by decide +kernel⟩
def f__law_odd : FS :=
  (gSeq (gSet 3 (fLst (fCo (fC .non) (fCo (fC (.int 0)) (fCo (fC (.str "")) (fCo (fC (.str "a")) (fCo (fOp opIx (fV 1) (fC (.int 0))) (fCo (fLst fN) (fCo (fC (.dic false [])) (fCo (fCB bList (fCo (fV 2) fN)) (fCo (fOp opAdd (fV 2) (fTup (fCo (fC .non) fN))) (fCo (fOp opAdd (fV 2) (fTup (fCo (fC (.str "zq")) fN))) (fCo (fTup (fCo (fV 2) fN)) (fCo (fOp opAdd (fV 2) (fTup (fCo (fTup fN) fN))) (fCo (fLst (fCo (fV 2) fN)) fN)))))))))))))))
  (gSeq (gSet 3 (fOp opAdd (fV 3) (fLst (fCo (fC (.bl true)) (fCo (fOp opAdd (fV 2) (fTup (fCo (fUpr (fOp opIx (fV 1) (fC (.int 0)))) fN))) (fCo (fOp opAdd (fTup (fCo (fC (.int 1)) fN)) (fV 2)) (fCo (fJoin (fC (.str "")) (fV 2)) (fCo (fOp opAdd (fV 2) (fTup (fCo (fLst fN) fN))) (fCo (fTup (fCo (fV 1) fN)) (fCo (fV 2) fN))))))))))
  (gRt (fCall F__law_pick (fCo (fV 0) (fCo (fV 3) fN))))))
def F__law_odd : List D → Hh → Oc D := callB N__law_odd 3 id (f__law_odd)
theorem d__law_odd (T : Txt mg) {a__law_pick : Addr} (C__law_pick : Dfn P w K mg base 2 "_law_pick" a__law_pick F__law_pick) {f : Addr} {fd : FuncData} (F : Fun K "_law_odd" "_law_odd" s__law_odd f fd) (B : Binds K fd ["_law_deck_here", "_law_names_here", "_law_lot"] []) : FnD P w K mg base 3 f [] F__law_odd :=
  fnd_pos F sc__law_odd B fun cdv A outer s H E hr hg => by
  have tk := takes_of (X := cxOf (L2.CX P w) P w K mg base N__law_odd "_law_odd" (defScope s__law_odd) f cdv A outer s H E) (E := E) rfl rfl rfl rfl
  have ps := passes_of (X := cxOf (L2.CX P w) P w K mg base N__law_odd "_law_odd" (defScope s__law_odd) f cdv A outer s H E) rfl
  exact (rss_cons (rs_set 3 sc__law_odd.nd (re_lst (ra_cons re_non (ra_cons re_int (ra_cons re_str (ra_cons re_str (ra_cons (re_ix (u1 hr) (re_v 1) re_int) (ra_cons (re_lst ra_nil) (ra_cons re_dval (ra_cons (re_ct c_list T.list (by decide +kernel) (ra_cons (re_v 2) ra_nil)) (ra_cons (re_op o_add (re_v 2) (re_tup (ra_cons re_non ra_nil))) (ra_cons (re_op o_add (re_v 2) (re_tup (ra_cons re_str ra_nil))) (ra_cons (re_tup (ra_cons (re_v 2) ra_nil)) (ra_cons (re_op o_add (re_v 2) (re_tup (ra_cons (re_tup ra_nil) ra_nil))) (ra_cons (re_lst (ra_cons (re_v 2) ra_nil)) ra_nil)))))))))))))))
    (rss_cons (rs_set 3 sc__law_odd.nd (re_op o_add (re_v 3) (re_lst (ra_cons re_bl (ra_cons (re_op o_add (re_v 2) (re_tup (ra_cons (re_upr (re_ix (u1 hr) (re_v 1) re_int)) ra_nil))) (ra_cons (re_op o_add (re_tup (ra_cons re_int ra_nil)) (re_v 2)) (ra_cons (re_join re_str (re_v 2)) (ra_cons (re_op o_add (re_v 2) (re_tup (ra_cons (re_lst ra_nil) ra_nil))) (ra_cons (re_tup (ra_cons (re_v 1) ra_nil)) (ra_cons (re_v 2) ra_nil))))))))))
    (rss_one (rs_ret (re_fn C__law_pick hr (by decide) hg tk (ra_cons (re_v 0) (ra_cons (re_v 3) ra_nil)))))))
abbrev s__law_is_net : Stmt := topS 49
abbrev N__law_is_net : List Str := ["_law_names_here", "_law_table_here", "_law_it", "_law_odd_here", "_law_one"]
theorem sc__law_is_net : FnScope N__law_is_net ["_law_names_here", "_law_table_here", "_law_it"] (defScope s__law_is_net) := ⟨rfl, rfl, rfl, by decide +kernel, rfl, by decide +kernel, by decide +kernel⟩
def f__law_is_net : FS :=
  (gSeq (gIf (fNot (fB (fIsI "tuple" (fV 2)))) (gRt (fC (.bl false))) gNx)
  (gSeq (gSet 3 (fLc (fWalk (fV 2)) (gN 4) (fOr (fNot (fB (fIsI "str" (fV 4)))) (fB (fOp opNiS (fV 4) (fV 0)))) (fV 4) [4]))
  (gRt (fAndV (fOp opEq (fV 3) (fLst fN)) (fOp opEq (fCall F__law_spots (fCo (fV 1) (fCo (fV 2) fN))) (fLst fN))))))
def F__law_is_net : List D → Hh → Oc D := callB N__law_is_net 3 id (f__law_is_net)
theorem d__law_is_net (T : Txt mg) {a__law_spots : Addr} (C__law_spots : Dfn P w K mg base 1 "_law_spots" a__law_spots F__law_spots) {f : Addr} {fd : FuncData} (F : Fun K "_law_is_net" "_law_is_net" s__law_is_net f fd) (B : Binds K fd ["_law_names_here", "_law_table_here", "_law_it"] []) : FnD P w K mg base 2 f [] F__law_is_net :=
  fnd_pos F sc__law_is_net B fun cdv A outer s H E hr hg => by
  have tk := takes_of (X := cxOf (L2.CX P w) P w K mg base N__law_is_net "_law_is_net" (defScope s__law_is_net) f cdv A outer s H E) (E := E) rfl rfl rfl rfl
  have ps := passes_of (X := cxOf (L2.CX P w) P w K mg base N__law_is_net "_law_is_net" (defScope s__law_is_net) f cdv A outer s H E) rfl
  exact (rss_cons (rs_if (rt_not (rt_val (re_isi (by decide) T.isinstance (by decide +kernel) T.tuple (by decide +kernel) (re_v 2)))) (rss_one (rs_ret re_bl)) rss_nil)
    (rss_cons (rs_setLc 3 (own := [("_law_one", 4)]) rfl sc__law_is_net.nd (ri_seq (re_v 2)) (blkOk_by (own := [("_law_one", 4)]) (N := N__law_is_net) (sc := defScope s__law_is_net) (by decide +kernel)) ⟨fun _ _ _ _ _ => (rgo_name 4 sc__law_is_net.nd), fun _ _ _ _ _ => (rts_one (RW'.rt (rw_or (rt_not (rt_val (re_isi (by decide) T.isinstance (by decide +kernel) T.str (by decide +kernel) (re_v 4)))) (rw_or1 (rt_cmp (o_niS (u65 hr)) (re_v 4) (re_v 0) (by rfl)))))), fun _ _ _ _ _ => (re_v 4)⟩ (sw_true rfl rfl rfl (by decide +kernel)))
    (rss_one (rs_ret (re_and (re_cmp (o_eq (u64 hr)) (re_v 3) (re_lst ra_nil) (nomark _)) (re_one (re_cmp (o_eq (u64 hr)) (re_fn C__law_spots hr (by decide) hg tk (ra_cons (re_v 1) (ra_cons (re_v 2) ra_nil))) (re_lst ra_nil) (nomark _))))))))
end
end L4
set_option Elab.async false
set_option linter.all false
set_option maxRecDepth 100000
set_option maxHeartbeats 2000000
namespace L4
open PySem PySem.Spec PyProof.Rows L2 Lg
section
variable {P : Program} {w : World} {K : PySem.W.Frag} {mg : Str → Option Value} {base : Heap}
abbrev s_law : Stmt := topS 50
abbrev N_law : List Str := ["_law_script", "_law_deck_here", "_law_turn", "_law_names_here", "_law_table_here", "_law_book", "_law_ahead", "_law_behind", "_law_due", "_law_again", "_law_lot", "_law_it", "_law_before"]
theorem sc_law : FnScope N_law ["_law_script"] (defScope s_law) := ⟨rfl, rfl, rfl, by decide +kernel, rfl, by decide +kernel, by decide +kernel⟩
def f_law (a_Book : Addr) : FS :=
  (gSeq (gSet 1 (fCall F__law_deck (fCo (fV 0) fN)))
  (gSeq (gFor (fRng1 (fC (.int 5))) (gN 2) (gSeq (gSet 3 (fCall F__law_names (fCo (fV 1) (fCo (fOp opAdd (fC (.int 1)) (fCall F__law_draw (fCo (fV 1) (fCo (fC (.int 6)) fN)))) fN))))
  (gSeq (gSet 4 (fCall F__law_clear (fCo (fV 1) (fCo (fV 3) (fCo (fCall F__law_pick (fCo (fV 1) (fCo (fLst (fCo (fC (.int 2)) (fCo (fC (.int 3)) (fCo (fC (.int 9)) fN)))) fN))) fN)))))
  (gSeq (gSet 5 (fCall (fun ds => F_Book_of a_Book (.fix a_Book :: ds)) (fCo (fV 3) (fCo (fCall F__law_rules (fCo (fV 3) (fCo (fV 4) fN))) fN))))
  (gSeq (gFor (fWalk (fV 3)) (gN 6) (gFor (fWalk (fV 3)) (gN 7) (gSeq (gSet 8 (fIf (fB (fOp opInS (fTup (fCo (fV 6) (fCo (fV 7) fN))) (fV 4))) (fOp opIx (fV 4) (fTup (fCo (fV 6) (fCo (fV 7) fN)))) (fC .non)))
  (gIf (fB (fOp opNeR (fCB bReprE (fCo (fLst (fCo (fMeth "Book" "result" F_Book_result (fV 5) (fCo (fV 6) (fCo (fV 7) fN))) (fCo (fMethK "Book" "result" 2 F_Book_result_y_x (fV 5) fN (fCo (fV 7) (fCo (fV 6) fN))) fN))) fN)) (fCB bReprE (fCo (fLst (fCo (fV 8) (fCo (fV 8) fN))) fN)))) (gRt (fC (.bl false))) gNx))))
  (gFor (fRng1 (fC (.int 5))) (gN 9) (gSeq (gSet 10 (fCall F__law_row (fCo (fV 1) (fCo (fV 3) (fCo (fV 4) (fCo (fCall F__law_draw (fCo (fV 1) (fCo (fC (.int 15)) fN))) fN))))))
  (gSeq (gIf (fOr (fNot (fB (fCall F__law_folds_right (fCo (fV 1) (fCo (fV 5) (fCo (fV 4) (fCo (fV 10) fN))))))) (fNot (fB (fCall F__law_net_right (fCo (fV 1) (fCo (fV 5) (fCo (fV 4) (fCo (fV 10) fN)))))))) (gRt (fC (.bl false))) gNx)
  (gFor (fWalk (fLst (fCo (fCall F__law_odd (fCo (fV 1) (fCo (fV 3) (fCo (fV 10) fN)))) (fCo (fCall F__law_odd (fCo (fV 1) (fCo (fV 3) (fCo (fCall F__law_net (fCo (fV 4) (fCo (fV 10) fN))) fN)))) fN)))) (gN 11) (gSeq (gPar 8 12 (fCall F__law_is_net (fCo (fV 3) (fCo (fV 4) (fCo (fV 11) fN)))) (fCB bReprE (fCo (fV 11) fN)))
  (gIf (fB (fOp opNeR (fCB bReprE (fCo (fLst (fCo (fMeth "Book" "is_net" F_Book_is_net (fV 5) (fCo (fV 11) fN)) (fCo (fMethK "Book" "is_net" 1 F_Book_is_net_thing (fV 5) fN (fCo (fV 11) fN)) (fCo (fCB bReprE (fCo (fV 11) fN)) fN)))) fN)) (fCB bReprE (fCo (fLst (fCo (fV 8) (fCo (fV 8) (fCo (fV 12) fN)))) fN)))) (gRt (fC (.bl false))) gNx)))))))))))
  (gRt (fC (.bl true)))))
def F_law (a_Book : Addr) : List D → Hh → Oc D := callB N_law 1 id (f_law a_Book)
theorem d_law (T : Txt mg) {a_Book : Addr} (Z_Book : Zc K mg "Book" a_Book) (L : Low K) {m_is_net : Addr} (C_Book_is_net_thing : Mth P w K mg base 3 a_Book "is_net" m_is_net ["thing"] F_Book_is_net_thing) (C_Book_is_net : Mth P w K mg base 3 a_Book "is_net" m_is_net [] F_Book_is_net) {m_result : Addr} (C_Book_result_y_x : Mth P w K mg base 1 a_Book "result" m_result ["y", "x"] F_Book_result_y_x) (C_Book_result : Mth P w K mg base 1 a_Book "result" m_result [] F_Book_result) {mc_Book_of : Value} {p_Book_of m_Book_of : Addr} (CM_Book_of : Cmt P w K mg base 6 a_Book mc_Book_of "of" p_Book_of m_Book_of (F_Book_of a_Book)) {a__law_odd : Addr} (C__law_odd : Dfn P w K mg base 3 "_law_odd" a__law_odd F__law_odd) {a__law_net : Addr} (C__law_net : Dfn P w K mg base 2 "_law_net" a__law_net F__law_net) {a__law_is_net : Addr} (C__law_is_net : Dfn P w K mg base 2 "_law_is_net" a__law_is_net F__law_is_net) {a__law_net_right : Addr} (C__law_net_right : Dfn P w K mg base 4 "_law_net_right" a__law_net_right F__law_net_right) {a__law_folds_right : Addr} (C__law_folds_right : Dfn P w K mg base 4 "_law_folds_right" a__law_folds_right F__law_folds_right) {a__law_row : Addr} (C__law_row : Dfn P w K mg base 3 "_law_row" a__law_row F__law_row) {a__law_draw : Addr} (C__law_draw : Dfn P w K mg base 1 "_law_draw" a__law_draw F__law_draw) {a__law_rules : Addr} (C__law_rules : Dfn P w K mg base 2 "_law_rules" a__law_rules F__law_rules) {a__law_clear : Addr} (C__law_clear : Dfn P w K mg base 4 "_law_clear" a__law_clear F__law_clear) {a__law_pick : Addr} (C__law_pick : Dfn P w K mg base 2 "_law_pick" a__law_pick F__law_pick) {a__law_names : Addr} (C__law_names : Dfn P w K mg base 2 "_law_names" a__law_names F__law_names) {a__law_deck : Addr} (C__law_deck : Dfn P w K mg base 1 "_law_deck" a__law_deck F__law_deck) {f : Addr} {fd : FuncData} (F : Fun K "law" "law" s_law f fd) (B : Binds K fd ["_law_script"] []) : FnD P w K mg base 7 f [] (F_law a_Book) :=
  fnd_pos F sc_law B fun cdv A outer s H E hr hg => by
  have tk := takes_of (X := cxOf (L2.CX P w) P w K mg base N_law "law" (defScope s_law) f cdv A outer s H E) (E := E) rfl rfl rfl rfl
  have ps := passes_of (X := cxOf (L2.CX P w) P w K mg base N_law "law" (defScope s_law) f cdv A outer s H E) rfl
  exact (rss_cons (rs_set 1 sc_law.nd (re_fn C__law_deck hr (by decide) hg tk (ra_cons (re_v 0) ra_nil)))
    (rss_cons (rs_for ps rfl (ri_rng1 T.range re_int) (rg_name 2 sc_law.nd) (rss_cons (rs_set 3 sc_law.nd (re_fn C__law_names hr (by decide) hg tk (ra_cons (re_v 1) (ra_cons (re_op o_add re_int (re_fn C__law_draw hr (by decide) hg tk (ra_cons (re_v 1) (ra_cons re_int ra_nil)))) ra_nil))))
    (rss_cons (rs_set 4 sc_law.nd (re_fn C__law_clear hr (by decide) hg tk (ra_cons (re_v 1) (ra_cons (re_v 3) (ra_cons (re_fn C__law_pick hr (by decide) hg tk (ra_cons (re_v 1) (ra_cons (re_lst (ra_cons re_int (ra_cons re_int (ra_cons re_int ra_nil)))) ra_nil))) ra_nil)))))
    (rss_cons (rs_set 5 sc_law.nd (re_cmeth Z_Book.m CM_Book_of.r CM_Book_of.c CM_Book_of.d (hr.mono (by decide)) hg tk (ra_cons (re_v 3) (ra_cons (re_fn C__law_rules hr (by decide) hg tk (ra_cons (re_v 3) (ra_cons (re_v 4) ra_nil))) ra_nil))))
    (rss_cons (rs_for ps rfl (ri_seq (re_v 3)) (rg_name 6 sc_law.nd) (rss_one (rs_for ps rfl (ri_seq (re_v 3)) (rg_name 7 sc_law.nd) (rss_cons (rs_set 8 sc_law.nd (re_if (rt_cmp (o_inS (u65 hr)) (re_tup (ra_cons (re_v 6) (ra_cons (re_v 7) ra_nil))) (re_v 4) (by rfl)) (re_ix (u1 hr) (re_v 4) (re_tup (ra_cons (re_v 6) (ra_cons (re_v 7) ra_nil)))) re_non))
    (rss_one (rs_if (rt_cmp (o_neR (u64 hr)) (re_cb (c_reprE L hg (u200 hr)) T.repr (by decide +kernel) (ra_cons (re_lst (ra_cons (re_meth Z_Book.m Z_Book.c C_Book_result.t C_Book_result.d (hr.mono (by decide)) hg tk (re_v 5) (ra_cons (re_v 6) (ra_cons (re_v 7) ra_nil))) (ra_cons (re_methK0 Z_Book.m Z_Book.c C_Book_result_y_x.t C_Book_result_y_x.d (hr.mono (by decide)) hg tk (re_v 5) (rk_cons (re_v 7) (rk_cons (re_v 6) rk_nil))) ra_nil))) ra_nil)) (re_cb (c_reprE L hg (u200 hr)) T.repr (by decide +kernel) (ra_cons (re_lst (ra_cons (re_v 8) (ra_cons (re_v 8) ra_nil))) ra_nil)) (nomark _)) (rss_one (rs_ret re_bl)) rss_nil))))))
    (rss_one (rs_for ps rfl (ri_rng1 T.range re_int) (rg_name 9 sc_law.nd) (rss_cons (rs_set 10 sc_law.nd (re_fn C__law_row hr (by decide) hg tk (ra_cons (re_v 1) (ra_cons (re_v 3) (ra_cons (re_v 4) (ra_cons (re_fn C__law_draw hr (by decide) hg tk (ra_cons (re_v 1) (ra_cons re_int ra_nil))) ra_nil))))))
    (rss_cons (rs_if (RW'.rt (rw_or (rt_not (rt_val (re_fn C__law_folds_right hr (by decide) hg tk (ra_cons (re_v 1) (ra_cons (re_v 5) (ra_cons (re_v 4) (ra_cons (re_v 10) ra_nil))))))) (rw_or1 (rt_not (rt_val (re_fn C__law_net_right hr (by decide) hg tk (ra_cons (re_v 1) (ra_cons (re_v 5) (ra_cons (re_v 4) (ra_cons (re_v 10) ra_nil)))))))))) (rss_one (rs_ret re_bl)) rss_nil)
    (rss_one (rs_for ps rfl (ri_seq (re_lst (ra_cons (re_fn C__law_odd hr (by decide) hg tk (ra_cons (re_v 1) (ra_cons (re_v 3) (ra_cons (re_v 10) ra_nil)))) (ra_cons (re_fn C__law_odd hr (by decide) hg tk (ra_cons (re_v 1) (ra_cons (re_v 3) (ra_cons (re_fn C__law_net hr (by decide) hg tk (ra_cons (re_v 4) (ra_cons (re_v 10) ra_nil))) ra_nil)))) ra_nil)))) (rg_name 11 sc_law.nd) (rss_cons (rs_par 8 12 rfl sc_law.nd (re_fn C__law_is_net hr (by decide) hg tk (ra_cons (re_v 3) (ra_cons (re_v 4) (ra_cons (re_v 11) ra_nil)))) (re_cb (c_reprE L hg (u200 hr)) T.repr (by decide +kernel) (ra_cons (re_v 11) ra_nil)))
    (rss_one (rs_if (rt_cmp (o_neR (u64 hr)) (re_cb (c_reprE L hg (u200 hr)) T.repr (by decide +kernel) (ra_cons (re_lst (ra_cons (re_meth Z_Book.m Z_Book.c C_Book_is_net.t C_Book_is_net.d (hr.mono (by decide)) hg tk (re_v 5) (ra_cons (re_v 11) ra_nil)) (ra_cons (re_methK0 Z_Book.m Z_Book.c C_Book_is_net_thing.t C_Book_is_net_thing.d (hr.mono (by decide)) hg tk (re_v 5) (rk_cons (re_v 11) rk_nil)) (ra_cons (re_cb (c_reprE L hg (u200 hr)) T.repr (by decide +kernel) (ra_cons (re_v 11) ra_nil)) ra_nil)))) ra_nil)) (re_cb (c_reprE L hg (u200 hr)) T.repr (by decide +kernel) (ra_cons (re_lst (ra_cons (re_v 8) (ra_cons (re_v 8) (ra_cons (re_v 12) ra_nil)))) ra_nil)) (nomark _)) (rss_one (rs_ret re_bl)) rss_nil))))))))))))))
    (rss_one (rs_ret re_bl))))
end
end L4
set_option Elab.async false
set_option linter.all false
set_option maxRecDepth 100000
set_option maxHeartbeats 1000000
namespace L4
open PySem PySem.Spec PyProof.Rows L2 Lg
/-! ### what stood stands, but for the deck's two places -/
structure Off (n m : Nat) (h h' : Hh) : Prop where
  len : h.length ≤ h'.length
  st : ∀ i, i ≠ n → i ≠ m → i < h.length → h'[i]? = h[i]?
theorem Off.refl {n m : Nat} {h : Hh} : Off n m h h := ⟨Nat.le_refl _, fun _ _ _ _ => rfl⟩
theorem Off.trans {n m : Nat} {h h1 h2 : Hh} (a : Off n m h h1) (b : Off n m h1 h2) : Off n m h h2 :=
  ⟨Nat.le_trans a.len b.len, fun i h1 h2 h3 => (b.st i h1 h2 (Nat.lt_of_lt_of_le h3 a.len)).trans (a.st i h1 h2 h3)⟩
theorem Off.setN {n m : Nat} {h : Hh} {o : O} : Off n m h (h.set n o) := ⟨by simp, fun i h1 _ _ => List.getElem?_set_ne (Ne.symm h1)⟩
theorem Off.setM {n m : Nat} {h : Hh} {o : O} : Off n m h (h.set m o) := ⟨by simp, fun i _ h2 _ => List.getElem?_set_ne (Ne.symm h2)⟩
/-- the deck: its list at n, the cells' at m, k draws done -/
structure Deck (n m : Nat) (k : Int) (h : Hh) : Prop where
  ne : n ≠ m
  at_ : ∃ (a : Int) (cs : List Int), h[n]? = some (.lst [.ref m, .int a, .int k]) ∧ h[m]? = some (.lst (cs.map D.int)) ∧ cs.length ≤ 63 ∧ 0 ≤ a ∧ a < 2147483587 ∧ 0 ≤ k
theorem draw_ok {n m : Nat} {k many : Int} {h : Hh} {Q : D → Hh → Prop} (dk : Deck n m k h) (hk : k ≤ 1000000) (y0 : 0 < many) (y1 : many < 1000000) (q : ∀ r h', Off n m h h' → Deck n m (k + 1) h' → 0 ≤ r → r < many → Q (.int r) h') : Ok (F__law_draw [.ref n, .int many] h) Q := by
  obtain ⟨ne, a, cs, hd, hc, hl, a0, a1, k0⟩ := dk
  have ln : n < h.length := (List.getElem?_eq_some_iff.mp hd).1
  have lm : m < h.length := (List.getElem?_eq_some_iff.mp hc).1
  unfold F__law_draw f__law_draw
  rw [w_callB]
  refine ⟨rfl, ?_⟩
  show OkS (gSeq _ _ [some (.ref n), some (.int many), none, none] h) _
  refine s_det (s1 := [some (.ref n), some (.int many), none, none]) (h1 := h.set n (.lst [.ref m, .int a, .int (k + 1)])) ?_ ?_
  · simp only [Lg.w_ok, Lg.w_V, Lg.w_C, Lg.w_N, Lg.w_Co, Lg.w_op, Lg.w_B, Lg.w_CB, Lg.w_call, Lg.w_tup, Lg.w_lst, Lg.w_lstN, Lg.w_if, Lg.w_not, Lg.w_and, Lg.w_or, Lg.w_tru, Lg.w_pop, Lg.w_app, Lg.s_seq, Lg.s_nx, Lg.s_set, Lg.s_par, Lg.s_rt, Lg.s_rtN, Lg.s_ex, Lg.s_if, Lg.s_asg, Lg.w_sub, Lg.w_gN, Lg.w_callB, Lg.w_lc, Lg.w_lcN, Lg.w_sl, Lg.w_O0, Lg.w_O, Lg.w_revN, Lg.s_par3]
    exact ⟨_, rfl, _, opIx_ref hd rfl, _, rfl, _, rfl, _, opSet_ref hd rfl, trivial, rfl⟩
  have hd1 : (h.set n (.lst [.ref m, .int a, .int (k + 1)]))[n]? = some (.lst [.ref m, .int a, .int (k + 1)]) := List.getElem?_set_self ln
  have hc1 : (h.set n (.lst [.ref m, .int a, .int (k + 1)]))[m]? = some (.lst (cs.map D.int)) := by rw [List.getElem?_set_ne ne]; exact hc
  have o1 : Off n m h (h.set n (.lst [.ref m, .int a, .int (k + 1)])) := Off.setN
  generalize h.set n (.lst [.ref m, .int a, .int (k + 1)]) = h1 at hd1 hc1 o1 ⊢
  refine s_det (s1 := [some (.ref n), some (.int many), some (.int (a + 40123 * (k + 1) * (k + 1))), none]) (h1 := h1) ?_ ?_
  · simp only [Lg.w_ok, Lg.w_V, Lg.w_C, Lg.w_N, Lg.w_Co, Lg.w_op, Lg.w_B, Lg.w_CB, Lg.w_call, Lg.w_tup, Lg.w_lst, Lg.w_lstN, Lg.w_if, Lg.w_not, Lg.w_and, Lg.w_or, Lg.w_tru, Lg.w_pop, Lg.w_app, Lg.s_seq, Lg.s_nx, Lg.s_set, Lg.s_par, Lg.s_rt, Lg.s_rtN, Lg.s_ex, Lg.s_if, Lg.s_asg, Lg.w_sub, Lg.w_gN, Lg.w_callB, Lg.w_lc, Lg.w_lcN, Lg.w_sl, Lg.w_O0, Lg.w_O, Lg.w_revN, Lg.s_par3]
    exact ⟨_, rfl, _, opIx_ref hd1 rfl, _, rfl, _, opIx_ref hd1 rfl, _, gMul_l (by decide), _, rfl, _, opIx_ref hd1 rfl, _, gMul_r (sml_of (by omega) (by omega)), _, rfl, rfl, trivial⟩
  refine s_cut (fun s' h' => ∃ (g : Int) (v : Option D) (cs' : List Int), s' = [some (.ref n), some (.int many), some (.int g), v] ∧ Off n m h h' ∧ h'[n]? = some (.lst [.ref m, .int a, .int (k + 1)]) ∧ h'[m]? = some (.lst (cs'.map D.int)) ∧ cs'.length ≤ 63) ?_ ?_
  · rw [s_if]
    simp only [Lg.w_ok, Lg.w_V, Lg.w_C, Lg.w_N, Lg.w_Co, Lg.w_op, Lg.w_B, Lg.w_CB, Lg.w_call, Lg.w_tup, Lg.w_lst, Lg.w_lstN, Lg.w_if, Lg.w_not, Lg.w_and, Lg.w_or, Lg.w_tru, Lg.w_pop, Lg.w_app, Lg.s_seq, Lg.s_nx, Lg.s_set, Lg.s_par, Lg.s_rt, Lg.s_rtN, Lg.s_ex, Lg.s_if, Lg.s_asg, Lg.w_sub, Lg.w_gN, Lg.w_callB, Lg.w_lc, Lg.w_lcN, Lg.w_sl, Lg.w_O0, Lg.w_O, Lg.w_revN, Lg.s_par3]
    refine ⟨_, rfl, _, opIx_ref hd1 rfl, rfl, _, ne_nil hc1, _, rfl, ?_⟩
    cases hcs : cs.reverse with
    | nil =>
      have : cs = [] := by simpa using hcs
      subst this
      exact ⟨_, none, [], rfl, o1, hd1, hc1, by decide⟩
    | cons u us =>
      have e : cs = us.reverse ++ [u] := by simpa using congrArg List.reverse hcs
      subst e
      have lu : us.length ≤ 62 := by simp at hl; omega
      have lm1 : m < h1.length := (List.getElem?_eq_some_iff.mp hc1).1
      rw [if_pos (by simp)]
      refine ⟨_, rfl, _, opIx_ref hd1 rfl, m, (us.reverse ++ [u]).map D.int, .int u, rfl, hc1, by simp, ?_⟩
      have e2 : ((us.reverse ++ [u]).map D.int).dropLast = us.reverse.map D.int := by simp
      rw [e2]
      have hd2 : (h1.set m (.lst (us.reverse.map D.int)))[n]? = some (.lst [.ref m, .int a, .int (k + 1)]) := by rw [List.getElem?_set_ne ne.symm]; exact hd1
      have hc2 : (h1.set m (.lst (us.reverse.map D.int)))[m]? = some (.lst (us.reverse.map D.int)) := List.getElem?_set_self lm1
      have o2 : Off n m h (h1.set m (.lst (us.reverse.map D.int))) := o1.trans Off.setM
      generalize h1.set m (.lst (us.reverse.map D.int)) = h2 at hd2 hc2 o2 ⊢
      refine ⟨_, rfl, _, rfl, _, rfl, _, rfl, ?_⟩
      by_cases c : (1000000000000000000 : Int) ≤ u
      · rw [if_pos (by simpa using c)]
        refine ⟨_, rfl, _, opIx_ref hd2 rfl, m, _, rfl, hc2, _, rfl, _, rfl, _, gDiv_p ⟨y0, by omega⟩, _, hc2, by simp [line]; omega, ?_⟩
        have lm2 : m < h2.length := (List.getElem?_eq_some_iff.mp hc2).1
        refine ⟨_, rfl, _, _, rfl, _, rfl, _, gMod_p y0, ?_⟩
        refine q _ _ (o2.trans Off.setM) ⟨ne, a, us.reverse ++ [u / many], ?_, ?_, ?_, a0, a1, by omega⟩ (Int.emod_nonneg _ (by omega)) (Int.emod_lt_of_pos _ y0)
        · rw [List.getElem?_set_ne ne.symm]; exact hd2
        · rw [List.getElem?_set_self lm2]; simp
        · simp; omega
      · rw [if_neg (by simpa using c)]
        exact ⟨_, rfl, _, rfl, _, _, rfl, _, rfl, _, _, us.reverse, rfl, o2, hd2, hc2, by simp; omega⟩
  · rintro s' h' ⟨g, v, cs', rfl, o3, hd3, hc3, hl3⟩
    have b0 : (0 : Int) ≤ (g % 2147483629 + 47) * 40692 % 2147483647 := Int.emod_nonneg _ (by decide)
    have b1 : (g % 2147483629 + 47) * 40692 % 2147483647 < 2147483647 := Int.emod_lt_of_pos _ (by decide)
    refine s_det (s1 := [some (.ref n), some (.int many), some (.int ((g % 2147483629 + 47) * 40692 % 2147483647)), v]) (h1 := h') ?_ ?_
    · simp only [Lg.w_ok, Lg.w_V, Lg.w_C, Lg.w_N, Lg.w_Co, Lg.w_op, Lg.w_B, Lg.w_CB, Lg.w_call, Lg.w_tup, Lg.w_lst, Lg.w_lstN, Lg.w_if, Lg.w_not, Lg.w_and, Lg.w_or, Lg.w_tru, Lg.w_pop, Lg.w_app, Lg.s_seq, Lg.s_nx, Lg.s_set, Lg.s_par, Lg.s_rt, Lg.s_rtN, Lg.s_ex, Lg.s_if, Lg.s_asg, Lg.w_sub, Lg.w_gN, Lg.w_callB, Lg.w_lc, Lg.w_lcN, Lg.w_sl, Lg.w_O0, Lg.w_O, Lg.w_revN, Lg.s_par3]
      exact ⟨_, rfl, _, _, rfl, _, gMod_p (by decide), _, rfl, _, _, rfl, _, gMul_r (by decide), _, gMod_p (by decide), rfl, rfl⟩
    generalize (g % 2147483629 + 47) * 40692 % 2147483647 = z at b0 b1 ⊢
    have y : ∀ w : Int, OkS (gRt (fOp (Lg.opI gMod) (fOp (Lg.opI gDiv) (fOp (Lg.opI gMod) (fCB bInt (fCo (fOp (Lg.opI gMul) (fV 2) (fC (.int 39373))) fN)) (fC (.int 2147483563))) (fC (.int 64))) (fV 1)) [some (.ref n), some (.int many), some (.int w), v] h') { nx := fun _ h => Q .non h, rt := Q } := fun w => by
      simp only [Lg.w_ok, Lg.w_V, Lg.w_C, Lg.w_N, Lg.w_Co, Lg.w_op, Lg.w_B, Lg.w_CB, Lg.w_call, Lg.w_tup, Lg.w_lst, Lg.w_lstN, Lg.w_if, Lg.w_not, Lg.w_and, Lg.w_or, Lg.w_tru, Lg.w_pop, Lg.w_app, Lg.s_seq, Lg.s_nx, Lg.s_set, Lg.s_par, Lg.s_rt, Lg.s_rtN, Lg.s_ex, Lg.s_if, Lg.s_asg, Lg.w_sub, Lg.w_gN, Lg.w_callB, Lg.w_lc, Lg.w_lcN, Lg.w_sl, Lg.w_O0, Lg.w_O, Lg.w_revN, Lg.s_par3]
      refine ⟨_, rfl, _, gMul_r (by decide), _, _, rfl, _, gMod_p (by decide), _, gDiv_p (by decide), _, rfl, _, gMod_p y0, ?_⟩
      exact q _ _ o3 ⟨ne, a, cs', hd3, hc3, hl3, a0, a1, by omega⟩ (Int.emod_nonneg _ (by omega)) (Int.emod_lt_of_pos _ y0)
    refine s_det (s1 := [some (.ref n), some (.int many), some (.int ((z * z + 69621 * (k + 1) + 7) % 2147483587)), v]) (h1 := h') ?_ (y _)
    simp only [Lg.w_ok, Lg.w_V, Lg.w_C, Lg.w_N, Lg.w_Co, Lg.w_op, Lg.w_B, Lg.w_CB, Lg.w_call, Lg.w_tup, Lg.w_lst, Lg.w_lstN, Lg.w_if, Lg.w_not, Lg.w_and, Lg.w_or, Lg.w_tru, Lg.w_pop, Lg.w_app, Lg.s_seq, Lg.s_nx, Lg.s_set, Lg.s_par, Lg.s_rt, Lg.s_rtN, Lg.s_ex, Lg.s_if, Lg.s_asg, Lg.w_sub, Lg.w_gN, Lg.w_callB, Lg.w_lc, Lg.w_lcN, Lg.w_sl, Lg.w_O0, Lg.w_O, Lg.w_revN, Lg.s_par3]
    exact ⟨_, rfl, _, rfl, _, gMul_r (sml_of (by omega) (by omega)), _, rfl, _, opIx_ref hd3 rfl, _, gMul_l (by decide), _, rfl, _, rfl, _, _, rfl, _, gMod_p (by decide), rfl, rfl⟩
theorem pick_ok {n m : Nat} {k : Int} {h : Hh} {x : D} {l : List D} {Q : D → Hh → Prop} (dk : Deck n m k h) (hk : k ≤ 1000000) (hx : SeqD x l) (l0 : 0 < l.length) (l1 : l.length < 1000000) (q : ∀ (i : Nat) d h', l[i]? = some d → Off n m h h' → Deck n m (k + 1) h' → Q d h') : Ok (F__law_pick [.ref n, x] h) Q := by
  unfold F__law_pick f__law_pick
  rw [w_callB]
  refine ⟨rfl, ?_⟩
  show OkS (gRt _ [some (.ref n), some x] h) _
  simp only [Lg.w_ok, Lg.w_V, Lg.w_C, Lg.w_N, Lg.w_Co, Lg.w_op, Lg.w_B, Lg.w_CB, Lg.w_call, Lg.w_tup, Lg.w_lst, Lg.w_lstN, Lg.w_if, Lg.w_not, Lg.w_and, Lg.w_or, Lg.w_tru, Lg.w_pop, Lg.w_app, Lg.s_seq, Lg.s_nx, Lg.s_set, Lg.s_par, Lg.s_rt, Lg.s_rtN, Lg.s_ex, Lg.s_if, Lg.s_asg, Lg.w_sub, Lg.w_gN, Lg.w_callB, Lg.w_lc, Lg.w_lcN, Lg.w_sl, Lg.w_O0, Lg.w_O, Lg.w_revN, Lg.s_par3]
  refine ⟨_, rfl, _, rfl, _, rfl, _, _, hx.len, ?_⟩
  refine draw_ok dk hk (by omega) (by omega) fun r h' o d r0 r1 => ?_
  obtain ⟨e, a1, a2⟩ := atI_nat (l := l) r0 (by omega)
  exact ⟨e, hx.ix a1, q _ _ _ a2 o d⟩
theorem cut63 {ns : List Int} (hl : ns.length ≤ 63) : Lg.cutD (ns.map D.int) none (some 63) = ns.map D.int := by
  unfold Lg.cutD
  rw [HT.sIx_none, show HT.sIx (ns.map D.int).length (ns.map D.int).length (some 63) = min 63 (ns.map D.int).length from HT.sIx_nat _ _ 63]
  rw [List.length_map, show min 63 ns.length = ns.length by omega, List.drop_zero, Nat.sub_zero]
  exact List.take_of_length_le (by rw [List.length_map]; exact Nat.le_refl _)
theorem deck_ok {h : Hh} {x : D} {ns : List Int} {Q : D → Hh → Prop} (hx : asF h x = some (ns.map D.int)) (nt : ∀ l, x ≠ .tup l) (hl : ns.length ≤ 63) (q : ∀ n m h', Deck n m 0 h' → (∀ i, i < h.length → h'[i]? = h[i]?) → h.length ≤ h'.length → h.length ≤ n → h.length ≤ m → Q (.ref n) h') : Ok (F__law_deck [x] h) Q := by
  unfold F__law_deck f__law_deck
  rw [w_callB]
  refine ⟨rfl, ?_⟩
  show OkS (gSeq _ _ [some x, none, none, none] h) _
  have sl : opSl h x none (some 63) = some (.lst (ns.map D.int)) := by
    cases x with
    | tup l => exact absurd rfl (nt l)
    | _ => simp [opSl, hx, cut63 hl]
  refine s_det (s1 := [some x, some (.lst (ns.map D.int)), some (.int 98930401), none]) (h1 := h) ?_ ?_
  · simp only [Lg.w_ok, Lg.w_V, Lg.w_C, Lg.w_N, Lg.w_Co, Lg.w_op, Lg.w_B, Lg.w_CB, Lg.w_call, Lg.w_tup, Lg.w_lst, Lg.w_lstN, Lg.w_if, Lg.w_not, Lg.w_and, Lg.w_or, Lg.w_tru, Lg.w_pop, Lg.w_app, Lg.s_seq, Lg.s_nx, Lg.s_set, Lg.s_par, Lg.s_rt, Lg.s_rtN, Lg.s_ex, Lg.s_if, Lg.s_asg, Lg.w_sub, Lg.w_gN, Lg.w_callB, Lg.w_lc, Lg.w_lcN, Lg.w_sl, Lg.w_O0, Lg.w_O, Lg.w_revN, Lg.s_par3]
    exact ⟨_, rfl, _, rfl, _, sl, _, _, rfl, rfl, rfl⟩
  refine s_cut (fun s' h' => h' = h ∧ ∃ (a : Int) (v : Option D), s' = [some x, some (.lst (ns.map D.int)), some (.int a), v] ∧ 0 ≤ a ∧ a < 2147483587) ?_ ?_
  · refine s_forL (l := ns.map D.int) (fun i s' h' => h' = h ∧ ∃ (a : Int) (v : Option D), s' = [some x, some (.lst (ns.map D.int)), some (.int a), v] ∧ 0 ≤ a ∧ a < 2147483587) ?_ ?_ fun _ _ z => z
    · simp only [Lg.w_ok, Lg.w_V, Lg.w_C, Lg.w_N, Lg.w_Co, Lg.w_op, Lg.w_B, Lg.w_CB, Lg.w_call, Lg.w_tup, Lg.w_lst, Lg.w_lstN, Lg.w_if, Lg.w_not, Lg.w_and, Lg.w_or, Lg.w_tru, Lg.w_pop, Lg.w_app, Lg.s_seq, Lg.s_nx, Lg.s_set, Lg.s_par, Lg.s_rt, Lg.s_rtN, Lg.s_ex, Lg.s_if, Lg.s_asg, Lg.w_sub, Lg.w_gN, Lg.w_callB, Lg.w_lc, Lg.w_lcN, Lg.w_sl, Lg.w_O0, Lg.w_O, Lg.w_revN, Lg.s_par3]
      exact ⟨_, rfl, .inr (.inl rfl), trivial, _, _, rfl, by decide, by decide⟩
    · rintro i d s' h' hi ⟨rfl, a, v, rfl, a0, a1⟩
      obtain ⟨y, _, rfl⟩ := List.mem_map.mp (List.mem_of_getElem? hi)
      rw [w_gN]
      show OkS (gSet _ _ [some x, some (.lst (ns.map D.int)), some (.int a), some (.int y)] h') _
      simp only [Lg.w_ok, Lg.w_V, Lg.w_C, Lg.w_N, Lg.w_Co, Lg.w_op, Lg.w_B, Lg.w_CB, Lg.w_call, Lg.w_tup, Lg.w_lst, Lg.w_lstN, Lg.w_if, Lg.w_not, Lg.w_and, Lg.w_or, Lg.w_tru, Lg.w_pop, Lg.w_app, Lg.s_seq, Lg.s_nx, Lg.s_set, Lg.s_par, Lg.s_rt, Lg.s_rtN, Lg.s_ex, Lg.s_if, Lg.s_asg, Lg.w_sub, Lg.w_gN, Lg.w_callB, Lg.w_lc, Lg.w_lcN, Lg.w_sl, Lg.w_O0, Lg.w_O, Lg.w_revN, Lg.s_par3]
      refine ⟨_, rfl, _, gMul_r (by decide), _, rfl, _, _, rfl, _, gMod_p (by decide), _, rfl, _, rfl, _, _, rfl, _, gMod_p (by decide), rfl, _, _, rfl, Int.emod_nonneg _ (by decide), Int.emod_lt_of_pos _ (by decide)⟩
  · rintro s' h' ⟨rfl, a, v, rfl, a0, a1⟩
    simp only [Lg.w_ok, Lg.w_V, Lg.w_C, Lg.w_N, Lg.w_Co, Lg.w_op, Lg.w_B, Lg.w_CB, Lg.w_call, Lg.w_tup, Lg.w_lst, Lg.w_lstN, Lg.w_if, Lg.w_not, Lg.w_and, Lg.w_or, Lg.w_tru, Lg.w_pop, Lg.w_app, Lg.s_seq, Lg.s_nx, Lg.s_set, Lg.s_par, Lg.s_rt, Lg.s_rtN, Lg.s_ex, Lg.s_if, Lg.s_asg, Lg.w_sub, Lg.w_gN, Lg.w_callB, Lg.w_lc, Lg.w_lcN, Lg.w_sl, Lg.w_O0, Lg.w_O, Lg.w_revN, Lg.s_par3]
    refine ⟨_, rfl, _, rfl, _, rfl, rfl, ?_⟩
    have e1 : (h' ++ [O.lst (ns.map D.int).reverse]).length = h'.length + 1 := by simp
    refine q _ h'.length _ ⟨by rw [e1]; omega, a, ns.reverse, ?_, ?_, by simpa using hl, a0, a1, by decide⟩ (fun i hi => ?_) (by simp) (by rw [e1]; omega) (Nat.le_refl _)
    · rw [List.getElem?_append_right (by rw [e1]; exact Nat.le_refl _)]
      simp
    · rw [List.getElem?_append_left (by rw [e1]; omega), List.getElem?_append_right (Nat.le_refl _)]
      simp
    · rw [List.getElem?_append_left (by rw [e1]; omega), List.getElem?_append_left hi]
end L4
set_option Elab.async false
set_option linter.all false
set_option maxRecDepth 100000
set_option maxHeartbeats 1000000
namespace L4
open PySem PySem.Spec PyProof.Rows L2 Lg
theorem erase_perm {α : Type} : ∀ (l : List α) (k : Nat) (h : k < l.length), (l[k] :: l.eraseIdx k).Perm l
  | [], _, h => by simp at h
  | a :: l, 0, _ => List.Perm.refl _
  | a :: l, k + 1, h => by
    have hk : k < l.length := by simpa using h
    exact (List.Perm.swap a l[k] (l.eraseIdx k)).trans ((erase_perm l k hk).cons a)
theorem map_erase {α β : Type} (f : α → β) : ∀ (l : List α) (k : Nat), (l.map f).eraseIdx k = (l.eraseIdx k).map f
  | [], _ => rfl
  | a :: l, 0 => rfl
  | a :: l, k + 1 => by
    show f a :: (l.map f).eraseIdx k = f a :: (l.eraseIdx k).map f
    rw [map_erase f l k]
def POOL : List Str := ["a", "b", "ab", "ba", "abc", "undo", "set", "off", "on", "x", "entries", "zzzzzzzz", "zzzzzzzy"]
theorem pool_split : Txt.split "a b ab ba abc undo set off on x entries zzzzzzzz zzzzzzzy" " " = POOL := by decide +kernel
def leS (a b : Str) : Bool := decide (a.cps.toList ≤ b.cps.toList)
structure NamesOk (ns : List Str) : Prop where
  nd : ns.Nodup
  sorted : ns.Pairwise fun a b => leS a b = true
  pool : ∀ x ∈ ns, x ∈ POOL
theorem pool_ok : ∀ x ∈ POOL, SeqAt.shaped (.str x) = true := by decide +kernel
/-- sorted() of texts -/
theorem sortD_str {h : Hh} {fs : List Str} (ok : ∀ x ∈ fs, SeqAt.shaped (.str x) = true) : sortD h (fs.map D.str) = some ((fs.mergeSort leS).map D.str) := by
  unfold sortD
  rw [py_map (g := PyData.str) (fun _ => rfl)]
  dsimp only
  have c1 : (fs.map D.str).all (noL 66) = true := by
    rw [List.all_eq_true]
    intro d hd
    obtain ⟨x, _, rfl⟩ := List.mem_map.mp hd
    rfl
  have c2 : alikeOk (fs.map PyData.str) = true := by
    unfold alikeOk
    rw [List.all_eq_true]
    intro d hd
    rw [List.all_eq_true]
    intro e he
    obtain ⟨x, _, rfl⟩ := List.mem_map.mp hd
    obtain ⟨y, _, rfl⟩ := List.mem_map.mp he
    rfl
  have c3 : sortOk (fs.map PyData.str) = true := by
    unfold sortOk
    rw [Bool.or_eq_true]
    refine .inr ?_
    rw [List.all_eq_true]
    intro d hd
    obtain ⟨x, _, rfl⟩ := List.mem_map.mp hd
    rfl
  have c4 : (fs.map PyData.str).all SeqAt.shaped = true := by
    rw [List.all_eq_true]
    intro d hd
    obtain ⟨x, hx, rfl⟩ := List.mem_map.mp hd
    exact ok x hx
  rw [c1, c2, c3, c4]
  simp only [Bool.and_self, if_true, Option.some.injEq]
  have z : (fs.map D.str).zip (fs.map PyData.str) = fs.map fun x => (D.str x, PyData.str x) := by
    induction fs with
    | nil => rfl
    | cons a l ih => simp [List.zip_map']
  rw [z]
  have r : ∀ a b : Str, leS a b = PySem.W.dataLe false Prod.snd ((D.str a, PyData.str a) : D × PyData) (D.str b, PyData.str b) := fun a b => by
    have e := congrFun (congrFun (PySem.W.dataLe_str (fun x : Str => x)) a) b
    exact e.symm
  rw [← List.map_mergeSort (r := leS) (f := fun x => (D.str x, PyData.str x)) (fun a _ b _ => r a b), List.map_map]
  rfl
theorem names_ok {n m : Nat} {k : Int} {many : Nat} {h : Hh} {Q : D → Hh → Prop} (dk : Deck n m k h) (hk : k + many ≤ 1000000) (hm : many ≤ 13) (q : ∀ ns h', Off n m h h' → Deck n m (k + many) h' → NamesOk ns → ns.length = many → Q (.tup (ns.map D.str)) h') : Ok (F__law_names [.ref n, .int many] h) Q := by
  have ne0 := dk.ne
  have at0 := dk.at_
  refine Exists.elim at0 fun a00 at0 => ?_
  refine Exists.elim at0 fun cs0 at0 => ?_
  have hd00 := at0.1
  have hc00 := at0.2.1
  have q1 := at0.2.2.1
  have q2 := at0.2.2.2.1
  have q3 := at0.2.2.2.2.1
  have q4 := at0.2.2.2.2.2
  have ln : n < h.length := (List.getElem?_eq_some_iff.mp hd00).1
  have lm : m < h.length := (List.getElem?_eq_some_iff.mp hc00).1
  unfold F__law_names f__law_names
  rw [w_callB]
  refine ⟨rfl, ?_⟩
  show OkS (gSeq _ _ [some (.ref n), some (.int many), none, none, none] h) _
  refine s_det (s1 := [some (.ref n), some (.int many), some (.ref h.length), some (.ref (h.length + 1)), none]) (h1 := h ++ [.lst (POOL.map D.str)] ++ [.lst []]) ?_ ?_
  · rw [s_par]
    have e : fSplitN (fC (.str "a b ab ba abc undo set off on x entries zzzzzzzz zzzzzzzy")) (fC (.str " ")) [some (.ref n), some (.int many), none, none, none] h = .ok (.ref h.length) (h ++ [.lst (POOL.map D.str)]) := by
      unfold fSplitN
      rw [show fC (.str "a b ab ba abc undo set off on x entries zzzzzzzz zzzzzzzy") [some (D.ref n), some (.int many), none, none, none] h = .ok (.str "a b ab ba abc undo set off on x entries zzzzzzzz zzzzzzzy") h from rfl]
      rw [Oc.bind_ok]
      dsimp only
      rw [show fC (.str " ") [some (D.ref n), some (.int many), none, none, none] h = .ok (.str " ") h from rfl, Oc.bind_ok]
      dsimp only
      rw [pool_split, if_neg (by decide +kernel)]
    rw [e]
    simp only [Lg.w_ok, Lg.w_V, Lg.w_C, Lg.w_N, Lg.w_Co, Lg.w_op, Lg.w_B, Lg.w_CB, Lg.w_call, Lg.w_tup, Lg.w_lst, Lg.w_lstN, Lg.w_if, Lg.w_not, Lg.w_and, Lg.w_or, Lg.w_tru, Lg.w_pop, Lg.w_app, Lg.s_seq, Lg.s_nx, Lg.s_set, Lg.s_par, Lg.s_rt, Lg.s_rtN, Lg.s_ex, Lg.s_if, Lg.s_asg, Lg.w_sub, Lg.w_gN, Lg.w_callB, Lg.w_lc, Lg.w_lcN, Lg.w_sl, Lg.w_O0, Lg.w_O, Lg.w_revN, Lg.s_par3]
    simp
    decide
  have e0 : (h ++ [O.lst (POOL.map D.str)] ++ [O.lst []]) = h ++ [O.lst (POOL.map D.str), O.lst []] := by simp
  refine s_cut (fun s' h' => ∃ (v : Option D) (ps fs : List Str), s' = [some (.ref n), some (.int many), some (.ref h.length), some (.ref (h.length + 1)), v] ∧ Off n m h h' ∧ Deck n m (k + many) h' ∧ h'[h.length]? = some (.lst (ps.map D.str)) ∧ h'[h.length + 1]? = some (.lst (fs.map D.str)) ∧ (ps ++ fs).Perm POOL ∧ fs.length = many) ?_ ?_
  · refine s_forR many (fun i s' h' => ∃ (v : Option D) (ps fs : List Str), s' = [some (.ref n), some (.int many), some (.ref h.length), some (.ref (h.length + 1)), v] ∧ Off n m h h' ∧ Deck n m (k + i) h' ∧ h'[h.length]? = some (.lst (ps.map D.str)) ∧ h'[h.length + 1]? = some (.lst (fs.map D.str)) ∧ (ps ++ fs).Perm POOL ∧ fs.length = i) ?_ ?_ fun _ _ z => z
    · simp only [Lg.w_ok, Lg.w_V, Lg.w_C, Lg.w_N, Lg.w_Co, Lg.w_op, Lg.w_B, Lg.w_CB, Lg.w_call, Lg.w_tup, Lg.w_lst, Lg.w_lstN, Lg.w_if, Lg.w_not, Lg.w_and, Lg.w_or, Lg.w_tru, Lg.w_pop, Lg.w_app, Lg.s_seq, Lg.s_nx, Lg.s_set, Lg.s_par, Lg.s_rt, Lg.s_rtN, Lg.s_ex, Lg.s_if, Lg.s_asg, Lg.w_sub, Lg.w_gN, Lg.w_callB, Lg.w_lc, Lg.w_lcN, Lg.w_sl, Lg.w_O0, Lg.w_O, Lg.w_revN, Lg.s_par3]
      refine ⟨_, rfl, ⟨_, rfl, by omega, by omega, by omega⟩, none, POOL, [], rfl, ⟨by simp, fun i _ _ hi => ?_⟩, ?_, ?_, ?_, by simp, rfl⟩
      · rw [e0, List.getElem?_append_left hi]
      · rw [e0]
        exact ⟨ne0, a00, cs0, by rw [List.getElem?_append_left ln]; simpa using hd00, by rw [List.getElem?_append_left lm]; exact hc00, q1, q2, q3, by simpa using q4⟩
      · rw [e0, List.getElem?_append_right (Nat.le_refl _)]
        simp
      · rw [e0, List.getElem?_append_right (by omega)]
        simp
    · rintro i s' h1 hi ⟨v, ps, fs, rfl, o, dk1, hl, hp, pm, hf⟩
      have hlen : ps.length + fs.length = 13 := by
        have := pm.length_eq
        rw [List.length_append] at this
        exact this
      rw [w_gN]
      show OkS (gEx _ [some (.ref n), some (.int many), some (.ref h.length), some (.ref (h.length + 1)), some (.int i)] h1) _
      simp only [Lg.w_ok, Lg.w_V, Lg.w_C, Lg.w_N, Lg.w_Co, Lg.w_op, Lg.w_B, Lg.w_CB, Lg.w_call, Lg.w_tup, Lg.w_lst, Lg.w_lstN, Lg.w_if, Lg.w_not, Lg.w_and, Lg.w_or, Lg.w_tru, Lg.w_pop, Lg.w_app, Lg.s_seq, Lg.s_nx, Lg.s_set, Lg.s_par, Lg.s_rt, Lg.s_rtN, Lg.s_ex, Lg.s_if, Lg.s_asg, Lg.w_sub, Lg.w_gN, Lg.w_callB, Lg.w_lc, Lg.w_lcN, Lg.w_sl, Lg.w_O0, Lg.w_O, Lg.w_revN, Lg.s_par3]
      refine ⟨_, rfl, _, _, rfl, hp, ?_⟩
      refine w_popAt ?_
      simp only [Lg.w_ok, Lg.w_V, Lg.w_C, Lg.w_N, Lg.w_Co, Lg.w_op, Lg.w_B, Lg.w_CB, Lg.w_call, Lg.w_tup, Lg.w_lst, Lg.w_lstN, Lg.w_if, Lg.w_not, Lg.w_and, Lg.w_or, Lg.w_tru, Lg.w_pop, Lg.w_app, Lg.s_seq, Lg.s_nx, Lg.s_set, Lg.s_par, Lg.s_rt, Lg.s_rtN, Lg.s_ex, Lg.s_if, Lg.s_asg, Lg.w_sub, Lg.w_gN, Lg.w_callB, Lg.w_lc, Lg.w_lcN, Lg.w_sl, Lg.w_O0, Lg.w_O, Lg.w_revN, Lg.s_par3]
      refine ⟨_, rfl, _, _, rfl, hl, _, rfl, _, rfl, (.int ps.length), h1, ?_, ?_⟩
      · show bLen [.ref h.length] h1 = _
        simp [bLen, Lg.asS, asL, hl]
      refine draw_ok dk1 (by omega) (by omega) (by omega) fun r h2 o2 dk2 r0 r1 => ?_
      have lh1 : h.length + 1 < h1.length := (List.getElem?_eq_some_iff.mp hp).1
      have nl : h.length ≠ n := by omega
      have ml : h.length ≠ m := by omega
      have hl2 : h2[h.length]? = some (.lst (ps.map D.str)) := (o2.st _ nl ml (by omega)).trans hl
      have hp2 : h2[h.length + 1]? = some (.lst (fs.map D.str)) := (o2.st _ (by omega) (by omega) (by omega)).trans hp
      have hr : r.toNat < ps.length := by omega
      have lh2 : h.length + 1 < h2.length := (List.getElem?_eq_some_iff.mp hp2).1
      refine ⟨r, _, r.toNat, .str ps[r.toNat], rfl, hl2, popIx_nat r0 (by simpa using r1) (by simp; omega), by rw [List.getElem?_map, List.getElem?_eq_getElem hr]; rfl, ?_⟩
      refine ⟨_, _, rfl, fs.map D.str, ?_, by simp [line]; omega, ?_⟩
      · rw [List.getElem?_set_ne (by omega)]
        exact hp2
      refine ⟨some (.int i), ps.eraseIdx r.toNat, fs ++ [ps[r.toNat]], rfl, ?_, ?_, ?_, ?_, ?_, ?_⟩
      · have o3 := o.trans o2
        refine ⟨by simpa using o3.len, fun j j1 j2 j3 => ?_⟩
        rw [List.getElem?_set_ne (by omega), List.getElem?_set_ne (by omega)]
        exact o3.st j j1 j2 j3
      · obtain ⟨ne, a, cs, e1, e2, e3, e4, e5, e6⟩ := dk2
        refine ⟨ne, a, cs, ?_, ?_, e3, e4, e5, by omega⟩
        · rw [List.getElem?_set_ne (by omega), List.getElem?_set_ne (by omega), e1, show k + (i : Int) + 1 = k + ((i + 1 : Nat) : Int) by omega]
        · rw [List.getElem?_set_ne (by omega), List.getElem?_set_ne (by omega)]
          exact e2
      · rw [List.getElem?_set_ne (by omega), List.getElem?_set_self (by omega), map_erase]
      · rw [List.getElem?_set_self (by simpa using lh2)]
        simp
      · refine List.Perm.trans ?_ pm
        have h2 : (ps.eraseIdx r.toNat ++ (fs ++ [ps[r.toNat]])).Perm ((ps[r.toNat] :: ps.eraseIdx r.toNat) ++ fs) := by
          rw [← List.append_assoc]
          exact List.perm_append_comm (l₁ := ps.eraseIdx r.toNat ++ fs) (l₂ := [ps[r.toNat]])
        exact h2.trans ((erase_perm ps r.toNat hr).append_right fs)
      · simp [hf]
  · rintro s' h1 ⟨v, ps, fs, rfl, o, dk1, hl, hp, pm, hf⟩
    have nd : (ps ++ fs).Nodup := pm.nodup_iff.mpr (by decide +kernel)
    rw [List.nodup_append] at nd
    have mem : ∀ x ∈ fs, x ∈ POOL := fun x hx => pm.mem_iff.mp (List.mem_append_right _ hx)
    have py : (fs.mergeSort leS).Perm fs := List.mergeSort_perm ..
    simp only [Lg.w_ok, Lg.w_V, Lg.w_C, Lg.w_N, Lg.w_Co, Lg.w_op, Lg.w_B, Lg.w_CB, Lg.w_call, Lg.w_tup, Lg.w_lst, Lg.w_lstN, Lg.w_if, Lg.w_not, Lg.w_and, Lg.w_or, Lg.w_tru, Lg.w_pop, Lg.w_app, Lg.s_seq, Lg.s_nx, Lg.s_set, Lg.s_par, Lg.s_rt, Lg.s_rtN, Lg.s_ex, Lg.s_if, Lg.s_asg, Lg.w_sub, Lg.w_gN, Lg.w_callB, Lg.w_lc, Lg.w_lcN, Lg.w_sl, Lg.w_O0, Lg.w_O, Lg.w_revN, Lg.s_par3]
    refine ⟨_, rfl, (.lst ((fs.mergeSort leS).map D.str)), h1, ?_, _, _, rfl, ?_⟩
    · show ((Lg.asS h1 (.ref (h.length + 1))).bind (sortD h1)).map (fun l => (D.lst l, h1)) = _
      have : Lg.asS h1 (.ref (h.length + 1)) = some (fs.map D.str) := by simp [Lg.asS, asL, hp]
      rw [this, Option.bind_some, sortD_str fun x hx => pool_ok x (mem x hx)]
      rfl
    refine q _ _ o dk1 ⟨py.nodup_iff.mpr nd.2.1, ?_, fun x hx => mem x (py.mem_iff.mp hx)⟩ (by rw [py.length_eq, hf])
    exact List.pairwise_mergeSort (le := leS) (fun a b c h1 h2 => decide_eq_true (List.le_trans (of_decide_eq_true h1) (of_decide_eq_true h2))) (fun a b => by
      unfold leS
      rcases List.le_total a.cps.toList b.cps.toList with z | z
      · simp [z]
      · simp [z]) fs
end L4
set_option Elab.async false
set_option linter.all false
set_option maxRecDepth 100000
set_option maxHeartbeats 1000000
namespace L4
open PySem PySem.Spec PyProof.Rows L2 Lg
/-! ### tables of results, rows -/
abbrev Tab := List ((Str × Str) × List Str)
abbrev rowD (r : List Str) : D := .tup (r.map D.str)
def encT (T : Tab) : List (D × D) := T.map fun e => (.tup [.str e.1.1, .str e.1.2], rowD e.2)
def lookT : Tab → Str → Str → Option (List Str)
  | [], _, _ => none
  | e :: T, x, y => if e.1 = (x, y) then some e.2 else lookT T x y
theorem kEq_pair {a b x y : Str} : kEq (.tup [.str a, .str b]) (.tup [.str x, .str y]) = decide ((a, b) = (x, y)) := by
  simp [kEq, kEqs, kEq0]
theorem look_enc {x y : Str} : ∀ T : Tab, look (encT T) (.tup [.str x, .str y]) = (lookT T x y).map rowD
  | [] => rfl
  | ((a, b), r) :: T => by
    show (if kEq (.tup [.str a, .str b]) (.tup [.str x, .str y]) = true then some (rowD r) else look (encT T) _) = (if (a, b) = (x, y) then some r else lookT T x y).map rowD
    rw [kEq_pair, look_enc T]
    by_cases c : (a, b) = (x, y)
    · simp [c]
    · simp [c]
def TabAt (h : Hh) (t : Nat) (T : Tab) : Prop := h[t]? = some (.dic true (encT T))
theorem TabAt.asD {h : Hh} {t : Nat} {T : Tab} (e : TabAt h t T) : asD h (.ref t) = some (true, encT T) := by
  unfold TabAt at e
  simp [Lg.asD, e]
theorem TabAt.in_ {h : Hh} {t : Nat} {T : Tab} {x y : Str} (e : TabAt h t T) : opInS h (.tup [.str x, .str y]) (.ref t) = some (.bl (lookT T x y).isSome) := by
  have z : setAt h (.ref t) = none := by
    unfold TabAt at e
    simp [setAt, e]
  have k : keyOk true (.tup [.str x, .str y]) = true := rfl
  unfold opInS isInS isIn
  rw [z, e.asD]
  simp only [k, if_true, look_enc]
  cases lookT T x y <;> rfl
theorem TabAt.ix {h : Hh} {t : Nat} {T : Tab} {x y : Str} {r : List Str} (e : TabAt h t T) (a : lookT T x y = some r) : opIx h (.ref t) (.tup [.str x, .str y]) = some (rowD r) := by
  have k : keyOk true (.tup [.str x, .str y]) = true := rfl
  unfold opIx
  rw [e.asD]
  simp only [k, if_true, look_enc, a]
  rfl
theorem row_ix {h : Hh} {l : List Str} {i : Nat} {x : Str} (a : l[i]? = some x) : opIx h (rowD l) (.int i) = some (.str x) := by
  refine SeqD.ix (l := l.map D.str) (.inl rfl) ?_
  unfold atI ixN
  have hl : i < l.length := (List.getElem?_eq_some_iff.mp a).1
  rw [if_pos (by omega), if_pos (by rw [List.length_map]; omega)]
  show (l.map D.str)[(i : Int).toNat]? = _
  rw [Int.toNat_natCast, List.getElem?_map, a]
  rfl
def spotAt (T : Tab) (l : List Str) (i : Nat) : Bool := match l[i]?, l[i + 1]? with
  | some x, some y => (lookT T x y).isSome
  | _, _ => false
def spotsL (T : Tab) (l : List Str) : List Nat := (List.range (l.length - 1)).filter (spotAt T l)
theorem spots_ok {h : Hh} {t : Nat} {T : Tab} {l : List Str} {Q : D → Hh → Prop} (e : TabAt h t T) (hl : l.length < 1000000) (q : Q (.lst ((spotsL T l).map fun i => D.int (i : Nat))) h) : Ok (F__law_spots [.ref t, rowD l] h) Q := by
  unfold F__law_spots f__law_spots
  rw [w_callB]
  refine ⟨rfl, ?_⟩
  show OkS (gRt _ [some (.ref t), some (rowD l), none] h) _
  rw [s_rt, w_lc]
  refine w_lcL (fun i acc h' => h' = h ∧ acc = ((List.range i).filter (spotAt T l)).map fun i => D.int (i : Nat)) ?_
  rw [w_rng]
  simp only [Lg.w_ok, Lg.w_V, Lg.w_C, Lg.w_N, Lg.w_Co, Lg.w_op, Lg.w_B, Lg.w_CB, Lg.w_call, Lg.w_tup, Lg.w_lst, Lg.w_lstN, Lg.w_if, Lg.w_not, Lg.w_and, Lg.w_or, Lg.w_tru, Lg.w_pop, Lg.w_app, Lg.s_seq, Lg.s_nx, Lg.s_set, Lg.s_par, Lg.s_rt, Lg.s_rtN, Lg.s_ex, Lg.s_if, Lg.s_asg, Lg.w_sub, Lg.w_gN, Lg.w_callB, Lg.w_lc, Lg.w_lcN, Lg.w_sl, Lg.w_O0, Lg.w_O, Lg.w_revN, Lg.s_par3]
  refine ⟨_, rfl, _, _, SeqD.len (l := l.map D.str) (.inl rfl), _, rfl, _, rfl, decide_eq_true ⟨by rw [List.length_map]; omega, by rw [List.length_map]; omega⟩, ⟨rfl, by simp⟩, ?_, ?_⟩
  · rintro i acc h' hi ⟨rfl, rfl⟩
    have hn : i < ((l.map D.str).length - 1 : Int).toNat := hi
    rw [List.length_map] at hn
    have h1 : i < l.length := by omega
    have h2 : i + 1 < l.length := by omega
    have e1 := List.getElem?_eq_getElem h1
    have e2 := List.getElem?_eq_getElem h2
    refine ⟨decide_eq_true ?_, .int (0 + i), ?_, ?_⟩
    · have := List.length_filter_le (spotAt T l) (List.range i)
      rw [List.length_map]
      rw [List.length_range] at this
      omega
    · show (if i < _ then some (D.int (0 + i)) else none) = _
      exact if_pos hi
    · rw [Int.zero_add]
      refine ⟨_, rfl, _, rfl, _, row_ix e1, _, rfl, _, rfl, _, rfl, _, (row_ix (i := i + 1) e2 : opIx h' (rowD l) (.int ((i : Int) + 1)) = some (.str l[i + 1])), rfl, _, rfl, _, e.in_, _, rfl, ?_⟩
      · have sp : spotAt T l i = (lookT T l[i] l[i + 1]).isSome := by
          unfold spotAt
          rw [e1, e2]
        rw [← sp, List.range_succ, List.filter_append]
        cases c : spotAt T l i with
        | true =>
          rw [if_pos rfl]
          exact ⟨_, rfl, rfl, by simp [c]⟩
        | false =>
          rw [if_neg Bool.false_ne_true]
          exact ⟨rfl, by simp [c]⟩
  · rintro acc h' ⟨rfl, rfl⟩
    refine ⟨rfl, ?_⟩
    have z : (wkI 0 ((l.map D.str).length - 1 : Int).toNat).n = l.length - 1 := by
      show ((l.map D.str).length - 1 : Int).toNat = _
      rw [List.length_map]
      omega
    rw [z]
    exact q
theorem cut_to {xs : List D} {k : Nat} : Lg.cutD xs none (some (k : Int)) = xs.take k := by
  unfold Lg.cutD
  rw [HT.sIx_none, HT.sIx_nat _ _ k, List.drop_zero, Nat.sub_zero]
  rcases Nat.le_total k xs.length with z | z
  · rw [Nat.min_eq_left z]
  · rw [Nat.min_eq_right z, List.take_length, List.take_of_length_le z]
theorem cut_from {xs : List D} {k : Nat} : Lg.cutD xs (some (k : Int)) none = xs.drop k := by
  unfold Lg.cutD
  rw [HT.sIx_none, HT.sIx_nat _ _ k]
  rcases Nat.le_total k xs.length with z | z
  · rw [Nat.min_eq_left z]
    exact List.take_of_length_le (by rw [List.length_drop]; exact Nat.le_refl _)
  · rw [Nat.min_eq_right z, List.drop_length, List.drop_of_length_le z]
    simp
theorem row_to {h : Hh} {l : List Str} {k : Nat} : opSl h (rowD l) none (some (k : Int)) = some (rowD (l.take k)) := by
  show some (D.tup (Lg.cutD (l.map D.str) none (some (k : Int)))) = _
  rw [cut_to, ← List.map_take]
theorem row_from {h : Hh} {l : List Str} {k : Nat} : opSl h (rowD l) (some (k : Int)) none = some (rowD (l.drop k)) := by
  show some (D.tup (Lg.cutD (l.map D.str) (some (k : Int)) none)) = _
  rw [cut_from, ← List.map_drop]
theorem row_add {h : Hh} {a b : List Str} (z : a.length + b.length ≤ 16000000) : opAdd h (rowD a) (rowD b) = some (rowD (a ++ b)) := by
  show (if line ((a.map D.str).length + (b.map D.str).length) then some (D.tup (a.map D.str ++ b.map D.str)) else none) = _
  rw [List.length_map, List.length_map, show line (a.length + b.length) = true from decide_eq_true z, if_pos rfl, ← List.map_append]
def onceL (T : Tab) (l : List Str) (k : Nat) : List Str := match l[k]?, l[k + 1]? with
  | some x, some y => l.take k ++ ((lookT T x y).getD []) ++ l.drop (k + 2)
  | _, _ => l
theorem once_ok {h : Hh} {t k : Nat} {T : Tab} {l : List Str} {Q : D → Hh → Prop} (e : TabAt h t T) (hl : l.length < 1000000) (hk : spotAt T l k = true) (sm : ∀ x y r, lookT T x y = some r → r.length ≤ 1) (q : Q (rowD (onceL T l k)) h) : Ok (F__law_once [.ref t, rowD l, .int k] h) Q := by
  unfold spotAt at hk
  cases e1 : l[k]? with
  | none => rw [e1] at hk; cases hk
  | some x =>
    cases e2 : l[k + 1]? with
    | none => rw [e1, e2] at hk; cases hk
    | some y =>
      rw [e1, e2] at hk
      obtain ⟨r, er⟩ := Option.isSome_iff_exists.mp hk
      have sr := sm x y r er
      have v : onceL T l k = l.take k ++ r ++ l.drop (k + 2) := by
        unfold onceL
        rw [e1, e2]
        dsimp only
        rw [er]
        rfl
      rw [v] at q
      unfold F__law_once f__law_once
      rw [w_callB]
      refine ⟨rfl, ?_⟩
      show OkS (gRt _ [some (.ref t), some (rowD l), some (.int k)] h) _
      simp only [Lg.w_ok, Lg.w_V, Lg.w_C, Lg.w_N, Lg.w_Co, Lg.w_op, Lg.w_B, Lg.w_CB, Lg.w_call, Lg.w_tup, Lg.w_lst, Lg.w_lstN, Lg.w_if, Lg.w_not, Lg.w_and, Lg.w_or, Lg.w_tru, Lg.w_pop, Lg.w_app, Lg.s_seq, Lg.s_nx, Lg.s_set, Lg.s_par, Lg.s_rt, Lg.s_rtN, Lg.s_ex, Lg.s_if, Lg.s_asg, Lg.w_sub, Lg.w_gN, Lg.w_callB, Lg.w_lc, Lg.w_lcN, Lg.w_sl, Lg.w_O0, Lg.w_O, Lg.w_revN, Lg.s_par3]
      have t1 : (l.take k).length ≤ l.length := by rw [List.length_take]; omega
      have t2 : (l.drop (k + 2)).length ≤ l.length := by rw [List.length_drop]; omega
      refine ⟨_, rfl, _, rfl, _, rfl, _, row_to, _, rfl, _, rfl, _, rfl, _, row_ix e1, _, rfl, _, rfl, _, rfl, _, (row_ix (i := k + 1) e2 : opIx h (rowD l) (.int ((k : Int) + 1)) = some (.str y)), rfl, _, e.ix er, _, row_add (by omega), _, rfl, _, rfl, _, rfl, _, rfl, _, (row_from (k := k + 2) : opSl h (rowD l) (some ((k : Int) + 2)) none = _), _, row_add (by rw [List.length_append]; omega), q⟩
end L4
set_option Elab.async false
set_option linter.all false
set_option maxRecDepth 100000
set_option maxHeartbeats 2000000
namespace L4
open PySem PySem.Spec PyProof.Rows L2 Lg
abbrev Fn := Lf.Tab Str
theorem spots_M (T : Tab) (l : List Str) : Lf.spots (lookT T) l = spotsL T l := by
  unfold Lf.spots spotsL
  congr 1
  funext i
  unfold Lf.at2 spotAt
  cases l[i]? with
  | none => rfl
  | some x => cases l[i + 1]? <;> rfl
theorem once_M {T : Tab} {l : List Str} {k : Nat} (hk : k ∈ Lf.spots (lookT T) l) : Lf.once (lookT T) l k = onceL T l k := by
  obtain ⟨r, e⟩ := Lf.mem_spots.mp hk
  obtain ⟨x, y, e1, e2, e3⟩ := Lf.at2_some e
  unfold Lf.once onceL
  rw [e, e1, e2]
  dsimp only
  rw [e3]
  simp
def okT (x : Str) : Prop := PyData.strOk x = true
abbrev rowP (r : List Str) : PyData := .tuple (r.map .str)
theorem py_row {h : Hh} {n : Nat} (r : List Str) : py h (n + 2) (rowD r) = some (rowP r) := by
  show ((r.map D.str).mapM (py h (n + 1))).map PyData.tuple = _
  rw [py_map (g := PyData.str) (fun _ => rfl)]
  rfl
theorem fine_row {r : List Str} (h : ∀ x ∈ r, okT x) : Fine 1 (rowP r) := Fine.tup (k := 0) fun d hd => by
  obtain ⟨x, hx, rfl⟩ := List.mem_map.mp hd
  exact Fine.str (h x hx)
theorem fine_rows {rs : List (List Str)} (h : ∀ r ∈ rs, ∀ x ∈ r, okT x) : Fine 2 (.list (rs.map rowP)) := Fine.lst (k := 1) fun d hd => by
  obtain ⟨r, hr, rfl⟩ := List.mem_map.mp hd
  exact fine_row (h r hr)
theorem eqvAll_str : ∀ r s : List Str, PyData.eqvAll (r.map PyData.str) (s.map PyData.str) = decide (r = s)
  | [], [] => by simp [PyData.eqvAll]
  | [], y :: s => by simp [PyData.eqvAll]
  | x :: r, [] => by simp [PyData.eqvAll]
  | x :: r, y :: s => by
    simp only [List.map_cons, PyData.eqvAll, eqvAll_str r s, PyData.eqv]
    by_cases h : x = y
    · subst h
      by_cases h2 : r = s
      · subst h2; simp
      · simp [h2]
    · have : (x == y) = false := beq_eq_false_iff_ne.mpr h
      rw [this]
      simp [h]
theorem eqv_row (r s : List Str) : PyData.eqv (rowP r) (rowP s) = decide (r = s) := by
  unfold rowP
  rw [PyData.eqv, eqvAll_str]
theorem any_row (s : List Str) : ∀ rs : List (List Str), ((rs.map rowP).any fun z => PyData.eqv z (rowP s)) = decide (s ∈ rs)
  | [] => by simp
  | r :: rs => by
    rw [List.map_cons, List.any_cons, any_row s rs, eqv_row]
    by_cases h : r = s
    · subst h; simp
    · have h' : ¬ s = r := fun e => h e.symm
      simp [h, h']
theorem py_rows {h : Hh} {n : Nat} {rs : List (List Str)} (e : h[n]? = some (.lst (rs.map rowD))) : py h 66 (.ref n) = some (.list (rs.map rowP)) := by
  show (match h[n]? with
    | some (.lst l) => (l.mapM (py h 65)).map PyData.list
    | _ => none) = _
  rw [e]
  dsimp only
  rw [py_map (g := rowP) (fun r => py_row (n := 63) r)]
  rfl
theorem ne_rows {h : Hh} {n : Nat} {rs : List (List Str)} (e : h[n]? = some (.lst (rs.map rowD))) (ok : ∀ r ∈ rs, ∀ x ∈ r, okT x) : opNe h (.ref n) (.lst []) = some (.bl (!rs.isEmpty)) := by
  unfold opNe
  rw [eqP_of (py_rows e) (rfl : py h 66 (.lst []) = some (.list [])) ((fine_rows ok).shaped (by decide)) (by decide +kernel)]
  have z : PyData.eqv (.list (rs.map rowP)) (.list []) = rs.isEmpty := by
    cases rs <;> simp [PyData.eqv, PyData.eqvAll]
  simp [z]
theorem eq_ints {h : Hh} {cs : List Int} : opEq h (.lst (cs.map D.int)) (.lst []) = some (.bl cs.isEmpty) := by
  have e1 : py h 66 (.lst (cs.map D.int)) = some (.list (cs.map PyData.int)) := by
    show ((cs.map D.int).mapM (py h 65)).map PyData.list = _
    rw [py_map (g := PyData.int) (fun _ => rfl)]
    rfl
  unfold opEq
  rw [eqP_of e1 (rfl : py h 66 (.lst []) = some (.list [])) ((Lg.fine_ints cs).shaped (by decide)) (by decide +kernel)]
  have z : PyData.eqv (.list (cs.map PyData.int)) (.list []) = cs.isEmpty := by
    cases cs <;> simp [PyData.eqv, PyData.eqvAll]
  simp [z]
theorem ni_rows {h : Hh} {n : Nat} {rs : List (List Str)} {s : List Str} (e : h[n]? = some (.lst (rs.map rowD))) (ok : ∀ r ∈ rs, ∀ x ∈ r, okT x) (os : ∀ x ∈ s, okT x) : opNiS h (rowD s) (.ref n) = some (.bl (!decide (s ∈ rs))) := by
  have e1 : setAt h (.ref n) = none := by simp [setAt, e]
  have e2 : Lg.asD h (.ref n) = none := by simp [Lg.asD, e]
  have e3 : Lg.asS h (.ref n) = some (rs.map rowD) := by simp [Lg.asS, asL, e]
  have e4 : asL h (.ref n) = some (rs.map rowD) := by simp [asL, e]
  unfold opNiS isInS isIn
  rw [e1]
  dsimp only
  rw [e2]
  dsimp only
  rw [e3]
  dsimp only
  rw [e4, py_rows e, show py h 66 (rowD s) = some (rowP s) from py_row (n := 64) s]
  have f1 : flatD (rowD s) = false := rfl
  rw [f1]
  have f2 : SeqAt.shaped (rowP s) = true := (fine_row os).shaped (by decide)
  have f3 : SeqAt.shaped (.list (rs.map rowP)) = true := (fine_rows ok).shaped (by decide)
  simp only [Bool.false_and, Bool.false_eq_true, if_false, f2, f3, Bool.and_self, if_true, any_row]
  rfl
theorem get_a {h : Hh} {a b c : O} : (h ++ [a, b, c])[h.length]? = some a := by simp
theorem get_b {h : Hh} {a b c : O} : (h ++ [a, b, c])[h.length + 1]? = some b := by
  rw [List.getElem?_append_right (by omega)]
  simp
theorem get_c {h : Hh} {a b c : O} : (h ++ [a, b, c])[h.length + 2]? = some c := by
  rw [List.getElem?_append_right (by omega)]
  simp
theorem set_a {h : Hh} {a b c d : O} : (h ++ [a, b, c]).set h.length d = h ++ [d, b, c] := by simp
theorem set_b {h : Hh} {a b c d : O} : (h ++ [a, b, c]).set (h.length + 1) d = h ++ [a, d, c] := by simp
theorem set_c {h : Hh} {a b c d : O} : (h ++ [a, b, c]).set (h.length + 2) d = h ++ [a, b, d] := by simp
end L4
set_option Elab.async false
set_option linter.all false
set_option maxRecDepth 100000
set_option maxHeartbeats 2000000
namespace L4
open PySem PySem.Spec PyProof.Rows L2 Lg
open Lf (Bfs BfsIn EndsOf Small Closed Fds Fd)
/-- what the search has: rows that wait, that are known, nets found -/
abbrev three (h : Hh) (wa kn fo : List (List Str)) : Hh := h ++ [.lst (wa.map rowD), .lst (kn.map rowD), .lst (fo.map rowD)]
theorem ends_ok {h : Hh} {t : Nat} {T : Tab} {r : List Str} {Q : D → Hh → Prop} (e : TabAt h t T) (sm : Small (lookT T)) (cl : Closed (lookT T) okT) (hr : ∀ x ∈ r, okT x) (hB : (r.length + 1) ^ r.length ≤ 10000) (hl : r.length ≤ 400)
    (q : ∀ wa kn fo, EndsOf (lookT T) r fo → Q (.ref (h.length + 2)) (three h wa kn fo)) : Ok (F__law_ends [.ref t, rowD r] h) Q := by
  have lt : t < h.length := (List.getElem?_eq_some_iff.mp e).1
  have te : ∀ {a b c : O}, TabAt (h ++ [a, b, c]) t T := fun {a b c} => by
    show (h ++ [a, b, c])[t]? = _
    rw [List.getElem?_append_left lt]
    exact e
  have okn : ∀ {kn : List (List Str)}, (∀ u ∈ kn, Fds (lookT T) r u) → ∀ u ∈ kn, ∀ x ∈ u, okT x := fun k u hu => (k u hu).over cl hr
  have lnk : ∀ {kn : List (List Str)}, (∀ u ∈ kn, Fds (lookT T) r u) → ∀ u ∈ kn, u.length ≤ 400 := fun k u hu => Nat.le_trans ((k u hu).le sm) hl
  have lnB : ∀ n, n ≤ (r.length + 1) ^ r.length → line n = true := fun n hn => decide_eq_true (by omega)
  unfold F__law_ends f__law_ends
  rw [w_callB]
  refine ⟨rfl, ?_⟩
  show OkS (gSeq _ _ [some (.ref t), some (rowD r), none, none, none, none, none, none, none] h) _
  refine s_det (s1 := [some (.ref t), some (rowD r), some (.ref h.length), some (.ref (h.length + 1)), some (.ref (h.length + 2)), none, none, none, none]) (h1 := three h [r] [r] []) ?_ ?_
  · simp only [Lg.w_ok, Lg.w_V, Lg.w_C, Lg.w_N, Lg.w_Co, Lg.w_op, Lg.w_B, Lg.w_CB, Lg.w_call, Lg.w_tup, Lg.w_lst, Lg.w_lstN, Lg.w_if, Lg.w_not, Lg.w_and, Lg.w_or, Lg.w_tru, Lg.w_pop, Lg.w_app, Lg.s_seq, Lg.s_nx, Lg.s_set, Lg.s_par, Lg.s_rt, Lg.s_rtN, Lg.s_ex, Lg.s_if, Lg.s_asg, Lg.w_sub, Lg.w_gN, Lg.w_callB, Lg.w_lc, Lg.w_lcN, Lg.w_sl, Lg.w_O0, Lg.w_O, Lg.w_revN, Lg.s_par3]
    refine ⟨_, rfl, rfl, _, rfl, rfl, rfl, ?_, ?_⟩
    · simp
    · simp [three]
  refine s_cut (fun s' h' => ∃ (v5 v6 v7 v8 : Option D) (kn fo dn : List (List Str)), s' = [some (.ref t), some (rowD r), some (.ref h.length), some (.ref (h.length + 1)), some (.ref (h.length + 2)), v5, v6, v7, v8] ∧ h' = three h [] kn fo ∧ Bfs (lookT T) r [] kn fo dn) ?_ ?_
  · refine s_while ((r.length + 1) ^ r.length) (by unfold FUEL; omega) (fun m s' h' => ∃ (v5 v6 v7 v8 : Option D) (wa kn fo dn : List (List Str)), s' = [some (.ref t), some (rowD r), some (.ref h.length), some (.ref (h.length + 1)), some (.ref (h.length + 2)), v5, v6, v7, v8] ∧ h' = three h wa kn fo ∧ Bfs (lookT T) r wa kn fo dn ∧ m = (r.length + 1) ^ r.length - dn.length) ⟨none, none, none, none, [r], [r], [], [], rfl, rfl, Bfs.start r, rfl⟩ ?_
    rintro m s' h' hm ⟨v5, v6, v7, v8, wa, kn, fo, dn, rfl, rfl, b, em⟩
    have wak : ∀ u ∈ wa, u ∈ kn := fun u hu => b.perm.mem_iff.mpr (List.mem_append_left _ hu)
    have okw : ∀ u ∈ wa, ∀ x ∈ u, okT x := fun u hu => okn b.to u (wak u hu)
    rw [w_B, w_op, w_V]
    refine ⟨_, rfl, ?_⟩
    rw [w_lst, w_N]
    refine ⟨rfl, _, ne_rows get_a okw, _, rfl, ?_⟩
    by_cases hw : wa = []
    · subst hw
      rw [if_neg (by simp)]
      exact ⟨v5, v6, v7, v8, kn, fo, dn, rfl, rfl, b⟩
    · rw [if_pos (by cases wa with | nil => exact absurd rfl hw | cons _ _ => rfl)]
      obtain ⟨wa', u, rfl⟩ : ∃ wa' u, wa = wa' ++ [u] := ⟨wa.dropLast, wa.getLast hw, (List.dropLast_concat_getLast hw).symm⟩
      have hkn : u ∈ kn := wak u (by simp)
      have hle : u.length ≤ r.length := (b.to u hkn).le sm
      -- here = waiting.pop()
      refine s_det (s1 := [some (.ref t), some (rowD r), some (.ref h.length), some (.ref (h.length + 1)), some (.ref (h.length + 2)), some (rowD u), v6, v7, v8]) (h1 := three h wa' kn fo) ?_ ?_
      · simp only [Lg.w_ok, Lg.w_V, Lg.w_C, Lg.w_N, Lg.w_Co, Lg.w_op, Lg.w_B, Lg.w_CB, Lg.w_call, Lg.w_tup, Lg.w_lst, Lg.w_lstN, Lg.w_if, Lg.w_not, Lg.w_and, Lg.w_or, Lg.w_tru, Lg.w_pop, Lg.w_app, Lg.s_seq, Lg.s_nx, Lg.s_set, Lg.s_par, Lg.s_rt, Lg.s_rtN, Lg.s_ex, Lg.s_if, Lg.s_asg, Lg.w_sub, Lg.w_gN, Lg.w_callB, Lg.w_lc, Lg.w_lcN, Lg.w_sl, Lg.w_O0, Lg.w_O, Lg.w_revN, Lg.s_par3]
        refine ⟨_, rfl, _, (wa' ++ [u]).map rowD, rowD u, rfl, get_a, by simp, rfl, ?_⟩
        rw [set_a]
        simp
      -- spots_here = spots(table, here)
      refine s_det (s1 := [some (.ref t), some (rowD r), some (.ref h.length), some (.ref (h.length + 1)), some (.ref (h.length + 2)), some (rowD u), some (.lst ((spotsL T u).map fun i => D.int (i : Nat))), v7, v8]) (h1 := three h wa' kn fo) ?_ ?_
      · simp only [Lg.w_ok, Lg.w_V, Lg.w_C, Lg.w_N, Lg.w_Co, Lg.w_op, Lg.w_B, Lg.w_CB, Lg.w_call, Lg.w_tup, Lg.w_lst, Lg.w_lstN, Lg.w_if, Lg.w_not, Lg.w_and, Lg.w_or, Lg.w_tru, Lg.w_pop, Lg.w_app, Lg.s_seq, Lg.s_nx, Lg.s_set, Lg.s_par, Lg.s_rt, Lg.s_rtN, Lg.s_ex, Lg.s_if, Lg.s_asg, Lg.w_sub, Lg.w_gN, Lg.w_callB, Lg.w_lc, Lg.w_lcN, Lg.w_sl, Lg.w_O0, Lg.w_O, Lg.w_revN, Lg.s_par3]
        exact ⟨_, rfl, _, rfl, spots_ok te (by omega) ⟨rfl, rfl⟩⟩
      have bt := b.take sm
      rw [spots_M] at bt
      refine s_det (s1 := [some (.ref t), some (rowD r), some (.ref h.length), some (.ref (h.length + 1)), some (.ref (h.length + 2)), some (rowD u), some (.lst ((spotsL T u).map fun i => D.int (i : Nat))), v7, v8]) (h1 := three h wa' kn (if spotsL T u = [] then fo ++ [u] else fo)) ?_ ?_
      · simp only [Lg.w_ok, Lg.w_V, Lg.w_C, Lg.w_N, Lg.w_Co, Lg.w_op, Lg.w_B, Lg.w_CB, Lg.w_call, Lg.w_tup, Lg.w_lst, Lg.w_lstN, Lg.w_if, Lg.w_not, Lg.w_and, Lg.w_or, Lg.w_tru, Lg.w_pop, Lg.w_app, Lg.s_seq, Lg.s_nx, Lg.s_set, Lg.s_par, Lg.s_rt, Lg.s_rtN, Lg.s_ex, Lg.s_if, Lg.s_asg, Lg.w_sub, Lg.w_gN, Lg.w_callB, Lg.w_lc, Lg.w_lcN, Lg.w_sl, Lg.w_O0, Lg.w_O, Lg.w_revN, Lg.s_par3]
        have ei : (spotsL T u).map (fun i => D.int (i : Nat)) = ((spotsL T u).map fun i => ((i : Nat) : Int)).map D.int := by rw [List.map_map]; rfl
        refine ⟨_, rfl, rfl, .bl ((spotsL T u).map fun i => ((i : Nat) : Int)).isEmpty, ?_, _, rfl, ?_⟩
        · rw [ei]
          exact eq_ints
        by_cases c : spotsL T u = []
        · rw [if_pos (by rw [c]; rfl), if_pos c]
          refine ⟨_, rfl, _, _, rfl, get_c, _, rfl, _, get_c, lnB _ (by rw [List.length_map]; exact b.len.2.2), trivial, ?_⟩
          rw [set_c]
          simp
        · rw [if_neg (by cases q2 : spotsL T u with | nil => exact absurd q2 c | cons _ _ => simp), if_neg c]
          exact ⟨trivial, rfl⟩
      generalize (if spotsL T u = [] then fo ++ [u] else fo) = fo' at bt ⊢
      refine s_forL (l := (spotsL T u).map fun i => D.int (i : Nat)) (fun i s' h' => ∃ (w7 w8 : Option Lg.D) (wb kb : List (List Str)), s' = [some (.ref t), some (rowD r), some (.ref h.length), some (.ref (h.length + 1)), some (.ref (h.length + 2)), some (rowD u), some (.lst ((spotsL T u).map fun i => D.int (i : Nat))), w7, w8] ∧ h' = three h wb kb fo' ∧ BfsIn (lookT T) r u ((spotsL T u).drop i) wb kb fo' dn) ?_ ?_ ?_
      · simp only [Lg.w_ok, Lg.w_V, Lg.w_C, Lg.w_N, Lg.w_Co, Lg.w_op, Lg.w_B, Lg.w_CB, Lg.w_call, Lg.w_tup, Lg.w_lst, Lg.w_lstN, Lg.w_if, Lg.w_not, Lg.w_and, Lg.w_or, Lg.w_tru, Lg.w_pop, Lg.w_app, Lg.s_seq, Lg.s_nx, Lg.s_set, Lg.s_par, Lg.s_rt, Lg.s_rtN, Lg.s_ex, Lg.s_if, Lg.s_asg, Lg.w_sub, Lg.w_gN, Lg.w_callB, Lg.w_lc, Lg.w_lcN, Lg.w_sl, Lg.w_O0, Lg.w_O, Lg.w_revN, Lg.s_par3]
        exact ⟨_, rfl, .inr (.inl rfl), _, _, wa', kn, rfl, rfl, bt⟩
      · rintro i d s' h' hi ⟨w7, w8, wb, kb, rfl, rfl, bi⟩
        have hi' : i < (spotsL T u).length := by simpa using (List.getElem?_eq_some_iff.mp hi).1
        have hd : d = .int (((spotsL T u)[i] : Nat) : Int) := by
          rw [List.getElem?_map, List.getElem?_eq_getElem hi'] at hi
          exact (Option.some.inj hi).symm
        subst hd
        rw [List.drop_eq_getElem_cons hi'] at bi
        generalize hk : (spotsL T u)[i] = k at bi ⊢
        have hks : k ∈ Lf.spots (lookT T) u := by rw [spots_M, ← hk]; exact List.getElem_mem hi'
        have hsp : spotAt T u k = true := by
          rw [spots_M] at hks
          exact (List.mem_filter.mp hks).2
        have eo := once_M hks
        rw [w_gN]
        show OkS (gSeq _ _ [some (.ref t), some (rowD r), some (.ref h.length), some (.ref (h.length + 1)), some (.ref (h.length + 2)), some (rowD u), some (.lst ((spotsL T u).map fun i => D.int (i : Nat))), some (.int k), w8] (three h wb kb fo')) _
        refine s_det (s1 := [some (.ref t), some (rowD r), some (.ref h.length), some (.ref (h.length + 1)), some (.ref (h.length + 2)), some (rowD u), some (.lst ((spotsL T u).map fun i => D.int (i : Nat))), some (.int k), some (rowD (onceL T u k))]) (h1 := three h wb kb fo') ?_ ?_
        · simp only [Lg.w_ok, Lg.w_V, Lg.w_C, Lg.w_N, Lg.w_Co, Lg.w_op, Lg.w_B, Lg.w_CB, Lg.w_call, Lg.w_tup, Lg.w_lst, Lg.w_lstN, Lg.w_if, Lg.w_not, Lg.w_and, Lg.w_or, Lg.w_tru, Lg.w_pop, Lg.w_app, Lg.s_seq, Lg.s_nx, Lg.s_set, Lg.s_par, Lg.s_rt, Lg.s_rtN, Lg.s_ex, Lg.s_if, Lg.s_asg, Lg.w_sub, Lg.w_gN, Lg.w_callB, Lg.w_lc, Lg.w_lcN, Lg.w_sl, Lg.w_O0, Lg.w_O, Lg.w_revN, Lg.s_par3]
          exact ⟨_, rfl, _, rfl, _, rfl, once_ok te (by omega) hsp sm ⟨rfl, rfl⟩⟩
        have okm : ∀ x ∈ onceL T u k, okT x := by
          rw [← eo]
          exact ((b.to u hkn).trans (.one (Lf.once_fd hks))).over cl hr
        have bl := bi.len
        simp only [Lg.w_ok, Lg.w_V, Lg.w_C, Lg.w_N, Lg.w_Co, Lg.w_op, Lg.w_B, Lg.w_CB, Lg.w_call, Lg.w_tup, Lg.w_lst, Lg.w_lstN, Lg.w_if, Lg.w_not, Lg.w_and, Lg.w_or, Lg.w_tru, Lg.w_pop, Lg.w_app, Lg.s_seq, Lg.s_nx, Lg.s_set, Lg.s_par, Lg.s_rt, Lg.s_rtN, Lg.s_ex, Lg.s_if, Lg.s_asg, Lg.w_sub, Lg.w_gN, Lg.w_callB, Lg.w_lc, Lg.w_lcN, Lg.w_sl, Lg.w_O0, Lg.w_O, Lg.w_revN, Lg.s_par3]
        refine ⟨_, rfl, _, rfl, _, ni_rows get_b (okn bi.to) okm, _, rfl, ?_⟩
        by_cases c : onceL T u k ∈ kb
        · rw [if_neg (by simp [c])]
          exact ⟨_, _, wb, kb, rfl, rfl, bi.old (by rw [eo]; exact c)⟩
        · rw [if_pos (by simp [c])]
          refine ⟨_, rfl, _, _, rfl, get_b, _, rfl, _, get_b, lnB _ (by rw [List.length_map]; exact bl.1), ?_⟩
          rw [set_b]
          refine ⟨_, rfl, _, _, rfl, get_a, _, rfl, _, get_a, lnB _ (by rw [List.length_map]; exact bl.2), ?_⟩
          rw [set_a]
          refine ⟨_, _, wb ++ [onceL T u k], kb ++ [onceL T u k], rfl, by simp [three], ?_⟩
          rw [← eo]
          exact bi.new sm (by rw [eo]; exact c)
      · rintro s' h' ⟨w7, w8, wb, kb, rfl, rfl, bi⟩
        rw [List.length_map, List.drop_length] at bi
        have bo := bi.out
        refine ⟨(r.length + 1) ^ r.length - (u :: dn).length, ?_, _, _, _, _, wb, kb, fo', u :: dn, rfl, rfl, bo, rfl⟩
        rw [em]
        exact Bfs.lower sm b bo
  · rintro s' h' ⟨v5, v6, v7, v8, kn, fo, dn, rfl, rfl, b⟩
    simp only [Lg.w_ok, Lg.w_V, Lg.w_C, Lg.w_N, Lg.w_Co, Lg.w_op, Lg.w_B, Lg.w_CB, Lg.w_call, Lg.w_tup, Lg.w_lst, Lg.w_lstN, Lg.w_if, Lg.w_not, Lg.w_and, Lg.w_or, Lg.w_tru, Lg.w_pop, Lg.w_app, Lg.s_seq, Lg.s_nx, Lg.s_set, Lg.s_par, Lg.s_rt, Lg.s_rtN, Lg.s_ex, Lg.s_if, Lg.s_asg, Lg.w_sub, Lg.w_gN, Lg.w_callB, Lg.w_lc, Lg.w_lcN, Lg.w_sl, Lg.w_O0, Lg.w_O, Lg.w_revN, Lg.s_par3]
    exact ⟨_, rfl, q _ _ _ b.done⟩
end L4
set_option Elab.async false
set_option linter.all false
set_option maxRecDepth 100000
set_option maxHeartbeats 2000000
namespace L4
open PySem PySem.Spec PyProof.Rows L2 Lg
open Lf (EndsOf Small Closed clashL isClash isClash_iff clash_iff fs_hit fs_step fs_all)
/-- what stood stands -/
structure Kp (h h' : Hh) : Prop where
  len : h.length ≤ h'.length
  st : ∀ i, i < h.length → h'[i]? = h[i]?
theorem Kp.refl {h : Hh} : Kp h h := ⟨Nat.le_refl _, fun _ _ => rfl⟩
theorem Kp.trans {h h1 h2 : Hh} (a : Kp h h1) (b : Kp h1 h2) : Kp h h2 := ⟨Nat.le_trans a.len b.len, fun i hi => (b.st i (Nat.lt_of_lt_of_le hi a.len)).trans (a.st i hi)⟩
theorem Kp.three {h : Hh} {wa kn fo : List (List Str)} : Kp h (three h wa kn fo) := ⟨by simp [L4.three], fun i hi => List.getElem?_append_left hi⟩
theorem Kp.at_ {h h' : Hh} {i : Nat} {o : O} (k : Kp h h') (e : h[i]? = some o) : h'[i]? = some o := (k.st i (List.getElem?_eq_some_iff.mp e).1).trans e
theorem Kp.off {n m : Nat} {h h' : Hh} (k : Kp h h') : Off n m h h' := ⟨k.len, fun i _ _ hi => k.st i hi⟩
theorem Kp.deck {n m : Nat} {c : Int} {h h' : Hh} (k : Kp h h') (d : Deck n m c h) : Deck n m c h' := by
  obtain ⟨ne, a, cs, e1, e2, r⟩ := d
  exact ⟨ne, a, cs, k.at_ e1, k.at_ e2, r⟩
theorem Kp.tab {t : Nat} {T : Tab} {h h' : Hh} (k : Kp h h') (e : TabAt h t T) : TabAt h' t T := k.at_ e
/-- what a search for a clash hands back -/
def clashD : Option (List Str) → D
  | none => .non
  | some r => rowD r
theorem clash_ok {h : Hh} {t : Nat} {T : Tab} {ns : List Str} {Q : D → Hh → Prop} (e : TabAt h t T) (sm : Small (lookT T)) (cl : Closed (lookT T) okT) (ok : ∀ x ∈ ns, okT x)
    (q : ∀ h', Kp h h' → Q (clashD (clashL ns (lookT T))) h') : Ok (F__law_clash [rowD ns, .ref t] h) Q := by
  let g3 : Str → Str → Str → Option (List Str) := fun x y z => if isClash (lookT T) x y z = true then some [x, y, z] else none
  let g2 : Str → Str → Option (List Str) := fun x y => ns.findSome? (g3 x y)
  let g1 : Str → Option (List Str) := fun x => ns.findSome? (g2 x)
  have hcl : clashL ns (lookT T) = ns.findSome? g1 := rfl
  have item : ∀ {i : Nat} {d : D}, (ns.map D.str)[i]? = some d → ∃ z, ns[i]? = some z ∧ d = .str z := fun {i d} hx => by
    rw [List.getElem?_map] at hx
    cases e : ns[i]? with
    | none => rw [e] at hx; cases hx
    | some u => rw [e] at hx; exact ⟨u, rfl, (Option.some.inj hx).symm⟩
  unfold F__law_clash f__law_clash
  rw [w_callB]
  refine ⟨rfl, ?_⟩
  show OkS (gSeq _ _ [some (rowD ns), some (.ref t), none, none, none] h) _
  refine s_cut (fun s' h' => Kp h h' ∧ ns.findSome? g1 = none) ?_ ?_
  · refine s_forL (l := ns.map D.str) (fun i s' h' => ∃ v2 v3 v4, s' = [some (rowD ns), some (.ref t), v2, v3, v4] ∧ Kp h h' ∧ (ns.take i).findSome? g1 = none) ?_ ?_ ?_
    · simp only [Lg.w_ok, Lg.w_V, Lg.w_C, Lg.w_N, Lg.w_Co, Lg.w_op, Lg.w_B, Lg.w_CB, Lg.w_call, Lg.w_tup, Lg.w_lst, Lg.w_lstN, Lg.w_if, Lg.w_not, Lg.w_and, Lg.w_or, Lg.w_tru, Lg.w_pop, Lg.w_app, Lg.s_seq, Lg.s_nx, Lg.s_set, Lg.s_par, Lg.s_rt, Lg.s_rtN, Lg.s_ex, Lg.s_if, Lg.s_asg, Lg.w_sub, Lg.w_gN, Lg.w_callB, Lg.w_lc, Lg.w_lcN, Lg.w_sl, Lg.w_O0, Lg.w_O, Lg.w_revN, Lg.s_par3]
      exact ⟨_, rfl, .inl rfl, none, none, none, rfl, Kp.refl, rfl⟩
    · rintro i d s1 h1 hi ⟨v2, v3, v4, rfl, k1, n1⟩
      obtain ⟨x, hx, rfl⟩ := item hi
      rw [w_gN]
      show OkS (gFor _ _ _ [some (rowD ns), some (.ref t), some (.str x), v3, v4] h1) _
      refine s_forL (l := ns.map D.str) (fun j s' h' => ∃ v3 v4, s' = [some (rowD ns), some (.ref t), some (.str x), v3, v4] ∧ Kp h h' ∧ (ns.take j).findSome? (g2 x) = none) ?_ ?_ ?_
      · simp only [Lg.w_ok, Lg.w_V, Lg.w_C, Lg.w_N, Lg.w_Co, Lg.w_op, Lg.w_B, Lg.w_CB, Lg.w_call, Lg.w_tup, Lg.w_lst, Lg.w_lstN, Lg.w_if, Lg.w_not, Lg.w_and, Lg.w_or, Lg.w_tru, Lg.w_pop, Lg.w_app, Lg.s_seq, Lg.s_nx, Lg.s_set, Lg.s_par, Lg.s_rt, Lg.s_rtN, Lg.s_ex, Lg.s_if, Lg.s_asg, Lg.w_sub, Lg.w_gN, Lg.w_callB, Lg.w_lc, Lg.w_lcN, Lg.w_sl, Lg.w_O0, Lg.w_O, Lg.w_revN, Lg.s_par3]
        exact ⟨_, rfl, .inl rfl, v3, v4, rfl, k1, rfl⟩
      · rintro j d s2 h2 hj ⟨v3, v4, rfl, k2, n2⟩
        obtain ⟨y, hy, rfl⟩ := item hj
        rw [w_gN]
        show OkS (gFor _ _ _ [some (rowD ns), some (.ref t), some (.str x), some (.str y), v4] h2) _
        refine s_forL (l := ns.map D.str) (fun k s' h' => ∃ v4, s' = [some (rowD ns), some (.ref t), some (.str x), some (.str y), v4] ∧ Kp h h' ∧ (ns.take k).findSome? (g3 x y) = none) ?_ ?_ ?_
        · simp only [Lg.w_ok, Lg.w_V, Lg.w_C, Lg.w_N, Lg.w_Co, Lg.w_op, Lg.w_B, Lg.w_CB, Lg.w_call, Lg.w_tup, Lg.w_lst, Lg.w_lstN, Lg.w_if, Lg.w_not, Lg.w_and, Lg.w_or, Lg.w_tru, Lg.w_pop, Lg.w_app, Lg.s_seq, Lg.s_nx, Lg.s_set, Lg.s_par, Lg.s_rt, Lg.s_rtN, Lg.s_ex, Lg.s_if, Lg.s_asg, Lg.w_sub, Lg.w_gN, Lg.w_callB, Lg.w_lc, Lg.w_lcN, Lg.w_sl, Lg.w_O0, Lg.w_O, Lg.w_revN, Lg.s_par3]
          exact ⟨_, rfl, .inl rfl, v4, rfl, k2, rfl⟩
        · rintro k d s3 h3 hk ⟨v4, rfl, k3, n3⟩
          obtain ⟨z, hz, rfl⟩ := item hk
          rw [w_gN]
          show OkS (gIf _ _ _ [some (rowD ns), some (.ref t), some (.str x), some (.str y), some (.str z)] h3) _
          have o3 : ∀ u ∈ [x, y, z], okT u := by
            intro u hu
            simp at hu
            rcases hu with rfl | rfl | rfl
            · exact ok _ (List.mem_of_getElem? hx)
            · exact ok _ (List.mem_of_getElem? hy)
            · exact ok _ (List.mem_of_getElem? hz)
          simp only [Lg.w_ok, Lg.w_V, Lg.w_C, Lg.w_N, Lg.w_Co, Lg.w_op, Lg.w_B, Lg.w_CB, Lg.w_call, Lg.w_tup, Lg.w_lst, Lg.w_lstN, Lg.w_if, Lg.w_not, Lg.w_and, Lg.w_or, Lg.w_tru, Lg.w_pop, Lg.w_app, Lg.s_seq, Lg.s_nx, Lg.s_set, Lg.s_par, Lg.s_rt, Lg.s_rtN, Lg.s_ex, Lg.s_if, Lg.s_asg, Lg.w_sub, Lg.w_gN, Lg.w_callB, Lg.w_lc, Lg.w_lcN, Lg.w_sl, Lg.w_O0, Lg.w_O, Lg.w_revN, Lg.s_par3]
          refine ⟨_, rfl, _, rfl, _, rfl, _, rfl, rfl, ?_⟩
          refine ends_ok (r := [x, y, z]) (k3.tab e) sm cl o3 (by show 4 ^ 3 ≤ 10000; decide) (by show 3 ≤ 400; decide) fun wa kn fo en => ?_
          have kk : Kp h (three h3 wa kn fo) := k3.trans Kp.three
          have hlen : (1 < fo.length) ↔ isClash (lookT T) x y z = true := by
            rw [isClash_iff, clash_iff sm, ← en.two]
          refine ⟨.int fo.length, three h3 wa kn fo, ?_, .bl (decide ((1 : Int) < fo.length)), rfl, _, rfl, ?_⟩
          · have : Lg.asS (three h3 wa kn fo) (.ref (h3.length + 2)) = some (fo.map rowD) := by simp [Lg.asS, asL, get_c]
            simp [bLen, this]
          by_cases c : isClash (lookT T) x y z = true
          · rw [if_pos (decide_eq_true (by have := hlen.mpr c; omega))]
            refine ⟨_, rfl, _, rfl, _, rfl, rfl, ?_⟩
            have := q _ kk
            rw [hcl, fs_hit n1 hx (fs_hit n2 hy (fs_hit n3 hz (if_pos c)))] at this
            exact this
          · rw [if_neg (by intro w; exact c (hlen.mp (by have := of_decide_eq_true w; omega)))]
            exact ⟨_, rfl, kk, fs_step n3 hz (if_neg c)⟩
        · rintro s3 h3 ⟨v4, rfl, k3, n3⟩
          rw [List.length_map] at n3
          exact ⟨_, _, rfl, k3, fs_step n2 hy (fs_all n3)⟩
      · rintro s2 h2 ⟨v3, v4, rfl, k2, n2⟩
        rw [List.length_map] at n2
        exact ⟨_, _, _, rfl, k2, fs_step n1 hx (fs_all n2)⟩
    · rintro s1 h1 ⟨v2, v3, v4, rfl, k1, n1⟩
      rw [List.length_map] at n1
      exact ⟨k1, fs_all n1⟩
  · rintro s' h' ⟨k, n⟩
    simp only [Lg.w_ok, Lg.w_V, Lg.w_C, Lg.w_N, Lg.w_Co, Lg.w_op, Lg.w_B, Lg.w_CB, Lg.w_call, Lg.w_tup, Lg.w_lst, Lg.w_lstN, Lg.w_if, Lg.w_not, Lg.w_and, Lg.w_or, Lg.w_tru, Lg.w_pop, Lg.w_app, Lg.s_seq, Lg.s_nx, Lg.s_set, Lg.s_par, Lg.s_rt, Lg.s_rtN, Lg.s_ex, Lg.s_if, Lg.s_asg, Lg.w_sub, Lg.w_gN, Lg.w_callB, Lg.w_lc, Lg.w_lcN, Lg.w_sl, Lg.w_O0, Lg.w_O, Lg.w_revN, Lg.s_par3]
    have := q h' k
    rw [hcl, n] at this
    exact this
end L4
set_option Elab.async false
set_option linter.all false
set_option maxRecDepth 100000
set_option maxHeartbeats 2000000
namespace L4
open PySem PySem.Spec PyProof.Rows L2 Lg
open Lf (EndsOf Small Closed clashL isClash)
/-! ### a rule is put into a table, or taken out -/
def putT (T : Tab) (x y : Str) (r : List Str) : Tab := if T.any (fun e => decide (e.1 = (x, y))) then T.map (fun e => if e.1 = (x, y) then (e.1, r) else e) else T ++ [((x, y), r)]
theorem put_enc {T : Tab} {x y : Str} {r : List Str} : Lg.put (encT T) (.tup [.str x, .str y]) (rowD r) = encT (putT T x y r) := by
  unfold Lg.put putT
  have e1 : (encT T).any (fun p => kEq p.1 (.tup [.str x, .str y])) = T.any (fun e => decide (e.1 = (x, y))) := by
    unfold encT
    rw [List.any_map]
    congr 1
    funext e
    exact kEq_pair
  rw [e1]
  cases T.any (fun e => decide (e.1 = (x, y))) with
  | true =>
    rw [if_pos rfl, if_pos rfl]
    unfold encT
    rw [List.map_map, List.map_map]
    refine List.map_congr_left fun e _ => ?_
    show (if kEq (.tup [.str e.1.1, .str e.1.2]) (.tup [.str x, .str y]) = true then _ else _) = _
    rw [kEq_pair]
    by_cases c : (e.1.1, e.1.2) = (x, y)
    · rw [decide_eq_true c, if_pos rfl]
      show _ = (fun e : (Str × Str) × List Str => (D.tup [.str e.1.1, .str e.1.2], rowD e.2)) (if e.1 = (x, y) then (e.1, r) else e)
      rw [if_pos (show e.1 = (x, y) from c)]
    · rw [decide_eq_false c, if_neg Bool.false_ne_true]
      show _ = (fun e : (Str × Str) × List Str => (D.tup [.str e.1.1, .str e.1.2], rowD e.2)) (if e.1 = (x, y) then (e.1, r) else e)
      rw [if_neg (show ¬ e.1 = (x, y) from c)]
  | false =>
    rw [if_neg Bool.false_ne_true, if_neg Bool.false_ne_true]
    unfold encT
    rw [List.map_append]
    rfl
theorem look_map {x y a b : Str} {r : List Str} : ∀ T : Tab, lookT (T.map fun e => if e.1 = (x, y) then (e.1, r) else e) a b = if (x, y) = (a, b) ∧ (T.any fun e => decide (e.1 = (x, y))) = true then some r else lookT T a b
  | [] => by simp [lookT]
  | e :: T => by
    rw [List.map_cons]
    unfold lookT
    rw [look_map T, List.any_cons]
    by_cases c : e.1 = (x, y)
    · rw [if_pos c]
      by_cases d : (x, y) = (a, b)
      · rw [if_pos (show (e.1, r).1 = (a, b) from c.trans d), if_pos ⟨d, by simp [c]⟩]
      · rw [if_neg (show ¬ (e.1, r).1 = (a, b) from fun z => d (c.symm.trans z)), if_neg (fun z => d z.1), if_neg (fun z => d z.1), if_neg (fun z => d (c.symm.trans z))]
    · rw [if_neg c, decide_eq_false c, Bool.false_or]
      by_cases d : e.1 = (a, b)
      · rw [if_pos d, if_pos d, if_neg (fun z => c (d.trans z.1.symm))]
      · rw [if_neg d, if_neg d]
theorem look_app {x y a b : Str} {r : List Str} : ∀ T : Tab, lookT (T ++ [((x, y), r)]) a b = match lookT T a b with | some s => some s | none => if (x, y) = (a, b) then some r else none
  | [] => rfl
  | e :: T => by
    rw [List.cons_append]
    unfold lookT
    by_cases d : e.1 = (a, b)
    · rw [if_pos d, if_pos d]
    · rw [if_neg d, if_neg d]
      exact look_app T
theorem look_any {x y : Str} : ∀ T : Tab, (T.any fun e => decide (e.1 = (x, y))) = (lookT T x y).isSome
  | [] => rfl
  | e :: T => by
    rw [List.any_cons, look_any T]
    show _ = (if e.1 = (x, y) then some e.2 else lookT T x y).isSome
    by_cases c : e.1 = (x, y)
    · simp [c]
    · simp [c]
theorem look_put {T : Tab} {x y a b : Str} {r : List Str} : lookT (putT T x y r) a b = if (x, y) = (a, b) then some r else lookT T a b := by
  unfold putT
  cases c : T.any fun e => decide (e.1 = (x, y)) with
  | true =>
    rw [if_pos rfl, look_map, c]
    simp
  | false =>
    rw [if_neg Bool.false_ne_true, look_app]
    rw [look_any] at c
    by_cases d : (x, y) = (a, b)
    · cases d
      have : lookT T x y = none := by simpa using c
      rw [this]
    · rw [if_neg d]
      cases lookT T a b <;> simp [d]
theorem put_len {T : Tab} {x y : Str} {r : List Str} : (putT T x y r).length ≤ T.length + 1 := by
  unfold putT
  split <;> simp
structure TabOk (ns : List Str) (T : Tab) : Prop where
  ok : ∀ x y r, lookT T x y = some r → x ∈ ns ∧ y ∈ ns ∧ r.length ≤ 1 ∧ ∀ z ∈ r, z ∈ ns
theorem TabOk.put {ns : List Str} {T : Tab} {x y : Str} {r : List Str} (k : TabOk ns T) (hx : x ∈ ns) (hy : y ∈ ns) (hr : r.length ≤ 1) (hz : ∀ z ∈ r, z ∈ ns) : TabOk ns (putT T x y r) := ⟨fun a b s e => by
  rw [look_put] at e
  by_cases d : (x, y) = (a, b)
  · rw [if_pos d] at e
    cases e
    cases d
    exact ⟨hx, hy, hr, hz⟩
  · rw [if_neg d] at e
    exact k.ok a b s e⟩
theorem TabOk.small {ns : List Str} {T : Tab} (k : TabOk ns T) : Small (lookT T) := fun x y r e => (k.ok x y r e).2.2.1
theorem TabOk.closed {ns : List Str} {T : Tab} (k : TabOk ns T) (ok : ∀ x ∈ ns, okT x) : Closed (lookT T) okT := fun x y r e z hz => ok z ((k.ok x y r e).2.2.2 z hz)
theorem tab_set {h : Hh} {t : Nat} {T : Tab} {x y : Str} {r : List Str} (e : TabAt h t T) (hl : T.length ≤ 1000) : opSet h (.ref t) (.tup [.str x, .str y]) (rowD r) = some (h.set t (.dic true (encT (putT T x y r)))) := by
  unfold opSet
  dsimp only
  rw [show h[t]? = some (.dic true (encT T)) from e]
  dsimp only
  have l : line (encT T).length = true := decide_eq_true (by unfold encT; rw [List.length_map]; omega)
  rw [show keyOk true (.tup [.str x, .str y]) = true from rfl, l, put_enc]
  rfl
theorem off_new {n m : Nat} {h h' h2 : Hh} (o : Off n m h h') (t : Nat) (ht : h.length ≤ t) (x : O) : Off n m h (h'.set t x) := ⟨by simpa using o.len, fun i a b c => by
  rw [List.getElem?_set_ne (by omega)]
  exact o.st i a b c⟩
theorem deck_new {n m t : Nat} {k : Int} {h : Hh} {x : O} (d : Deck n m k h) (a : t ≠ n) (b : t ≠ m) : Deck n m k (h.set t x) := by
  obtain ⟨ne, c, cs, e1, e2, r⟩ := d
  exact ⟨ne, c, cs, by rw [List.getElem?_set_ne a]; exact e1, by rw [List.getElem?_set_ne b]; exact e2, r⟩
theorem table_ok {n m : Nat} {k part : Int} {h : Hh} {ns : List Str} {Q : D → Hh → Prop} (dk : Deck n m k h) (hk : k + 1000 ≤ 1000000) (hn : ns.length ≤ 13) (n0 : 0 < ns.length) (y0 : 0 < part) (y1 : part < 1000000)
    (q : ∀ t T h' k', h.length ≤ t → Off n m h h' → Deck n m k' h' → k' ≤ k + 600 → TabAt h' t T → TabOk ns T → T.length ≤ 200 → Q (.ref t) h') : Ok (F__law_table [.ref n, rowD ns, .int part] h) Q := by
  have ln : n < h.length := by
    obtain ⟨_, a, cs, e1, _⟩ := dk
    exact (List.getElem?_eq_some_iff.mp e1).1
  have lm : m < h.length := by
    obtain ⟨_, a, cs, _, e1, _⟩ := dk
    exact (List.getElem?_eq_some_iff.mp e1).1
  have item : ∀ {i : Nat} {d : D}, (ns.map D.str)[i]? = some d → ∃ z, ns[i]? = some z ∧ d = .str z ∧ z ∈ ns := fun {i d} hx => by
    rw [List.getElem?_map] at hx
    cases e : ns[i]? with
    | none => rw [e] at hx; cases hx
    | some u => rw [e] at hx; exact ⟨u, rfl, (Option.some.inj hx).symm, List.mem_of_getElem? e⟩
  unfold F__law_table f__law_table
  rw [w_callB]
  refine ⟨rfl, ?_⟩
  show OkS (gSeq _ _ [some (.ref n), some (rowD ns), some (.int part), none, none, none] h) _
  refine s_det (s1 := [some (.ref n), some (rowD ns), some (.int part), some (.ref h.length), none, none]) (h1 := h ++ [.dic true (encT [])]) ?_ ?_
  · rw [s_set]
    have e : fDicN true [some (D.ref n), some (rowD ns), some (.int part), none, none, none] h = .ok (.ref h.length) (h ++ [.dic true []]) := rfl
    rw [e]
    simp only [Lg.w_ok, Lg.w_V, Lg.w_C, Lg.w_N, Lg.w_Co, Lg.w_op, Lg.w_B, Lg.w_CB, Lg.w_call, Lg.w_tup, Lg.w_lst, Lg.w_lstN, Lg.w_if, Lg.w_not, Lg.w_and, Lg.w_or, Lg.w_tru, Lg.w_pop, Lg.w_app, Lg.s_seq, Lg.s_nx, Lg.s_set, Lg.s_par, Lg.s_rt, Lg.s_rtN, Lg.s_ex, Lg.s_if, Lg.s_asg, Lg.w_sub, Lg.w_gN, Lg.w_callB, Lg.w_lc, Lg.w_lcN, Lg.w_sl, Lg.w_O0, Lg.w_O, Lg.w_revN, Lg.s_par3]
    exact ⟨rfl, rfl⟩
  have inv0 : Off n m h (h ++ [.dic true (encT [])]) ∧ Deck n m k (h ++ [.dic true (encT [])]) ∧ TabAt (h ++ [.dic true (encT [])]) h.length [] := by
    refine ⟨⟨by simp, fun i _ _ hi => List.getElem?_append_left hi⟩, ?_, by show (h ++ [O.dic true (encT [])])[h.length]? = _; simp⟩
    obtain ⟨ne, a, cs, e1, e2, r⟩ := dk
    exact ⟨ne, a, cs, by rw [List.getElem?_append_left ln]; exact e1, by rw [List.getElem?_append_left lm]; exact e2, r⟩
  let Iv : Nat → Hh → Prop := fun c h' => ∃ (k' : Int) (T : Tab), Off n m h h' ∧ Deck n m k' h' ∧ k' ≤ k + 3 * c ∧ TabAt h' h.length T ∧ TabOk ns T ∧ T.length ≤ c
  refine s_cut (fun s' h' => ∃ v4 v5, s' = [some (.ref n), some (rowD ns), some (.int part), some (.ref h.length), v4, v5] ∧ Iv (ns.length * ns.length) h') ?_ ?_
  · refine s_forL (l := ns.map D.str) (fun i s' h' => ∃ v4 v5, s' = [some (.ref n), some (rowD ns), some (.int part), some (.ref h.length), v4, v5] ∧ Iv (i * ns.length) h') ?_ ?_ ?_
    · simp only [Lg.w_ok, Lg.w_V, Lg.w_C, Lg.w_N, Lg.w_Co, Lg.w_op, Lg.w_B, Lg.w_CB, Lg.w_call, Lg.w_tup, Lg.w_lst, Lg.w_lstN, Lg.w_if, Lg.w_not, Lg.w_and, Lg.w_or, Lg.w_tru, Lg.w_pop, Lg.w_app, Lg.s_seq, Lg.s_nx, Lg.s_set, Lg.s_par, Lg.s_rt, Lg.s_rtN, Lg.s_ex, Lg.s_if, Lg.s_asg, Lg.w_sub, Lg.w_gN, Lg.w_callB, Lg.w_lc, Lg.w_lcN, Lg.w_sl, Lg.w_O0, Lg.w_O, Lg.w_revN, Lg.s_par3]
      exact ⟨_, rfl, .inl rfl, none, none, rfl, k, [], inv0.1, inv0.2.1, by omega, inv0.2.2, ⟨fun x y r e => by cases e⟩, Nat.zero_le _⟩
    · rintro i d s1 h1 hi ⟨v4, v5, rfl, iv⟩
      obtain ⟨x, hx, rfl, mx⟩ := item hi
      have li : i < ns.length := (List.getElem?_eq_some_iff.mp hx).1
      rw [w_gN]
      show OkS (gFor _ _ _ [some (.ref n), some (rowD ns), some (.int part), some (.ref h.length), some (.str x), v5] h1) _
      refine s_forL (l := ns.map D.str) (fun j s' h' => ∃ v5, s' = [some (.ref n), some (rowD ns), some (.int part), some (.ref h.length), some (.str x), v5] ∧ Iv (i * ns.length + j) h') ?_ ?_ ?_
      · simp only [Lg.w_ok, Lg.w_V, Lg.w_C, Lg.w_N, Lg.w_Co, Lg.w_op, Lg.w_B, Lg.w_CB, Lg.w_call, Lg.w_tup, Lg.w_lst, Lg.w_lstN, Lg.w_if, Lg.w_not, Lg.w_and, Lg.w_or, Lg.w_tru, Lg.w_pop, Lg.w_app, Lg.s_seq, Lg.s_nx, Lg.s_set, Lg.s_par, Lg.s_rt, Lg.s_rtN, Lg.s_ex, Lg.s_if, Lg.s_asg, Lg.w_sub, Lg.w_gN, Lg.w_callB, Lg.w_lc, Lg.w_lcN, Lg.w_sl, Lg.w_O0, Lg.w_O, Lg.w_revN, Lg.s_par3]
        exact ⟨_, rfl, .inl rfl, v5, rfl, iv⟩
      · rintro j d s2 h2 hj ⟨v5, rfl, k', T, o, dk2, hk2, tb, tok, hT⟩
        obtain ⟨y, hy, rfl, my⟩ := item hj
        have lj : j < ns.length := (List.getElem?_eq_some_iff.mp hy).1
        have bd : i * ns.length + j < 169 := by
          have h1 : i * ns.length + ns.length ≤ ns.length * ns.length := by
            have := Nat.mul_le_mul_right ns.length (show i + 1 ≤ ns.length from li)
            rwa [Nat.add_mul, Nat.one_mul] at this
          have h2 : ns.length * ns.length ≤ 13 * 13 := Nat.mul_le_mul hn hn
          omega
        rw [w_gN]
        show OkS (gIf _ _ _ [some (.ref n), some (rowD ns), some (.int part), some (.ref h.length), some (.str x), some (.str y)] h2) _
        rw [s_if]
        simp only [Lg.w_ok, Lg.w_V, Lg.w_C, Lg.w_N, Lg.w_Co, Lg.w_op, Lg.w_B, Lg.w_CB, Lg.w_call, Lg.w_tup, Lg.w_lst, Lg.w_lstN, Lg.w_if, Lg.w_not, Lg.w_and, Lg.w_or, Lg.w_tru, Lg.w_pop, Lg.w_app, Lg.s_seq, Lg.s_nx, Lg.s_set, Lg.s_par, Lg.s_rt, Lg.s_rtN, Lg.s_ex, Lg.s_if, Lg.s_asg, Lg.w_sub, Lg.w_gN, Lg.w_callB, Lg.w_lc, Lg.w_lcN, Lg.w_sl, Lg.w_O0, Lg.w_O, Lg.w_revN, Lg.s_par3]
        refine ⟨_, rfl, _, rfl, ?_⟩
        refine draw_ok dk2 (by omega) y0 y1 fun r h3 o3 dk3 r0 r1 => ?_
        refine ⟨.bl (decide ((0 : Int) < r)), rfl, _, rfl, ?_⟩
        have tb3 : TabAt h3 h.length T := (o3.st _ (by omega) (by omega) (List.getElem?_eq_some_iff.mp tb).1).trans tb
        by_cases c : (0 : Int) < r
        · rw [if_pos (decide_eq_true c)]
          refine ⟨_, rfl, rfl, _, rfl, rfl, _, rfl, rfl, _, rfl, _, rfl, ?_⟩
          refine pick_ok (l := ns.map D.str) dk3 (by omega) (.inl rfl) (by rw [List.length_map]; exact n0) (by rw [List.length_map]; omega) fun i5 d5 h5 e5 o5 dk5 => ?_
          obtain ⟨z, hz, rfl, mz⟩ := item e5
          refine ⟨rfl, rfl, ?_⟩
          refine pick_ok (l := [rowD [], rowD [x], rowD [y], rowD [z]]) dk5 (by omega) (.inr (.inl rfl)) (by simp) (by simp) fun i6 d6 h6 e6 o6 dk6 => ?_
          obtain ⟨rr, rfl, hr1, hr2⟩ : ∃ rr : List Str, d6 = rowD rr ∧ rr.length ≤ 1 ∧ ∀ w ∈ rr, w ∈ ns := by
            have := List.mem_of_getElem? e6
            simp only [List.mem_cons, List.not_mem_nil, or_false] at this
            rcases this with e | e | e | e
            · exact ⟨[], e, by simp, by simp⟩
            · exact ⟨[x], e, by simp, by simpa using mx⟩
            · exact ⟨[y], e, by simp, by simpa using my⟩
            · exact ⟨[z], e, by simp, by simpa using mz⟩
          have o36 : Off n m h3 h6 := o5.trans o6
          have tb6 : TabAt h6 h.length T := (o36.st _ (by omega) (by omega) (List.getElem?_eq_some_iff.mp tb3).1).trans tb3
          have l6 : h.length < h6.length := (List.getElem?_eq_some_iff.mp tb6).1
          refine ⟨_, rfl, _, rfl, _, rfl, rfl, _, tab_set tb6 (by omega), some (.str y), rfl, k' + 1 + 1 + 1, putT T x y rr, ?_, ?_, ?_, ?_, ?_, ?_⟩
          · exact off_new (h2 := h) ((o.trans o3).trans o36) _ (Nat.le_refl _) _
          · exact deck_new dk6 (by omega) (by omega)
          · omega
          · exact List.getElem?_set_self l6
          · exact tok.put mx my hr1 hr2
          · have := put_len (T := T) (x := x) (y := y) (r := rr)
            omega
        · rw [if_neg (by simpa using c)]
          exact ⟨some (.str y), rfl, k' + 1, T, o.trans o3, dk3, by omega, tb3, tok, by omega⟩
      · rintro s2 h2 ⟨v5, rfl, iv⟩
        rw [List.length_map] at iv
        refine ⟨_, _, rfl, ?_⟩
        rw [show (i + 1) * ns.length = i * ns.length + ns.length by rw [Nat.add_mul, Nat.one_mul]]
        exact iv
    · rintro s1 h1 ⟨v4, v5, rfl, iv⟩
      rw [List.length_map] at iv
      exact ⟨v4, v5, rfl, iv⟩
  · rintro s' h' ⟨v4, v5, rfl, k', T, o, dk2, hk2, tb, tok, hT⟩
    have h2 : ns.length * ns.length ≤ 13 * 13 := Nat.mul_le_mul hn hn
    simp only [Lg.w_ok, Lg.w_V, Lg.w_C, Lg.w_N, Lg.w_Co, Lg.w_op, Lg.w_B, Lg.w_CB, Lg.w_call, Lg.w_tup, Lg.w_lst, Lg.w_lstN, Lg.w_if, Lg.w_not, Lg.w_and, Lg.w_or, Lg.w_tru, Lg.w_pop, Lg.w_app, Lg.s_seq, Lg.s_nx, Lg.s_set, Lg.s_par, Lg.s_rt, Lg.s_rtN, Lg.s_ex, Lg.s_if, Lg.s_asg, Lg.w_sub, Lg.w_gN, Lg.w_callB, Lg.w_lc, Lg.w_lcN, Lg.w_sl, Lg.w_O0, Lg.w_O, Lg.w_revN, Lg.s_par3]
    exact ⟨_, rfl, q _ T h' k' (Nat.le_refl _) o dk2 (by omega) tb tok (by omega)⟩
end L4
set_option Elab.async false
set_option linter.all false
set_option maxRecDepth 100000
set_option maxHeartbeats 2000000
namespace L4
open PySem PySem.Spec PyProof.Rows L2 Lg
open Lf (EndsOf Small Closed clashL isClash)
theorem w_dpop {fo fk : FE} {s : S} {h : Hh} {P : D → Hh → Prop} (k : Ok (fo s h) fun d h1 => ∃ n t0 l0, d = .ref n ∧ h1[n]? = some (.dic t0 l0) ∧ Ok (fk s h1) fun k h2 => ∃ t l v, h2[n]? = some (.dic t l) ∧ look l k = some v ∧ keyOk t k = true ∧ P v (h2.set n (.dic t (dropD l k)))) : Ok (fDpop fo fk s h) P := by
  unfold fDpop
  rw [w_bind]
  refine k.mono fun d h1 ⟨n, t0, l0, e1, e2, z⟩ => ?_
  subst e1
  dsimp only
  rw [e2]
  dsimp only
  rw [w_bind]
  refine z.mono fun k h2 ⟨t, l, v, e3, e4, e5, z⟩ => ?_
  rw [e3]
  dsimp only
  rw [e4]
  dsimp only
  rw [if_pos e5, w_ok]
  exact z
def dropT (T : Tab) (x y : Str) : Tab := T.filter fun e => !decide (e.1 = (x, y))
theorem drop_enc {T : Tab} {x y : Str} : dropD (encT T) (.tup [.str x, .str y]) = encT (dropT T x y) := by
  unfold dropD dropT encT
  rw [List.filter_map]
  congr 1
  refine List.filter_congr fun e _ => ?_
  show (!kEq (.tup [.str e.1.1, .str e.1.2]) (.tup [.str x, .str y])) = _
  rw [kEq_pair]
theorem look_drop {x y a b : Str} : ∀ T : Tab, lookT (dropT T x y) a b = if (x, y) = (a, b) then none else lookT T a b
  | [] => by simp [dropT, lookT]
  | e :: T => by
    have ih := look_drop (x := x) (y := y) (a := a) (b := b) T
    unfold dropT at ih ⊢
    show lookT (List.filter _ (e :: T)) a b = if (x, y) = (a, b) then none else (if e.1 = (a, b) then some e.2 else lookT T a b)
    rw [List.filter_cons]
    by_cases c : e.1 = (x, y)
    · rw [decide_eq_true c]
      simp only [Bool.not_true, Bool.false_eq_true, if_false, ih]
      by_cases d : (x, y) = (a, b)
      · rw [if_pos d, if_pos d]
      · rw [if_neg d, if_neg d, if_neg (fun z => d (c.symm.trans z))]
    · rw [decide_eq_false c]
      simp only [Bool.not_false, if_true]
      show (if e.1 = (a, b) then some e.2 else lookT (List.filter _ T) a b) = _
      by_cases d : e.1 = (a, b)
      · rw [if_pos d, if_pos d, if_neg (fun z => c (d.trans z.symm))]
      · rw [if_neg d, if_neg d, ih]
theorem TabOk.drop {ns : List Str} {T : Tab} {x y : Str} (k : TabOk ns T) : TabOk ns (dropT T x y) := ⟨fun a b s e => by
  rw [look_drop] at e
  by_cases d : (x, y) = (a, b)
  · rw [if_pos d] at e; cases e
  · rw [if_neg d] at e; exact k.ok a b s e⟩
theorem look_mem {x y : Str} {r : List Str} : ∀ {T : Tab}, lookT T x y = some r → ((x, y), r) ∈ T
  | [], e => by cases e
  | f :: T, e => by
    have e : (if f.1 = (x, y) then some f.2 else lookT T x y) = some r := e
    by_cases c : f.1 = (x, y)
    · rw [if_pos c] at e
      cases e
      rw [← c]
      exact List.mem_cons_self
    · rw [if_neg c] at e
      exact List.mem_cons_of_mem _ (look_mem e)
theorem drop_len {T : Tab} {x y : Str} {r : List Str} (e : lookT T x y = some r) : (dropT T x y).length < T.length := by
  refine List.length_filter_lt_length_iff_exists.mpr ⟨_, look_mem e, by simp⟩
theorem clashL_some {L : Fn} {ns r : List Str} (e : clashL ns L = some r) : ∃ x y z, r = [x, y, z] ∧ x ∈ ns ∧ y ∈ ns ∧ z ∈ ns ∧ isClash L x y z = true := by
  unfold clashL at e
  obtain ⟨x, hx, e⟩ := List.exists_of_findSome?_eq_some e
  obtain ⟨y, hy, e⟩ := List.exists_of_findSome?_eq_some e
  obtain ⟨z, hz, e⟩ := List.exists_of_findSome?_eq_some e
  by_cases c : isClash L x y z = true
  · rw [if_pos c] at e
    cases e
    exact ⟨x, y, z, rfl, hx, hy, hz, c⟩
  · rw [if_neg c] at e; cases e
theorem isClash_some {L : Fn} {x y z : Str} (e : isClash L x y z = true) : (∃ r, L x y = some r) ∧ ∃ r, L y z = some r := by
  unfold isClash at e
  cases h1 : L x y with
  | none => rw [h1] at e; cases e
  | some r =>
    cases h2 : L y z with
    | none => rw [h1, h2] at e; cases e
    | some s => exact ⟨⟨r, rfl⟩, s, rfl⟩
theorem cut3 {h : Hh} {x y z : Str} : opSl h (rowD [x, y, z]) (some 0) (some 2) = some (.tup [.str x, .str y]) ∧ opSl h (rowD [x, y, z]) (some 1) (some 3) = some (.tup [.str y, .str z]) := ⟨rfl, rfl⟩
theorem clear_ok {n m : Nat} {k part : Int} {h : Hh} {ns : List Str} {Q : D → Hh → Prop} (dk : Deck n m k h) (hk : k + 2000 ≤ 1000000) (hn : ns.length ≤ 13) (n0 : 0 < ns.length) (y0 : 0 < part) (y1 : part < 1000000) (ok : ∀ x ∈ ns, okT x)
    (q : ∀ t T h' k', h.length ≤ t → Off n m h h' → Deck n m k' h' → k' ≤ k + 1000 → TabAt h' t T → TabOk ns T → T.length ≤ 200 → clashL ns (lookT T) = none → Q (.ref t) h') : Ok (F__law_clear [.ref n, rowD ns, .int part] h) Q := by
  have ln : n < h.length := by
    obtain ⟨_, a, cs, e1, _⟩ := dk
    exact (List.getElem?_eq_some_iff.mp e1).1
  have lm : m < h.length := by
    obtain ⟨_, a, cs, _, e1, _⟩ := dk
    exact (List.getElem?_eq_some_iff.mp e1).1
  unfold F__law_clear f__law_clear
  rw [w_callB]
  refine ⟨rfl, ?_⟩
  show OkS (gSeq _ _ [some (.ref n), some (rowD ns), some (.int part), none, none, none] h) _
  rw [s_seq, s_set, w_call, w_Co, w_V]
  refine ⟨_, rfl, ?_⟩
  rw [w_Co, w_V]
  refine ⟨_, rfl, ?_⟩
  rw [w_Co, w_V]
  refine ⟨_, rfl, ?_⟩
  rw [w_N]
  refine table_ok dk (by omega) hn n0 y0 y1 fun t T h1 k1 ht o1 d1 hk1 tb1 tok1 hT1 => ?_
  show OkS (gSeq _ _ [some (.ref n), some (rowD ns), some (.int part), some (.ref t), none, none] h1) _
  refine s_cut (fun s' h' => s' = [some (.ref n), some (rowD ns), some (.int part), some (.ref t), some (clashD (clashL ns (lookT T))), none] ∧ Kp h1 h') ?_ ?_
  · simp only [Lg.w_ok, Lg.w_V, Lg.w_C, Lg.w_N, Lg.w_Co, Lg.w_op, Lg.w_B, Lg.w_CB, Lg.w_call, Lg.w_tup, Lg.w_lst, Lg.w_lstN, Lg.w_if, Lg.w_not, Lg.w_and, Lg.w_or, Lg.w_tru, Lg.w_pop, Lg.w_app, Lg.s_seq, Lg.s_nx, Lg.s_set, Lg.s_par, Lg.s_rt, Lg.s_rtN, Lg.s_ex, Lg.s_if, Lg.s_asg, Lg.w_sub, Lg.w_gN, Lg.w_callB, Lg.w_lc, Lg.w_lcN, Lg.w_sl, Lg.w_O0, Lg.w_O, Lg.w_revN, Lg.s_par3]
    exact ⟨_, rfl, _, rfl, clash_ok tb1 tok1.small (tok1.closed ok) ok fun h' kp => ⟨rfl, kp⟩⟩
  rintro s2 h2 ⟨rfl, kp⟩
  refine s_cut (fun s' h' => ∃ (v4 v5 : Option D) (T' : Tab) (k' : Int), s' = [some (.ref n), some (rowD ns), some (.int part), some (.ref t), v4, v5] ∧ Off n m h h' ∧ Deck n m k' h' ∧ k' ≤ k + 1000 ∧ TabAt h' t T' ∧ TabOk ns T' ∧ T'.length ≤ 200 ∧ clashL ns (lookT T') = none) ?_ ?_
  · refine s_while 200 (by unfold FUEL; omega) (fun f s' h' => ∃ (v5 : Option D) (T' : Tab) (k' : Int), s' = [some (.ref n), some (rowD ns), some (.int part), some (.ref t), some (clashD (clashL ns (lookT T'))), v5] ∧ Off n m h h' ∧ Deck n m k' h' ∧ k' + T'.length ≤ k + 800 ∧ TabAt h' t T' ∧ TabOk ns T' ∧ T'.length ≤ f) ⟨none, T, k1, rfl, o1.trans kp.off, kp.deck d1, by omega, kp.tab tb1, tok1, hT1⟩ ?_
    rintro f s' h' hf ⟨v5, T', k', rfl, o, d, hk', tb, tok, hT⟩
    have lt : t < h'.length := (List.getElem?_eq_some_iff.mp tb).1
    rw [w_B, w_op, w_V]
    refine ⟨_, rfl, ?_⟩
    rw [w_C]
    cases hc : clashL ns (lookT T') with
    | none =>
      refine ⟨.bl false, rfl, false, rfl, ?_⟩
      rw [if_neg Bool.false_ne_true]
      exact ⟨_, _, T', k', rfl, o, d, by omega, tb, tok, by omega, hc⟩
    | some r =>
      refine ⟨.bl true, rfl, true, rfl, ?_⟩
      rw [if_pos rfl]
      obtain ⟨x, y, z, rfl, hx, hy, hz, ic⟩ := clashL_some hc
      obtain ⟨⟨r1, e1⟩, r2, e2⟩ := isClash_some ic
      rw [s_seq, s_set, w_call, w_Co, w_V]
      refine ⟨_, rfl, ?_⟩
      rw [w_Co, w_C, w_N]
      refine draw_ok d (by omega) (by decide) (by decide) fun g h3 o3 d3 g0 g1 => ?_
      have tb3 : TabAt h3 t T' := (o3.st _ (by omega) (by omega) lt).trans tb
      have lt3 : t < h3.length := (List.getElem?_eq_some_iff.mp tb3).1
      -- which of the two rules goes
      have step : ∀ a b s, lookT T' a b = some s → opSl h3 (rowD [x, y, z]) (some g) (some (g + 2)) = some (.tup [.str a, .str b]) → OkS (gSeq (gEx (fDpop (fV 3) (fSl (fV 4) (fO (fV 5)) (fO (fOp opAdd (fV 5) (fC (.int 2))))))) (gSet 4 (fCall F__law_clash (fCo (fV 1) (fCo (fV 3) fN)))) [some (.ref n), some (rowD ns), some (.int part), some (.ref t), some (clashD (some [x, y, z])), some (.int g)] h3)
          { nx := fun s h_1 => ∃ k_1, k_1 < f ∧ ∃ (v5 : Option D) (T' : Tab) (k' : Int), s = [some (.ref n), some (rowD ns), some (.int part), some (.ref t), some (clashD (clashL ns (lookT T'))), v5] ∧ Off n m h h_1 ∧ Deck n m k' h_1 ∧ k' + T'.length ≤ k + 800 ∧ TabAt h_1 t T' ∧ TabOk ns T' ∧ T'.length ≤ k_1 } := fun a b s es eo => by
        refine s_det (s1 := [some (.ref n), some (rowD ns), some (.int part), some (.ref t), some (clashD (some [x, y, z])), some (.int g)]) (h1 := h3.set t (.dic true (encT (dropT T' a b)))) ?_ ?_
        · rw [s_ex]
          refine w_dpop ?_
          simp only [Lg.w_ok, Lg.w_V, Lg.w_C, Lg.w_N, Lg.w_Co, Lg.w_op, Lg.w_B, Lg.w_CB, Lg.w_call, Lg.w_tup, Lg.w_lst, Lg.w_lstN, Lg.w_if, Lg.w_not, Lg.w_and, Lg.w_or, Lg.w_tru, Lg.w_pop, Lg.w_app, Lg.s_seq, Lg.s_nx, Lg.s_set, Lg.s_par, Lg.s_rt, Lg.s_rtN, Lg.s_ex, Lg.s_if, Lg.s_asg, Lg.w_sub, Lg.w_gN, Lg.w_callB, Lg.w_lc, Lg.w_lcN, Lg.w_sl, Lg.w_O0, Lg.w_O, Lg.w_revN, Lg.s_par3]
          refine ⟨_, rfl, t, true, encT T', rfl, tb3, _, rfl, _, rfl, _, rfl, _, rfl, _, rfl, _, rfl, _, eo, true, encT T', rowD s, tb3, by rw [look_enc, es]; rfl, rfl, trivial, ?_⟩
          rw [drop_enc]
        · have tb4 : TabAt (h3.set t (.dic true (encT (dropT T' a b)))) t (dropT T' a b) := List.getElem?_set_self lt3
          have o4 : Off n m h (h3.set t (.dic true (encT (dropT T' a b)))) := off_new (h2 := h) (o.trans o3) _ ht _
          have d4 : Deck n m (k' + 1) (h3.set t (.dic true (encT (dropT T' a b)))) := deck_new d3 (by omega) (by omega)
          generalize h3.set t (.dic true (encT (dropT T' a b))) = h4 at tb4 o4 d4 ⊢
          have dl := drop_len es
          simp only [Lg.w_ok, Lg.w_V, Lg.w_C, Lg.w_N, Lg.w_Co, Lg.w_op, Lg.w_B, Lg.w_CB, Lg.w_call, Lg.w_tup, Lg.w_lst, Lg.w_lstN, Lg.w_if, Lg.w_not, Lg.w_and, Lg.w_or, Lg.w_tru, Lg.w_pop, Lg.w_app, Lg.s_seq, Lg.s_nx, Lg.s_set, Lg.s_par, Lg.s_rt, Lg.s_rtN, Lg.s_ex, Lg.s_if, Lg.s_asg, Lg.w_sub, Lg.w_gN, Lg.w_callB, Lg.w_lc, Lg.w_lcN, Lg.w_sl, Lg.w_O0, Lg.w_O, Lg.w_revN, Lg.s_par3]
          refine ⟨_, rfl, _, rfl, clash_ok tb4 tok.drop.small (tok.drop.closed ok) ok fun h5 kp5 => ⟨(dropT T' a b).length, by omega, _, dropT T' a b, k' + 1, rfl, o4.trans kp5.off, kp5.deck d4, by omega, kp5.tab tb4, tok.drop, Nat.le_refl _⟩⟩
      have g2 : g = 0 ∨ g = 1 := by omega
      rcases g2 with rfl | rfl
      · exact (step x y r1 e1 cut3.1).mono (fun _ _ w => w) (fun _ _ w => w.elim) (fun _ _ w => w.elim) fun _ _ w => w.elim
      · exact (step y z r2 e2 cut3.2).mono (fun _ _ w => w) (fun _ _ w => w.elim) (fun _ _ w => w.elim) fun _ _ w => w.elim
  · rintro s' h' ⟨v4, v5, T', k', rfl, o, d, hk', tb, tok, hT, hc⟩
    simp only [Lg.w_ok, Lg.w_V, Lg.w_C, Lg.w_N, Lg.w_Co, Lg.w_op, Lg.w_B, Lg.w_CB, Lg.w_call, Lg.w_tup, Lg.w_lst, Lg.w_lstN, Lg.w_if, Lg.w_not, Lg.w_and, Lg.w_or, Lg.w_tru, Lg.w_pop, Lg.w_app, Lg.s_seq, Lg.s_nx, Lg.s_set, Lg.s_par, Lg.s_rt, Lg.s_rtN, Lg.s_ex, Lg.s_if, Lg.s_asg, Lg.w_sub, Lg.w_gN, Lg.w_callB, Lg.w_lc, Lg.w_lcN, Lg.w_sl, Lg.w_O0, Lg.w_O, Lg.w_revN, Lg.s_par3]
    exact ⟨_, rfl, q t T' h' k' ht o d hk' tb tok hT hc⟩
end L4
set_option Elab.async false
set_option linter.all false
set_option maxRecDepth 100000
set_option maxHeartbeats 2000000
namespace L4
open PySem PySem.Spec PyProof.Rows L2 Lg
abbrev pairD (p : Str × Str) : D := .tup [.str p.1, .str p.2]
def pairsL (ns : List Str) : List (Str × Str) := ns.flatMap fun a => ns.map fun b => (a, b)
theorem flat_step {α β : Type} {l : List α} {f : α → List β} {i : Nat} {x : α} (h : l[i]? = some x) : (l.take (i + 1)).flatMap f = (l.take i).flatMap f ++ f x := by
  rw [List.take_add_one, h]
  simp
theorem pairs_len (ns : List Str) (i : Nat) : ((ns.take i).flatMap fun a => ns.map fun b => (a, b)).length ≤ ns.length * ns.length := by
  have : ∀ l : List Str, (l.flatMap fun a => ns.map fun b => (a, b)).length = l.length * ns.length := fun l => by
    induction l with
    | nil => simp
    | cons a l ih => simp [List.flatMap_cons, ih, Nat.add_mul]; omega
  rw [this]
  exact Nat.mul_le_mul_right _ (by rw [List.length_take]; omega)
theorem pairs_ok {h : Hh} {ns : List Str} {Q : D → Hh → Prop} (hn : ns.length ≤ 13) (q : Q (.lst ((pairsL ns).map pairD)) h) : Ok (F__law_pairs [rowD ns] h) Q := by
  have item : ∀ {i : Nat} {d : D}, (ns.map D.str)[i]? = some d → ∃ z, ns[i]? = some z ∧ d = .str z := fun {i d} hx => by
    rw [List.getElem?_map] at hx
    cases e : ns[i]? with
    | none => rw [e] at hx; cases hx
    | some u => rw [e] at hx; exact ⟨u, rfl, (Option.some.inj hx).symm⟩
  have sq : ns.length * ns.length ≤ 13 * 13 := Nat.mul_le_mul hn hn
  unfold F__law_pairs f__law_pairs
  rw [w_callB]
  refine ⟨rfl, ?_⟩
  show OkS (gSeq _ _ [some (rowD ns), none, none, none] h) _
  refine s_det (s1 := [some (rowD ns), some (.lst []), none, none]) (h1 := h) ?_ ?_
  · simp only [Lg.w_ok, Lg.w_V, Lg.w_C, Lg.w_N, Lg.w_Co, Lg.w_op, Lg.w_B, Lg.w_CB, Lg.w_call, Lg.w_tup, Lg.w_lst, Lg.w_lstN, Lg.w_if, Lg.w_not, Lg.w_and, Lg.w_or, Lg.w_tru, Lg.w_pop, Lg.w_app, Lg.s_seq, Lg.s_nx, Lg.s_set, Lg.s_par, Lg.s_rt, Lg.s_rtN, Lg.s_ex, Lg.s_if, Lg.s_asg, Lg.w_sub, Lg.w_gN, Lg.w_callB, Lg.w_lc, Lg.w_lcN, Lg.w_sl, Lg.w_O0, Lg.w_O, Lg.w_revN, Lg.s_par3]
    refine ⟨?_, ?_, ?_⟩ <;> first | rfl | trivial
  refine s_cut (fun s' h' => ∃ v2 v3, s' = [some (rowD ns), some (.lst ((pairsL ns).map pairD)), v2, v3] ∧ h' = h) ?_ ?_
  · refine s_forL (l := ns.map D.str) (fun i s' h' => ∃ v2 v3, s' = [some (rowD ns), some (.lst (((ns.take i).flatMap fun a => ns.map fun b => (a, b)).map pairD)), v2, v3] ∧ h' = h) ?_ ?_ ?_
    · simp only [Lg.w_ok, Lg.w_V, Lg.w_C, Lg.w_N, Lg.w_Co, Lg.w_op, Lg.w_B, Lg.w_CB, Lg.w_call, Lg.w_tup, Lg.w_lst, Lg.w_lstN, Lg.w_if, Lg.w_not, Lg.w_and, Lg.w_or, Lg.w_tru, Lg.w_pop, Lg.w_app, Lg.s_seq, Lg.s_nx, Lg.s_set, Lg.s_par, Lg.s_rt, Lg.s_rtN, Lg.s_ex, Lg.s_if, Lg.s_asg, Lg.w_sub, Lg.w_gN, Lg.w_callB, Lg.w_lc, Lg.w_lcN, Lg.w_sl, Lg.w_O0, Lg.w_O, Lg.w_revN, Lg.s_par3]
      refine ⟨_, rfl, .inl rfl, none, none, ?_, ?_⟩ <;> first | rfl | trivial
    · rintro i d s1 h1 hi ⟨v2, v3, rfl, rfl⟩
      obtain ⟨x, hx, rfl⟩ := item hi
      rw [w_gN]
      show OkS (gSet _ _ [some (rowD ns), some (.lst (((ns.take i).flatMap fun a => ns.map fun b => (a, b)).map pairD)), some (.str x), v3] h1) _
      rw [s_set, w_op, w_V]
      refine ⟨_, rfl, ?_⟩
      rw [w_lc]
      refine w_lcL (fun j acc h' => h' = h1 ∧ acc = ((ns.take j).map fun b => (x, b)).map pairD) ?_
      unfold fWalk
      rw [w_bind, w_V]
      refine ⟨_, rfl, ?_⟩
      rw [w_ofO]
      refine ⟨wkL (ns.map D.str), rfl, ⟨rfl, rfl⟩, ?_, ?_⟩
      · rintro j acc h' hj ⟨rfl, rfl⟩
        have hj : j < (ns.map D.str).length := hj
        have hj' : j < ns.length := by simpa using hj
        have e := List.getElem?_eq_getElem hj'
        refine ⟨decide_eq_true (by rw [List.length_map, List.length_map, List.length_take]; omega), .str ns[j], by show (ns.map D.str)[j]? = _; rw [List.getElem?_map, e]; rfl, ?_⟩
        rw [w_gN]
        show Ok (fYes _ h') _
        rw [show fYes ((wipeD [some (rowD ns), some (.lst (((ns.take i).flatMap fun a => ns.map fun b => (a, b)).map pairD)), some (.str x), v3] [3]).set 3 (some (.str ns[j]))) h' = .ok true h' from rfl, w_ok, if_pos rfl]
        show Ok (fTup _ [some (rowD ns), some (.lst (((ns.take i).flatMap fun a => ns.map fun b => (a, b)).map pairD)), some (.str x), some (.str ns[j])] h') _
        simp only [Lg.w_ok, Lg.w_V, Lg.w_C, Lg.w_N, Lg.w_Co, Lg.w_op, Lg.w_B, Lg.w_CB, Lg.w_call, Lg.w_tup, Lg.w_lst, Lg.w_lstN, Lg.w_if, Lg.w_not, Lg.w_and, Lg.w_or, Lg.w_tru, Lg.w_pop, Lg.w_app, Lg.s_seq, Lg.s_nx, Lg.s_set, Lg.s_par, Lg.s_rt, Lg.s_rtN, Lg.s_ex, Lg.s_if, Lg.s_asg, Lg.w_sub, Lg.w_gN, Lg.w_callB, Lg.w_lc, Lg.w_lcN, Lg.w_sl, Lg.w_O0, Lg.w_O, Lg.w_revN, Lg.s_par3]
        refine ⟨_, rfl, _, rfl, rfl, trivial, ?_⟩
        have e2 : ns.take (j + 1) = ns.take j ++ [ns[j]] := by rw [List.take_add_one, e]; rfl
        rw [e2]
        simp only [List.map_append, List.map_cons, List.map_nil]
      · rintro acc h' ⟨rfl, rfl⟩
        have hl : (wkL (ns.map D.str)).n = ns.length := by show (ns.map D.str).length = _; simp
        rw [hl, List.take_length]
        have pl := pairs_len ns i
        refine ⟨rfl, .lst ((((ns.take i).flatMap fun a => ns.map fun b => (a, b)).map pairD) ++ (ns.map fun b => (x, b)).map pairD), ?_, some (.str x), v3, ?_, rfl⟩
        · show (if line ((((ns.take i).flatMap fun a => ns.map fun b => (a, b)).map pairD).length + ((ns.map fun b => (x, b)).map pairD).length) then some (D.lst _) else none) = _
          rw [show line ((((ns.take i).flatMap fun a => ns.map fun b => (a, b)).map pairD).length + ((ns.map fun b => (x, b)).map pairD).length) = true from decide_eq_true (by rw [List.length_map, List.length_map, List.length_map]; omega), if_pos rfl]
        · rw [flat_step hx, List.map_append]
          rfl
    · rintro s1 h1 ⟨v2, v3, rfl, rfl⟩
      rw [List.length_map, List.take_length]
      exact ⟨v2, v3, rfl, rfl⟩
  · rintro s' h' ⟨v2, v3, rfl, rfl⟩
    simp only [Lg.w_ok, Lg.w_V, Lg.w_C, Lg.w_N, Lg.w_Co, Lg.w_op, Lg.w_B, Lg.w_CB, Lg.w_call, Lg.w_tup, Lg.w_lst, Lg.w_lstN, Lg.w_if, Lg.w_not, Lg.w_and, Lg.w_or, Lg.w_tru, Lg.w_pop, Lg.w_app, Lg.s_seq, Lg.s_nx, Lg.s_set, Lg.s_par, Lg.s_rt, Lg.s_rtN, Lg.s_ex, Lg.s_if, Lg.s_asg, Lg.w_sub, Lg.w_gN, Lg.w_callB, Lg.w_lc, Lg.w_lcN, Lg.w_sl, Lg.w_O0, Lg.w_O, Lg.w_revN, Lg.s_par3]
    exact ⟨_, rfl, q⟩
end L4
set_option Elab.async false
set_option linter.all false
set_option maxRecDepth 100000
set_option maxHeartbeats 2000000
namespace L4
open PySem PySem.Spec PyProof.Rows L2 Lg
open Lf (EndsOf Small Closed clashL isClash Fds Net)
abbrev ruleD (p : (Str × Str) × List Str) : D := .tup [.str p.1.1, .str p.1.2, rowD p.2]
def rulesL (ns : List Str) (T : Tab) : Tab := (pairsL ns).filterMap fun p => (lookT T p.1 p.2).map fun r => (p, r)
theorem take_fm {α β : Type} {l : List α} {f : α → Option β} {i : Nat} {x : α} (h : l[i]? = some x) : (l.take (i + 1)).filterMap f = (l.take i).filterMap f ++ (match f x with | some y => [y] | none => []) := by
  rw [List.take_add_one, h, List.filterMap_append]
  congr 1
  show List.filterMap f [x] = _
  cases q : f x <;> simp [q]
theorem rules_ok {h : Hh} {t : Nat} {T : Tab} {ns : List Str} {Q : D → Hh → Prop} (e : TabAt h t T) (hn : ns.length ≤ 13) (q : Q (.tup ((rulesL ns T).map ruleD)) h) : Ok (F__law_rules [rowD ns, .ref t] h) Q := by
  have pl : (pairsL ns).length ≤ ns.length * ns.length := by
    have := pairs_len ns ns.length
    rwa [List.take_length] at this
  have sq : ns.length * ns.length ≤ 13 * 13 := Nat.mul_le_mul hn hn
  unfold F__law_rules f__law_rules
  rw [w_callB]
  refine ⟨rfl, ?_⟩
  show OkS (gRt _ [some (rowD ns), some (.ref t), none] h) _
  rw [s_rt, w_CB, w_Co, w_lc]
  let f : Str × Str → Option ((Str × Str) × List Str) := fun p => (lookT T p.1 p.2).map fun r => (p, r)
  refine w_lcL (fun j acc h' => h' = h ∧ acc = (((pairsL ns).take j).filterMap f).map ruleD) ?_
  unfold fWalk
  rw [w_bind, w_call, w_Co, w_V]
  refine ⟨_, rfl, ?_⟩
  rw [w_N]
  refine pairs_ok hn ?_
  rw [w_ofO]
  refine ⟨wkL ((pairsL ns).map pairD), rfl, ⟨rfl, rfl⟩, ?_, ?_⟩
  · rintro j acc h' hj ⟨rfl, rfl⟩
    have hj : j < ((pairsL ns).map pairD).length := hj
    have hj' : j < (pairsL ns).length := by simpa using hj
    have ej := List.getElem?_eq_getElem hj'
    generalize (pairsL ns)[j] = p at ej
    obtain ⟨x, y⟩ := p
    refine ⟨decide_eq_true ?_, pairD (x, y), by show ((pairsL ns).map pairD)[j]? = _; rw [List.getElem?_map, ej]; rfl, ?_⟩
    · have := List.length_filterMap_le f ((pairsL ns).take j)
      rw [List.length_take] at this
      rw [List.length_map]
      omega
    · rw [w_gN]
      show Ok (fB _ [some (rowD ns), some (.ref t), some (pairD (x, y))] h') _
      simp only [Lg.w_ok, Lg.w_V, Lg.w_C, Lg.w_N, Lg.w_Co, Lg.w_op, Lg.w_B, Lg.w_CB, Lg.w_call, Lg.w_tup, Lg.w_lst, Lg.w_lstN, Lg.w_if, Lg.w_not, Lg.w_and, Lg.w_or, Lg.w_tru, Lg.w_pop, Lg.w_app, Lg.s_seq, Lg.s_nx, Lg.s_set, Lg.s_par, Lg.s_rt, Lg.s_rtN, Lg.s_ex, Lg.s_if, Lg.s_asg, Lg.w_sub, Lg.w_gN, Lg.w_callB, Lg.w_lc, Lg.w_lcN, Lg.w_sl, Lg.w_O0, Lg.w_O, Lg.w_revN, Lg.s_par3]
      refine ⟨_, rfl, _, rfl, _, e.in_, _, rfl, ?_⟩
      rw [take_fm ej]
      cases r : lookT T x y with
      | none =>
        rw [if_neg (by simp)]
        have : f (x, y) = none := by show (lookT T x y).map _ = none; rw [r]; rfl
        rw [this]
        exact ⟨trivial, by simp⟩
      | some s =>
        rw [if_pos (by simp)]
        have : f (x, y) = some ((x, y), s) := by show (lookT T x y).map _ = _; rw [r]; rfl
        rw [this]
        refine ⟨_, rfl, _, rfl, _, rfl, _, e.ix r, rfl, _, rfl, ?_, ?_⟩
        · first | rfl | trivial
        · simp only [List.map_append, List.map_cons, List.map_nil]
          rfl
  · rintro acc h' ⟨rfl, rfl⟩
    have hl : (wkL ((pairsL ns).map pairD)).n = (pairsL ns).length := by show ((pairsL ns).map pairD).length = _; simp
    rw [hl, List.take_length]
    refine ⟨rfl, ?_⟩
    rw [w_N]
    exact ⟨_, _, rfl, q⟩
end L4
set_option Elab.async false
set_option linter.all false
set_option maxRecDepth 100000
set_option maxHeartbeats 2000000
namespace L4
open PySem PySem.Spec PyProof.Rows L2 Lg
open Lf (EndsOf Small Closed clashL isClash Fds Net)
theorem ne_ints {h : Hh} {cs : List Int} : opNe h (.lst (cs.map D.int)) (.lst []) = some (.bl (!cs.isEmpty)) := by
  have e := eq_ints (h := h) (cs := cs)
  unfold opEq at e
  unfold opNe
  cases q : eqP h (.lst (cs.map D.int)) (.lst []) with
  | none => rw [q] at e; cases e
  | some b =>
    rw [q] at e
    simp only [Option.map_some, Option.some.injEq, D.bl.injEq] at e
    rw [← e]
    rfl
theorem ix_last {h : Hh} {l : List D} {d : D} : opIx h (.lst (l ++ [d])) (.int (-1)) = some d := by
  refine SeqD.ix (l := l ++ [d]) (.inr (.inl rfl)) ?_
  unfold atI ixN
  rw [if_neg (by decide), if_pos (by simp; omega)]
  show (l ++ [d])[(-1 + ((l ++ [d]).length : Int)).toNat]? = _
  have : (-1 + ((l ++ [d]).length : Int)).toNat = l.length := by simp; omega
  rw [this]
  simp
theorem net_ok {h : Hh} {t : Nat} {T : Tab} {l : List Str} {Q : D → Hh → Prop} (e : TabAt h t T) (sm : Small (lookT T)) (hl : l.length ≤ 1000) (q : ∀ r, Fds (lookT T) l r → Net (lookT T) r → Q (rowD r) h) : Ok (F__law_net [.ref t, rowD l] h) Q := by
  unfold F__law_net f__law_net
  rw [w_callB]
  refine ⟨rfl, ?_⟩
  show OkS (gSeq _ _ [some (.ref t), some (rowD l), none] h) _
  have sp : ∀ u : List Str, (spotsL T u).map (fun i => D.int (i : Nat)) = ((spotsL T u).map fun i => ((i : Nat) : Int)).map D.int := fun u => by rw [List.map_map]; rfl
  refine s_det (s1 := [some (.ref t), some (rowD l), some (.lst ((spotsL T l).map fun i => D.int (i : Nat)))]) (h1 := h) ?_ ?_
  · simp only [Lg.w_ok, Lg.w_V, Lg.w_C, Lg.w_N, Lg.w_Co, Lg.w_op, Lg.w_B, Lg.w_CB, Lg.w_call, Lg.w_tup, Lg.w_lst, Lg.w_lstN, Lg.w_if, Lg.w_not, Lg.w_and, Lg.w_or, Lg.w_tru, Lg.w_pop, Lg.w_app, Lg.s_seq, Lg.s_nx, Lg.s_set, Lg.s_par, Lg.s_rt, Lg.s_rtN, Lg.s_ex, Lg.s_if, Lg.s_asg, Lg.w_sub, Lg.w_gN, Lg.w_callB, Lg.w_lc, Lg.w_lcN, Lg.w_sl, Lg.w_O0, Lg.w_O, Lg.w_revN, Lg.s_par3]
    exact ⟨_, rfl, _, rfl, spots_ok e (by omega) ⟨rfl, rfl⟩⟩
  refine s_cut (fun s' h' => ∃ u, s' = [some (.ref t), some (rowD u), some (.lst ((spotsL T u).map fun i => D.int (i : Nat)))] ∧ h' = h ∧ Fds (lookT T) l u ∧ Net (lookT T) u) ?_ ?_
  · refine s_while l.length (by unfold FUEL; omega) (fun m s' h' => ∃ u, s' = [some (.ref t), some (rowD u), some (.lst ((spotsL T u).map fun i => D.int (i : Nat)))] ∧ h' = h ∧ Fds (lookT T) l u ∧ u.length = m) ⟨l, rfl, rfl, .refl _, rfl⟩ ?_
    rintro m s' h' hm ⟨u, rfl, rfl, fu, rfl⟩
    rw [w_B, w_op, w_V]
    refine ⟨_, rfl, ?_⟩
    rw [w_lst, w_N]
    refine ⟨rfl, .bl (!((spotsL T u).map fun i => ((i : Nat) : Int)).isEmpty), by rw [sp]; exact ne_ints, _, rfl, ?_⟩
    by_cases c : spotsL T u = []
    · rw [if_neg (by rw [c]; simp)]
      exact ⟨u, rfl, rfl, fu, Lf.net_spots.mpr (by rw [spots_M]; exact c)⟩
    · rw [if_pos (by cases q2 : spotsL T u with | nil => exact absurd q2 c | cons _ _ => rfl)]
      obtain ⟨ks, k, ek⟩ : ∃ ks k, spotsL T u = ks ++ [k] := ⟨(spotsL T u).dropLast, (spotsL T u).getLast c, (List.dropLast_concat_getLast c).symm⟩
      have mk : k ∈ spotsL T u := by rw [ek]; simp
      have hsp : spotAt T u k = true := (List.mem_filter.mp mk).2
      have mk' : k ∈ Lf.spots (lookT T) u := by rw [spots_M]; exact mk
      have fo := Lf.once_fd mk'
      rw [once_M mk'] at fo
      have lo := fo.len sm
      refine s_det (s1 := [some (.ref t), some (rowD (onceL T u k)), some (.lst ((spotsL T u).map fun i => D.int (i : Nat)))]) (h1 := h') ?_ ?_
      · rw [s_set, w_call, w_Co, w_V]
        refine ⟨_, rfl, ?_⟩
        rw [w_Co, w_V]
        refine ⟨_, rfl, ?_⟩
        rw [w_Co, w_op, w_V]
        refine ⟨_, rfl, ?_⟩
        rw [show fNeg (fC (.int 1)) [some (D.ref t), some (rowD u), some (.lst ((spotsL T u).map fun i => D.int (i : Nat)))] h' = .ok (.int (-1)) h' from rfl, w_ok]
        refine ⟨.int (k : Nat), by rw [ek, List.map_append]; exact ix_last, ?_⟩
        rw [w_N]
        exact once_ok e (by omega) hsp sm ⟨rfl, rfl⟩
      · simp only [Lg.w_ok, Lg.w_V, Lg.w_C, Lg.w_N, Lg.w_Co, Lg.w_op, Lg.w_B, Lg.w_CB, Lg.w_call, Lg.w_tup, Lg.w_lst, Lg.w_lstN, Lg.w_if, Lg.w_not, Lg.w_and, Lg.w_or, Lg.w_tru, Lg.w_pop, Lg.w_app, Lg.s_seq, Lg.s_nx, Lg.s_set, Lg.s_par, Lg.s_rt, Lg.s_rtN, Lg.s_ex, Lg.s_if, Lg.s_asg, Lg.w_sub, Lg.w_gN, Lg.w_callB, Lg.w_lc, Lg.w_lcN, Lg.w_sl, Lg.w_O0, Lg.w_O, Lg.w_revN, Lg.s_par3]
        exact ⟨_, rfl, _, rfl, spots_ok e (by omega) ⟨(onceL T u k).length, lo, onceL T u k, rfl, rfl, fu.trans (.one fo), rfl⟩⟩
  · rintro s' h' ⟨u, rfl, rfl, fu, nu⟩
    simp only [Lg.w_ok, Lg.w_V, Lg.w_C, Lg.w_N, Lg.w_Co, Lg.w_op, Lg.w_B, Lg.w_CB, Lg.w_call, Lg.w_tup, Lg.w_lst, Lg.w_lstN, Lg.w_if, Lg.w_not, Lg.w_and, Lg.w_or, Lg.w_tru, Lg.w_pop, Lg.w_app, Lg.s_seq, Lg.s_nx, Lg.s_set, Lg.s_par, Lg.s_rt, Lg.s_rtN, Lg.s_ex, Lg.s_if, Lg.s_asg, Lg.w_sub, Lg.w_gN, Lg.w_callB, Lg.w_lc, Lg.w_lcN, Lg.w_sl, Lg.w_O0, Lg.w_O, Lg.w_revN, Lg.s_par3]
    exact ⟨_, rfl, q u fu nu⟩
end L4
set_option Elab.async false
set_option linter.all false
set_option maxRecDepth 100000
set_option maxHeartbeats 2000000
namespace L4
open PySem PySem.Spec PyProof.Rows L2 Lg
open Lf (EndsOf Small Closed clashL isClash Fd Fds Net)
/-! ### deeds: what names do to the three conditions -/
abbrev Mp := List (Str × List Nat)
abbrev mapD (m : List Nat) : D := .tup (m.map fun k => D.int (k : Nat))
def encM (M : Mp) : List (D × D) := M.map fun e => (.str e.1, mapD e.2)
def lookM : Mp → Str → Option (List Nat)
  | [], _ => none
  | e :: M, x => if e.1 = x then some e.2 else lookM M x
theorem kEq_str {a x : Str} : kEq (.str a) (.str x) = decide (a = x) := by simp [kEq, kEq0]
theorem look_encM {x : Str} : ∀ M : Mp, look (encM M) (.str x) = (lookM M x).map mapD
  | [] => rfl
  | (a, r) :: M => by
    show (if kEq (.str a) (.str x) = true then some (mapD r) else look (encM M) _) = (if a = x then some r else lookM M x).map mapD
    rw [kEq_str, look_encM M]
    by_cases c : a = x
    · simp [c]
    · simp [c]
def Goes (M : Mp) : Prop := ∀ x m, lookM M x = some m → m.length = 3 ∧ ∀ k ∈ m, k < 3
abbrev Goes1 (m : List Nat) : Prop := m.length = 3 ∧ ∀ k ∈ m, k < 3
abbrev MapAt (h : Hh) (t : Nat) (M : Mp) : Prop := h[t]? = some (.dic false (encM M))
theorem lookM_app {M : Mp} {x y : Str} {m : List Nat} : lookM (M ++ [(y, m)]) x = match lookM M x with | some r => some r | none => if y = x then some m else none := by
  induction M with
  | nil => rfl
  | cons e M ih =>
    show (if e.1 = x then some e.2 else lookM (M ++ [(y, m)]) x) = (match (if e.1 = x then some e.2 else lookM M x) with | some r => some r | none => if y = x then some m else none)
    by_cases c : e.1 = x
    · rw [if_pos c, if_pos c]
    · rw [if_neg c, if_neg c]; exact ih
theorem lookM_key {M : Mp} {x : Str} : x ∈ M.map (·.1) ↔ ∃ m, lookM M x = some m := by
  induction M with
  | nil => simp [lookM]
  | cons e M ih =>
    rw [List.map_cons, List.mem_cons, ih]
    show _ ↔ ∃ m, (if e.1 = x then some e.2 else lookM M x) = some m
    by_cases c : e.1 = x
    · rw [if_pos c]; simp [c]
    · rw [if_neg c]
      simp [show ¬ x = e.1 from fun z => c z.symm]
theorem put_encM {M : Mp} {x : Str} {m : List Nat} (n : x ∉ M.map (·.1)) : Lg.put (encM M) (.str x) (mapD m) = encM (M ++ [(x, m)]) := by
  unfold Lg.put
  have e1 : (encM M).any (fun p => kEq p.1 (.str x)) = false := by
    rw [List.any_eq_false]
    intro p hp
    obtain ⟨e, he, rfl⟩ := List.mem_map.mp hp
    rw [kEq_str]
    simp only [decide_eq_true_eq]
    intro z
    exact n (List.mem_map.mpr ⟨e, he, z⟩)
  rw [e1, if_neg Bool.false_ne_true]
  unfold encM
  rw [List.map_append]
  rfl
/-! the deed of a row -/
def gM (L : Str → Option (List Nat)) (x : Str) (k : Nat) : Nat := ((L x).getD []).getD k 0
def stepM (L : Str → Option (List Nat)) (f : List Nat) (x : Str) : List Nat := f.map (gM L x)
def ledL (L : Str → Option (List Nat)) (l : List Str) : List Nat := l.foldl (stepM L) [0, 1, 2]
def LtM (L : Str → Option (List Nat)) : Prop := ∀ x k, gM L x k < 3
theorem Goes.lt {M : Mp} (g : Goes M) : LtM (lookM M) := fun x k => by
  unfold gM
  cases e : lookM M x with
  | none => simp
  | some m =>
    simp only [Option.getD_some]
    rw [List.getD_eq_getElem?_getD]
    cases e2 : m[k]? with
    | none => simp
    | some j =>
      simp only [Option.getD_some]
      exact (g x m e).2 j (List.mem_of_getElem? e2)
section
variable {L : Str → Option (List Nat)}
theorem three_at {f : Nat → Nat} {k : Nat} (hk : k < 3) : ([0, 1, 2].map f).getD k 0 = f k := by
  match k, hk with
  | 0, _ => rfl
  | 1, _ => rfl
  | 2, _ => rfl
theorem led_from (lt : LtM L) : ∀ (l : List Str) (f : List Nat), (∀ k ∈ f, k < 3) → l.foldl (stepM L) f = f.map fun k => (ledL L l).getD k 0
  | [], f, hf => by
    show f = _
    conv => lhs; rw [← List.map_id f]
    refine List.map_congr_left fun k hk => ?_
    have := hf k hk
    show k = ([0, 1, 2] : List Nat).getD k 0
    match k, this with
    | 0, _ => rfl
    | 1, _ => rfl
    | 2, _ => rfl
  | x :: l, f, hf => by
    have h1 : ∀ (f : List Nat), ∀ k ∈ stepM L f x, k < 3 := fun f k hk => by
      obtain ⟨j, _, rfl⟩ := List.mem_map.mp hk
      exact lt x j
    show l.foldl (stepM L) (stepM L f x) = f.map fun k => (l.foldl (stepM L) (stepM L [0, 1, 2] x)).getD k 0
    rw [led_from lt l _ (h1 f), led_from lt l _ (h1 _)]
    unfold stepM
    rw [List.map_map, List.map_map]
    refine List.map_congr_left fun k hk => ?_
    rw [three_at (hf k hk)]
theorem led_lt (lt : LtM L) : ∀ (l : List Str) (f : List Nat), (∀ k ∈ f, k < 3) → ∀ k ∈ l.foldl (stepM L) f, k < 3
  | [], f, hf => hf
  | x :: l, f, hf => led_lt lt l _ fun k hk => by
    obtain ⟨j, _, rfl⟩ := List.mem_map.mp hk
    exact lt x j
theorem led_len : ∀ (l : List Str) (f : List Nat), (l.foldl (stepM L) f).length = f.length
  | [], f => rfl
  | x :: l, f => by
    show (l.foldl (stepM L) (stepM L f x)).length = _
    rw [led_len l, stepM, List.length_map]
def Fits (L : Str → Option (List Nat)) (T : Fn) : Prop := ∀ x y r, T x y = some r → ledL L [x, y] = ledL L r
theorem led_fd {T : Fn} (lt : LtM L) (ft : Fits L T) {a b : List Str} (h : Fd T a b) : ledL L a = ledL L b := by
  cases h with
  | mk p q e =>
    rename_i x y r
    have z := ft _ _ _ e
    unfold ledL
    rw [show p ++ x :: y :: q = p ++ ([x, y] ++ q) from rfl, List.foldl_append, List.foldl_append, List.foldl_append, List.foldl_append]
    have lp := led_lt lt p [0, 1, 2] (by decide)
    rw [led_from lt [x, y] _ lp, led_from lt r _ lp, z]
theorem led_fds {T : Fn} (lt : LtM L) (ft : Fits L T) {a b : List Str} (h : Fds T a b) : ledL L a = ledL L b := by
  induction h with
  | refl => rfl
  | head s _ ih => exact (led_fd lt ft s).trans ih
end
/-! the functions -/
theorem map_ix {h : Hh} {m : List Nat} {k : Nat} (hk : k < m.length) : opIx h (mapD m) (.int (k : Nat)) = some (.int ((m.getD k 0 : Nat) : Int)) := by
  refine SeqD.ix (l := m.map fun k => D.int (k : Nat)) (.inl rfl) ?_
  unfold atI ixN
  rw [if_pos (by omega), if_pos (by rw [List.length_map]; omega)]
  show (m.map fun k => D.int (k : Nat))[(k : Int).toNat]? = _
  rw [Int.toNat_natCast, List.getElem?_map, List.getD_eq_getElem?_getD, List.getElem?_eq_getElem hk]
  rfl
theorem MapAt.ix {h : Hh} {t : Nat} {M : Mp} {x : Str} {m : List Nat} (e : MapAt h t M) (a : lookM M x = some m) : opIx h (.ref t) (.str x) = some (mapD m) := by
  have z : Lg.asD h (.ref t) = some (false, encM M) := by simp [Lg.asD, e]
  unfold opIx
  rw [z]
  simp only [show keyOk false (.str x) = true from rfl, if_true, look_encM, a]
  rfl
end L4
set_option Elab.async false
set_option linter.all false
set_option maxRecDepth 100000
set_option maxHeartbeats 2000000
namespace L4
open PySem PySem.Spec PyProof.Rows L2 Lg
open Lf (EndsOf Small Closed clashL isClash Fd Fds Net)
theorem strItem {ns : List Str} {i : Nat} {d : D} (hx : (ns.map D.str)[i]? = some d) : ∃ z, ns[i]? = some z ∧ d = .str z ∧ z ∈ ns := by
  rw [List.getElem?_map] at hx
  cases e : ns[i]? with
  | none => rw [e] at hx; cases hx
  | some u => rw [e] at hx; exact ⟨u, rfl, (Option.some.inj hx).symm, List.mem_of_getElem? e⟩
theorem Goes.app {M : Mp} (g : Goes M) {x : Str} {m : List Nat} (hm : Goes1 m) : Goes (M ++ [(x, m)]) := fun y r e => by
  rw [lookM_app] at e
  cases q : lookM M y with
  | some w => rw [q] at e; cases e; exact g y _ q
  | none =>
    rw [q] at e
    have e : (if x = y then some m else none) = some r := e
    by_cases c : x = y
    · rw [if_pos c] at e; cases e; exact hm
    · rw [if_neg c] at e; cases e
theorem dk_lt {n m : Nat} {k : Int} {h : Hh} (d : Deck n m k h) : n < h.length ∧ m < h.length := by
  obtain ⟨_, a, cs, e1, e2, _⟩ := d
  exact ⟨(List.getElem?_eq_some_iff.mp e1).1, (List.getElem?_eq_some_iff.mp e2).1⟩
theorem Deck.app {n m : Nat} {k : Int} {h : Hh} {o : O} (d : Deck n m k h) : Deck n m k (h ++ [o]) := by
  obtain ⟨l1, l2⟩ := dk_lt d
  obtain ⟨ne, a, cs, e1, e2, r⟩ := d
  exact ⟨ne, a, cs, by rw [List.getElem?_append_left l1]; exact e1, by rw [List.getElem?_append_left l2]; exact e2, r⟩
theorem Off.app {n m : Nat} {h : Hh} {o : O} : Off n m h (h ++ [o]) := ⟨by simp, fun i _ _ hi => List.getElem?_append_left hi⟩
/-! ### rows, pieces -/
theorem ne_strs {h : Hh} {cs : List Str} (ok : ∀ x ∈ cs, okT x) : opNe h (.lst (cs.map D.str)) (.lst []) = some (.bl (!cs.isEmpty)) := by
  have e1 : py h 66 (.lst (cs.map D.str)) = some (.list (cs.map PyData.str)) := by
    show ((cs.map D.str).mapM (py h 65)).map PyData.list = _
    rw [py_map (g := PyData.str) (fun _ => rfl)]
    rfl
  have f : Fine 1 (.list (cs.map PyData.str)) := Fine.lst (k := 0) fun d hd => by
    obtain ⟨x, hx, rfl⟩ := List.mem_map.mp hd
    exact Fine.str (ok x hx)
  unfold opNe
  rw [eqP_of e1 (rfl : py h 66 (.lst []) = some (.list [])) (f.shaped (by decide)) (by decide +kernel)]
  have z : PyData.eqv (.list (cs.map PyData.str)) (.list []) = cs.isEmpty := by
    cases cs <;> simp [PyData.eqv, PyData.eqvAll]
  simp [z]
theorem eq_row {h : Hh} {r s : List Str} (a : ∀ x ∈ r, okT x) (b : ∀ x ∈ s, okT x) : opEq h (rowD r) (rowD s) = some (.bl (decide (r = s))) := by
  unfold opEq
  rw [eqP_of (py_row r) (py_row s) ((fine_row a).shaped (by decide)) ((fine_row b).shaped (by decide)), eqv_row]
  rfl
theorem ne_row {h : Hh} {r s : List Str} (a : ∀ x ∈ r, okT x) (b : ∀ x ∈ s, okT x) : opNe h (rowD r) (rowD s) = some (.bl (!decide (r = s))) := by
  unfold opNe
  rw [eqP_of (py_row r) (py_row s) ((fine_row a).shaped (by decide)) ((fine_row b).shaped (by decide)), eqv_row]
  rfl
theorem row_last {h : Hh} {l : List Str} {x : Str} : opIx h (rowD (l ++ [x])) (.int (-1)) = some (.str x) := by
  refine SeqD.ix (l := (l ++ [x]).map D.str) (.inl rfl) ?_
  unfold atI ixN
  rw [if_neg (by decide), if_pos (by simp; omega)]
  show ((l ++ [x]).map D.str)[(-1 + (((l ++ [x]).map D.str).length : Int)).toNat]? = _
  have : (-1 + (((l ++ [x]).map D.str).length : Int)).toNat = l.length := by simp; omega
  rw [this]
  simp
theorem row_ok {n m t many : Nat} {k : Int} {h : Hh} {ns : List Str} {T : Tab} {Q : D → Hh → Prop} (dk : Deck n m k h) (hk : k + 1000 ≤ 1000000) (hn : ns.length ≤ 13) (n0 : 0 < ns.length) (ok : ∀ x ∈ ns, okT x) (tb : TabAt h t T) (tn : t ≠ n) (tm : t ≠ m) (hm : many ≤ 400)
    (q : ∀ l h' k', Off n m h h' → Deck n m k' h' → k' ≤ k + 2 * many → l.length = many → (∀ x ∈ l, x ∈ ns) → Q (rowD l) h') : Ok (F__law_row [.ref n, rowD ns, .ref t, .int many] h) Q := by
  unfold F__law_row f__law_row
  rw [w_callB]
  refine ⟨rfl, ?_⟩
  show OkS (gSeq _ _ [some (.ref n), some (rowD ns), some (.ref t), some (.int many), none, none, none, none, none] h) _
  refine s_det (s1 := [some (.ref n), some (rowD ns), some (.ref t), some (.int many), some (rowD []), none, none, none, none]) (h1 := h) ?_ ?_
  · simp only [Lg.w_ok, Lg.w_V, Lg.w_C, Lg.w_N, Lg.w_Co, Lg.w_op, Lg.w_B, Lg.w_CB, Lg.w_call, Lg.w_tup, Lg.w_lst, Lg.w_lstN, Lg.w_if, Lg.w_not, Lg.w_and, Lg.w_or, Lg.w_tru, Lg.w_pop, Lg.w_app, Lg.s_seq, Lg.s_nx, Lg.s_set, Lg.s_par, Lg.s_rt, Lg.s_rtN, Lg.s_ex, Lg.s_if, Lg.s_asg, Lg.w_sub, Lg.w_gN, Lg.w_callB, Lg.w_lc, Lg.w_lcN, Lg.w_sl, Lg.w_O0, Lg.w_O, Lg.w_revN, Lg.s_par3]
    refine ⟨?_, ?_, ?_⟩ <;> first | rfl | trivial
  have lt : t < h.length := (List.getElem?_eq_some_iff.mp tb).1
  refine s_cut (fun s' h' => ∃ v5 v6 v7 v8 l k', s' = [some (.ref n), some (rowD ns), some (.ref t), some (.int many), some (rowD l), v5, v6, v7, v8] ∧ Off n m h h' ∧ Deck n m k' h' ∧ k' ≤ k + 2 * many ∧ l.length = many ∧ ∀ x ∈ l, x ∈ ns) ?_ ?_
  · refine s_forR many (fun i s' h' => ∃ v5 v6 v7 v8 l k', s' = [some (.ref n), some (rowD ns), some (.ref t), some (.int many), some (rowD l), v5, v6, v7, v8] ∧ Off n m h h' ∧ Deck n m k' h' ∧ k' ≤ k + 2 * i ∧ l.length = i ∧ ∀ x ∈ l, x ∈ ns) ?_ ?_ fun _ _ z => z
    · simp only [Lg.w_ok, Lg.w_V, Lg.w_C, Lg.w_N, Lg.w_Co, Lg.w_op, Lg.w_B, Lg.w_CB, Lg.w_call, Lg.w_tup, Lg.w_lst, Lg.w_lstN, Lg.w_if, Lg.w_not, Lg.w_and, Lg.w_or, Lg.w_tru, Lg.w_pop, Lg.w_app, Lg.s_seq, Lg.s_nx, Lg.s_set, Lg.s_par, Lg.s_rt, Lg.s_rtN, Lg.s_ex, Lg.s_if, Lg.s_asg, Lg.w_sub, Lg.w_gN, Lg.w_callB, Lg.w_lc, Lg.w_lcN, Lg.w_sl, Lg.w_O0, Lg.w_O, Lg.w_revN, Lg.s_par3]
      exact ⟨_, rfl, ⟨_, rfl, by omega, by omega, by omega⟩, none, none, none, none, [], k, rfl, Off.refl, dk, by omega, rfl, by simp⟩
    · rintro i s1 h1 hi ⟨v5, v6, v7, v8, l, k', rfl, o1, d1, hk1, hl, hx⟩
      have tb1 : TabAt h1 t T := (o1.st _ tn tm lt).trans tb
      rw [w_gN]
      show OkS (gSeq _ _ [some (.ref n), some (rowD ns), some (.ref t), some (.int many), some (rowD l), some (.int i), v6, v7, v8] h1) _
      let p : Str → Bool := fun one => match l.getLast? with
        | some z => (lookT T z one).isSome
        | none => false
      refine s_det (s1 := [some (.ref n), some (rowD ns), some (.ref t), some (.int many), some (rowD l), some (.int i), some (.lst ((ns.filter p).map D.str)), v7, v8]) (h1 := h1) ?_ ?_
      · rw [s_set, w_lc]
        refine w_lcL (fun j acc h' => h' = h1 ∧ acc = ((ns.take j).filter p).map D.str) ?_
        unfold fWalk
        rw [w_bind, w_V]
        refine ⟨_, rfl, ?_⟩
        rw [w_ofO]
        refine ⟨wkL (ns.map D.str), rfl, ⟨rfl, rfl⟩, ?_, ?_⟩
        · rintro j acc h' hj ⟨rfl, rfl⟩
          have hj : j < (ns.map D.str).length := hj
          have hj' : j < ns.length := by simpa using hj
          have ej := List.getElem?_eq_getElem hj'
          generalize ns[j] = z at ej
          have fl := List.length_filter_le p (ns.take j)
          refine ⟨decide_eq_true (by rw [List.length_map]; rw [List.length_take] at fl; omega), .str z, by show (ns.map D.str)[j]? = _; rw [List.getElem?_map, ej]; rfl, ?_⟩
          rw [w_gN]
          show Ok (fAnd _ _ [some (.ref n), some (rowD ns), some (.ref t), some (.int many), some (rowD l), some (.int i), v6, some (.str z), v8] h') _
          have en : ns.take (j + 1) = ns.take j ++ [z] := by rw [List.take_add_one, ej]; rfl
          rw [en, List.filter_append, List.map_append]
          simp only [Lg.w_ok, Lg.w_V, Lg.w_C, Lg.w_N, Lg.w_Co, Lg.w_op, Lg.w_B, Lg.w_CB, Lg.w_call, Lg.w_tup, Lg.w_lst, Lg.w_lstN, Lg.w_if, Lg.w_not, Lg.w_and, Lg.w_or, Lg.w_tru, Lg.w_pop, Lg.w_app, Lg.s_seq, Lg.s_nx, Lg.s_set, Lg.s_par, Lg.s_rt, Lg.s_rtN, Lg.s_ex, Lg.s_if, Lg.s_asg, Lg.w_sub, Lg.w_gN, Lg.w_callB, Lg.w_lc, Lg.w_lcN, Lg.w_sl, Lg.w_O0, Lg.w_O, Lg.w_revN, Lg.s_par3]
          refine ⟨_, rfl, .bl (decide ((0 : Int) < i)), rfl, _, rfl, ?_⟩
          have last : ∀ b : Bool, p z = b → (if b = true then ∃ d, [some (D.ref n), some (rowD ns), some (.ref t), some (.int many), some (rowD l), some (.int i), v6, some (.str z), v8][7]? = some (some d) ∧ h' = h' ∧ ((ns.take j).filter p).map D.str ++ [d] = ((ns.take j).filter p).map D.str ++ (([z].filter p).map D.str) else h' = h' ∧ ((ns.take j).filter p).map D.str = ((ns.take j).filter p).map D.str ++ (([z].filter p).map D.str)) := fun b e => by
            cases b with
            | true => rw [if_pos rfl]; exact ⟨_, rfl, rfl, by simp [e]⟩
            | false => rw [if_neg Bool.false_ne_true]; exact ⟨rfl, by simp [e]⟩
          by_cases c : (0 : Int) < i
          · rw [if_pos (decide_eq_true c)]
            obtain ⟨l', u, rfl⟩ : ∃ l' u, l = l' ++ [u] := ⟨l.dropLast, l.getLast (by intro z; rw [z] at hl; simp at hl; omega), (List.dropLast_concat_getLast _).symm⟩
            refine ⟨_, rfl, ?_⟩
            rw [show fNeg (fC (.int 1)) [some (D.ref n), some (rowD ns), some (.ref t), some (.int many), some (rowD (l' ++ [u])), some (.int i), v6, some (.str z), v8] h' = .ok (.int (-1)) h' from rfl, w_ok]
            refine ⟨_, row_last, _, rfl, rfl, _, rfl, _, tb1.in_, _, rfl, ?_⟩
            have := last (lookT T u z).isSome (by show (match (l' ++ [u]).getLast? with | some z' => (lookT T z' z).isSome | none => false) = _; rw [List.getLast?_concat])
            exact this
          · rw [if_neg (by simpa using c)]
            have l0 : l = [] := List.length_eq_zero_iff.mp (by omega)
            subst l0
            rw [if_neg Bool.false_ne_true]
            have e0 : p z = false := rfl
            exact ⟨by first | rfl | trivial, by simp [e0]⟩
        · rintro acc h' ⟨rfl, rfl⟩
          have hn : (wkL (ns.map D.str)).n = ns.length := by show (ns.map D.str).length = _; simp
          rw [hn, List.take_length]
          exact ⟨rfl, rfl, rfl⟩
      generalize hg : ns.filter p = good
      have gn : ∀ x ∈ good, x ∈ ns := by rw [← hg]; exact fun x hx => (List.mem_filter.mp hx).1
      have gl : good.length ≤ ns.length := by rw [← hg]; exact List.length_filter_le _ _
      refine s_cut (fun s' h' => ∃ (v : Option Lg.D) (k2 : Int) (d : Lg.D) (so : List Str), s' = [some (.ref n), some (rowD ns), some (.ref t), some (.int many), some (rowD l), some (.int i), some (.lst (good.map D.str)), v, some d] ∧ Off n m h h' ∧ Deck n m k2 h' ∧ k2 ≤ k + 2 * i + 1 ∧ SeqD d (so.map D.str) ∧ 0 < so.length ∧ so.length ≤ 13 ∧ ∀ x ∈ so, x ∈ ns) ?_ ?_
      · rw [s_set, w_if, w_and, w_B, w_op, w_V]
        refine ⟨_, rfl, ?_⟩
        rw [w_lst, w_N]
        refine ⟨rfl, _, ne_strs fun x hx => ok x (gn x hx), _, rfl, ?_⟩
        by_cases c : good = []
        · subst c
          rw [if_neg (by simp), if_neg Bool.false_ne_true, w_V]
          exact ⟨_, rfl, _, k', _, ns, rfl, o1, d1, by omega, .inl rfl, n0, hn, fun x hx => hx⟩
        · rw [if_pos (by cases good with | nil => exact absurd rfl c | cons _ _ => rfl)]
          simp only [Lg.w_ok, Lg.w_V, Lg.w_C, Lg.w_N, Lg.w_Co, Lg.w_op, Lg.w_B, Lg.w_CB, Lg.w_call, Lg.w_tup, Lg.w_lst, Lg.w_lstN, Lg.w_if, Lg.w_not, Lg.w_and, Lg.w_or, Lg.w_tru, Lg.w_pop, Lg.w_app, Lg.s_seq, Lg.s_nx, Lg.s_set, Lg.s_par, Lg.s_rt, Lg.s_rtN, Lg.s_ex, Lg.s_if, Lg.s_asg, Lg.w_sub, Lg.w_gN, Lg.w_callB, Lg.w_lc, Lg.w_lcN, Lg.w_sl, Lg.w_O0, Lg.w_O, Lg.w_revN, Lg.s_par3]
          refine ⟨_, rfl, ?_⟩
          refine draw_ok d1 (by omega) (by decide) (by decide) fun r h3 o3 d3 r0 r1 => ?_
          refine ⟨.bl (decide ((0 : Int) < r)), rfl, _, rfl, ?_⟩
          by_cases c2 : (0 : Int) < r
          · rw [if_pos (decide_eq_true c2)]
            exact ⟨_, rfl, _, k' + 1, _, good, rfl, o1.trans o3, d3, by omega, .inr (.inl rfl), List.length_pos_iff.mpr c, by omega, gn⟩
          · rw [if_neg (by simpa using c2)]
            exact ⟨_, rfl, _, k' + 1, _, ns, rfl, o1.trans o3, d3, by omega, .inl rfl, n0, hn, fun x hx => hx⟩
      · rintro s2 h2 ⟨v, k2, d, so, rfl, o2, d2, hk2, sd, s0, s13, sn⟩
        rw [s_set, w_op, w_V]
        refine ⟨_, rfl, ?_⟩
        rw [w_tup, w_Co, w_call, w_Co, w_V]
        refine ⟨_, rfl, ?_⟩
        rw [w_Co, w_V]
        refine ⟨_, rfl, ?_⟩
        rw [w_N]
        refine pick_ok d2 (by omega) sd (by rw [List.length_map]; exact s0) (by rw [List.length_map]; omega) fun j d5 h5 e5 o5 dk5 => ?_
        obtain ⟨z, hz, rfl, mz⟩ := strItem e5
        rw [w_N]
        refine ⟨rfl, _, row_add (a := l) (b := [z]) (by simp; omega), _, _, _, _, l ++ [z], k2 + 1, rfl, o2.trans o5, dk5, by omega, by simp [hl], ?_⟩
        intro x hx'
        rcases List.mem_append.mp hx' with hx' | hx'
        · exact hx x hx'
        · rw [List.mem_singleton.mp hx']; exact sn z mz
  · rintro s' h' ⟨v5, v6, v7, v8, l, k', rfl, o1, d1, hk1, hl, hx⟩
    simp only [Lg.w_ok, Lg.w_V, Lg.w_C, Lg.w_N, Lg.w_Co, Lg.w_op, Lg.w_B, Lg.w_CB, Lg.w_call, Lg.w_tup, Lg.w_lst, Lg.w_lstN, Lg.w_if, Lg.w_not, Lg.w_and, Lg.w_or, Lg.w_tru, Lg.w_pop, Lg.w_app, Lg.s_seq, Lg.s_nx, Lg.s_set, Lg.s_par, Lg.s_rt, Lg.s_rtN, Lg.s_ex, Lg.s_if, Lg.s_asg, Lg.w_sub, Lg.w_gN, Lg.w_callB, Lg.w_lc, Lg.w_lcN, Lg.w_sl, Lg.w_O0, Lg.w_O, Lg.w_revN, Lg.s_par3]
    exact ⟨_, rfl, q l h' k' o1 d1 hk1 hl hx⟩
end L4
set_option Elab.async false
set_option linter.all false
set_option maxRecDepth 100000
set_option maxHeartbeats 2000000
namespace L4
open PySem PySem.Spec PyProof.Rows L2 Lg
open Lf (EndsOf Small Closed clashL isClash Fd Fds Net)
/-- rules go until none clashes; st: a state by the clash and the draw -/
theorem loop_ok {n m t ci ki : Nat} {k : Int} {h : Hh} {ns : List Str} {T : Tab} {st : Option D → Option D → S} {v : Option D} (Pr : Tab → Prop) (pd : ∀ T x y, Pr T → Pr (dropT T x y))
    (s0 : ∀ c d, (st c d)[0]? = some (some (.ref n))) (s1 : ∀ c d, (st c d)[1]? = some (some (rowD ns))) (s3 : ∀ c d, (st c d)[3]? = some (some (.ref t)))
    (sc : ∀ c d, (st c d)[ci]? = some c) (sk : ∀ c d, (st c d)[ki]? = some d) (ec : ∀ c d x, (st c d).set ci x = st x d) (ek : ∀ c d x, (st c d).set ki x = st c x)
    {h0 : Hh} (ht : h0.length ≤ t) (ln : n < h0.length) (lm : m < h0.length) (o0 : Off n m h0 h) (dk : Deck n m k h) (hk : k + 2000 ≤ 1000000) (ok : ∀ x ∈ ns, okT x) (tb : TabAt h t T) (tok : TabOk ns T) (hT : T.length ≤ 200) (pr : Pr T) :
    OkS (gWhile (fB (fOp (isB true) (fV ci) (fC .non))) (gSeq (gSet ki (fCall F__law_draw (fCo (fV 0) (fCo (fC (.int 2)) fN)))) (gSeq (gEx (fDpop (fV 3) (fSl (fV ci) (fO (fV ki)) (fO (fOp opAdd (fV ki) (fC (.int 2))))))) (gSet ci (fCall F__law_clash (fCo (fV 1) (fCo (fV 3) fN)))))) (st (some (clashD (clashL ns (lookT T)))) v) h)
      { nx := fun s' h' => ∃ c d T' k', s' = st c d ∧ Off n m h0 h' ∧ Deck n m k' h' ∧ k' ≤ k + 200 ∧ TabAt h' t T' ∧ TabOk ns T' ∧ T'.length ≤ 200 ∧ Pr T' ∧ clashL ns (lookT T') = none } := by
  refine s_while 200 (by unfold FUEL; omega) (fun f s' h' => ∃ (d : Option D) (T' : Tab) (k' : Int), s' = st (some (clashD (clashL ns (lookT T')))) d ∧ Off n m h0 h' ∧ Deck n m k' h' ∧ k' + T'.length ≤ k + 200 ∧ TabAt h' t T' ∧ TabOk ns T' ∧ T'.length ≤ f ∧ Pr T') ⟨v, T, k, rfl, o0, dk, by omega, tb, tok, hT, pr⟩ ?_
  rintro f s' h' hf ⟨v5, T', k', rfl, o, d, hk', tb, tok, hT, pr⟩
  have lt : t < h'.length := (List.getElem?_eq_some_iff.mp tb).1
  rw [w_B, w_op, w_V]
  refine ⟨_, sc _ _, ?_⟩
  rw [w_C]
  cases hc : clashL ns (lookT T') with
  | none =>
    refine ⟨.bl false, rfl, false, rfl, ?_⟩
    rw [if_neg Bool.false_ne_true]
    exact ⟨_, _, T', k', rfl, o, d, by omega, tb, tok, by omega, pr, hc⟩
  | some r =>
    refine ⟨.bl true, rfl, true, rfl, ?_⟩
    rw [if_pos rfl]
    obtain ⟨x, y, z, rfl, hx, hy, hz, ic⟩ := clashL_some hc
    obtain ⟨⟨r1, e1⟩, r2, e2⟩ := isClash_some ic
    rw [s_seq, s_set, w_call, w_Co, w_V]
    refine ⟨_, s0 _ _, ?_⟩
    rw [w_Co, w_C, w_N]
    refine draw_ok d (by omega) (by decide) (by decide) fun g h3 o3 d3 g0 g1 => ?_
    rw [ek]
    have tb3 : TabAt h3 t T' := (o3.st _ (by omega) (by omega) lt).trans tb
    have lt3 : t < h3.length := (List.getElem?_eq_some_iff.mp tb3).1
    have step : ∀ a b s, lookT T' a b = some s → opSl h3 (rowD [x, y, z]) (some g) (some (g + 2)) = some (.tup [.str a, .str b]) → OkS (gSeq (gEx (fDpop (fV 3) (fSl (fV ci) (fO (fV ki)) (fO (fOp opAdd (fV ki) (fC (.int 2))))))) (gSet ci (fCall F__law_clash (fCo (fV 1) (fCo (fV 3) fN)))) (st (some (clashD (some [x, y, z]))) (some (.int g))) h3)
        { nx := fun s h_1 => ∃ k_1, k_1 < f ∧ ∃ (d : Option D) (T' : Tab) (k' : Int), s = st (some (clashD (clashL ns (lookT T')))) d ∧ Off n m h0 h_1 ∧ Deck n m k' h_1 ∧ k' + T'.length ≤ k + 200 ∧ TabAt h_1 t T' ∧ TabOk ns T' ∧ T'.length ≤ k_1 ∧ Pr T' } := fun a b s es eo => by
      refine s_det (s1 := st (some (clashD (some [x, y, z]))) (some (.int g))) (h1 := h3.set t (.dic true (encT (dropT T' a b)))) ?_ ?_
      · rw [s_ex]
        refine w_dpop ?_
        rw [w_V]
        refine ⟨_, s3 _ _, t, true, encT T', rfl, tb3, ?_⟩
        rw [w_sl, w_V]
        refine ⟨_, sc _ _, ?_⟩
        rw [w_O, w_V]
        refine ⟨_, sk _ _, g, rfl, ?_⟩
        rw [w_O, w_op, w_V]
        refine ⟨_, sk _ _, ?_⟩
        rw [w_C]
        refine ⟨_, rfl, _, rfl, _, eo, true, encT T', rowD s, tb3, by rw [look_enc, es]; rfl, rfl, rfl, ?_⟩
        rw [drop_enc]
      · have tb4 : TabAt (h3.set t (.dic true (encT (dropT T' a b)))) t (dropT T' a b) := List.getElem?_set_self lt3
        have o4 : Off n m h0 (h3.set t (.dic true (encT (dropT T' a b)))) := off_new (h2 := h0) (o.trans o3) _ ht _
        have d4 : Deck n m (k' + 1) (h3.set t (.dic true (encT (dropT T' a b)))) := deck_new d3 (by omega) (by omega)
        generalize h3.set t (.dic true (encT (dropT T' a b))) = h4 at tb4 o4 d4 ⊢
        have dl := drop_len es
        rw [s_set, w_call, w_Co, w_V]
        refine ⟨_, s1 _ _, ?_⟩
        rw [w_Co, w_V]
        refine ⟨_, s3 _ _, ?_⟩
        rw [w_N]
        refine clash_ok tb4 tok.drop.small (tok.drop.closed ok) ok fun h5 kp5 => ?_
        exact ⟨(dropT T' a b).length, by omega, _, dropT T' a b, k' + 1, by rw [ec], o4.trans kp5.off, kp5.deck d4, by omega, kp5.tab tb4, tok.drop, Nat.le_refl _, pd _ _ _ pr⟩
    have g2 : g = 0 ∨ g = 1 := by omega
    rcases g2 with rfl | rfl
    · exact (step x y r1 e1 cut3.1).mono (fun _ _ w => w) (fun _ _ w => w.elim) (fun _ _ w => w.elim) fun _ _ w => w.elim
    · exact (step y z r2 e2 cut3.2).mono (fun _ _ w => w) (fun _ _ w => w.elim) (fun _ _ w => w.elim) fun _ _ w => w.elim
theorem fits_drop {L : Str → Option (List Nat)} : ∀ T x y, Fits L (lookT T) → Fits L (lookT (dropT T x y)) := fun T x y f a b r e => by
  rw [look_drop] at e
  by_cases d : (x, y) = (a, b)
  · rw [if_pos d] at e; cases e
  · rw [if_neg d] at e; exact f a b r e
theorem fits_put {L : Str → Option (List Nat)} {T : Tab} {x y : Str} {r : List Str} (f : Fits L (lookT T)) (e0 : ledL L [x, y] = ledL L r) : Fits L (lookT (putT T x y r)) := fun a b s e => by
  rw [look_put] at e
  by_cases d : (x, y) = (a, b)
  · rw [if_pos d] at e; cases e; cases d; exact e0
  · rw [if_neg d] at e; exact f a b s e
/-! tuples of ints -/
abbrev mapP (m : List Nat) : PyData := .tuple (m.map fun k => PyData.int (k : Nat))
theorem py_map3 {h : Hh} {n : Nat} (m : List Nat) : py h (n + 2) (mapD m) = some (mapP m) := by
  show ((m.map fun k => D.int (k : Nat)).mapM (py h (n + 1))).map PyData.tuple = _
  rw [py_map (g := fun k : Nat => PyData.int (k : Nat)) (fun _ => rfl)]
  rfl
theorem fine_map (m : List Nat) : Fine 1 (mapP m) := Fine.tup (k := 0) fun d hd => by
  obtain ⟨x, hx, rfl⟩ := List.mem_map.mp hd
  exact Fine.int _
theorem eqvAll_nat : ∀ r s : List Nat, PyData.eqvAll (r.map fun k => PyData.int (k : Nat)) (s.map fun k => PyData.int (k : Nat)) = decide (r = s)
  | [], [] => by simp [PyData.eqvAll]
  | [], y :: s => by simp [PyData.eqvAll]
  | x :: r, [] => by simp [PyData.eqvAll]
  | x :: r, y :: s => by
    simp only [List.map_cons, PyData.eqvAll, eqvAll_nat r s, PyData.eqv]
    by_cases h : x = y
    · subst h
      by_cases h2 : r = s
      · subst h2; simp
      · simp [h2]
    · have : ((x : Int) == (y : Int)) = false := beq_eq_false_iff_ne.mpr (by omega)
      rw [this]
      simp [h]
theorem eq_map {h : Hh} {r s : List Nat} : opEq h (mapD r) (mapD s) = some (.bl (decide (r = s))) := by
  unfold opEq
  rw [eqP_of (py_map3 r) (py_map3 s) ((fine_map r).shaped (by decide)) ((fine_map s).shaped (by decide))]
  unfold mapP
  rw [PyData.eqv, eqvAll_nat]
  rfl
end L4
set_option Elab.async false
set_option linter.all false
set_option maxRecDepth 100000
set_option maxHeartbeats 2000000
namespace Lg
open PySem PySem.Spec PyProof.Rows L2
section
variable {s : S} {h : Hh} {G : Gs} {fo fa fb fe f1 f2 : FE} {fs : FA} {P : D → Hh → Prop} {C m : Str} {F : List D → Hh → Oc D}
theorem w_meth (k : Ok (fo s h) fun d h1 => ∃ fl, insAt h1 C d = some fl ∧ fl.lookup m = none ∧ Ok (fs s h1) fun ds h2 => Ok (F (d :: ds) h2) P) : Ok (fMeth C m F fo fs s h) P := by
  unfold fMeth
  rw [w_bind]
  refine k.mono fun d h1 ⟨fl, e1, e2, z⟩ => ?_
  rw [e1]
  dsimp only
  rw [e2, if_neg (by simp), w_bind]
  exact z
theorem w_fld {f : Str} (k : Ok (fo s h) fun d h1 => ∃ fl v, insAt h1 C d = some fl ∧ fl.lookup f = some v ∧ P v h1) : Ok (Lg.fFld C f fo s h) P := by
  unfold Lg.fFld
  rw [w_bind]
  refine k.mono fun d h1 ⟨fl, v, e1, e2, z⟩ => ?_
  rw [e1]
  dsimp only
  rw [e2, ofO_some, w_ok]
  exact z
theorem w_get1 (k : Ok (fo s h) fun d h1 => ∃ t0 l0, asD h1 d = some (t0, l0) ∧ Ok (fe s h1) fun k h2 => ∃ t l, asD h2 d = some (t, l) ∧ keyOk t k = true ∧ P ((look l k).getD .non) h2) : Ok (fGet1 fo fe s h) P := by
  unfold fGet1
  rw [w_bind]
  refine k.mono fun d h1 ⟨t0, l0, e1, z⟩ => ?_
  rw [e1]
  simp only [Option.isSome_some, if_true]
  rw [w_bind]
  refine z.mono fun k h2 ⟨t, l, e2, e3, z⟩ => ?_
  rw [e2]
  dsimp only
  rw [if_pos e3, w_ok]
  exact z
theorem w_get2 (k : Ok (fo s h) fun d h1 => ∃ t0 l0, asD h1 d = some (t0, l0) ∧ Ok (f1 s h1) fun k h2 => Ok (f2 s h2) fun z h3 => ∃ t l, asD h3 d = some (t, l) ∧ keyOk t k = true ∧ P ((look l k).getD z) h3) : Ok (fGet2 fo f1 f2 s h) P := by
  unfold fGet2
  rw [w_bind]
  refine k.mono fun d h1 ⟨t0, l0, e1, z⟩ => ?_
  rw [e1]
  simp only [Option.isSome_some, if_true]
  rw [w_bind]
  refine z.mono fun k h2 z => ?_
  rw [w_bind]
  refine z.mono fun v h3 ⟨t, l, e2, e3, z⟩ => ?_
  rw [e2]
  dsimp only
  rw [if_pos e3, w_ok]
  exact z
theorem w_andV (k : Ok (fa s h) fun d h1 => ∃ b, d = .bl b ∧ if b = true then Ok (fb s h1) P else P (.bl false) h1) : Ok (fAndV fa fb s h) P := by
  unfold fAndV
  rw [w_bind]
  refine k.mono fun d h1 ⟨b, e, z⟩ => ?_
  subst e
  cases b with
  | true => exact z
  | false =>
    dsimp only
    rw [w_ok]
    exact z
theorem w_orV (k : Ok (fa s h) fun d h1 => ∃ b, d = .bl b ∧ if b = true then P (.bl true) h1 else Ok (fb s h1) P) : Ok (fOrV fa fb s h) P := by
  unfold fOrV
  rw [w_bind]
  refine k.mono fun d h1 ⟨b, e, z⟩ => ?_
  subst e
  cases b with
  | true =>
    dsimp only
    rw [w_ok]
    exact z
  | false => exact z
theorem w_notV (k : Ok (fa s h) fun d h1 => ∃ b, d = .bl b ∧ P (.bl (!b)) h1) : Ok (fNotV fa s h) P := by
  unfold fNotV
  rw [w_bind]
  refine k.mono fun d h1 ⟨b, e, z⟩ => ?_
  subst e
  dsimp only
  rw [w_ok]
  exact z
theorem w_isi {T : String} (k : Ok (fa s h) fun d h1 => ∃ t, tyD h1 d = some t ∧ P (.bl (isT t T)) h1) : Ok (fIsI T fa s h) P := by
  unfold fIsI
  rw [w_bind]
  refine k.mono fun d h1 ⟨t, e, z⟩ => ?_
  rw [e]
  dsimp only
  rw [w_ok]
  exact z
end
end Lg
namespace L4
open PySem PySem.Spec PyProof.Rows L2 Lg
open Lf (EndsOf Small Closed clashL isClash Fd Fds Net)
/-! ### the book -/
structure BookAt (h : Hh) (b : Nat) (ns : List Str) (T : Tab) : Prop where
  at_ : ∃ (R : D) (K : List (D × D)) (RT : Tab), h[b]? = some (.ins "Book" [("_entries", rowD ns), ("_rules", R), ("_known", .dic false K), ("_results", .dic true (encT RT))]) ∧ (∀ x, (look K (.str x)).isSome = decide (x ∈ ns)) ∧ ∀ x y, lookT RT x y = lookT T x y
theorem BookAt.kp {h h' : Hh} {b : Nat} {ns : List Str} {T : Tab} (k : Kp h h') (e : BookAt h b ns T) : BookAt h' b ns T := by
  obtain ⟨R, K, RT, e1, r⟩ := e
  exact ⟨R, K, RT, k.at_ e1, r⟩
theorem BookAt.off {h h' : Hh} {n m b : Nat} {ns : List Str} {T : Tab} (e : BookAt h b ns T) (o : Off n m h h') (bn : b ≠ n) (bm : b ≠ m) : BookAt h' b ns T := by
  obtain ⟨R, K, RT, e1, r⟩ := e
  exact ⟨R, K, RT, (o.st _ bn bm (List.getElem?_eq_some_iff.mp e1).1).trans e1, r⟩
theorem BookAt.set {h : Hh} {b j : Nat} {o : O} {ns : List Str} {T : Tab} (e : BookAt h b ns T) (n : j ≠ b) : BookAt (h.set j o) b ns T := by
  obtain ⟨R, K, RT, e1, r⟩ := e
  exact ⟨R, K, RT, by rw [List.getElem?_set_ne n]; exact e1, r⟩
theorem insAt_of {h : Hh} {b : Nat} {C : Str} {fs : List (Str × D)} (e : h[b]? = some (.ins C fs)) : insAt h C (.ref b) = some fs := by simp [insAt, e]
theorem BookAt.meth {h : Hh} {b : Nat} {ns : List Str} {T : Tab} (e : BookAt h b ns T) : ∃ fl, insAt h "Book" (.ref b) = some fl ∧ fl.lookup ("result" : Str) = none ∧ fl.lookup ("push" : Str) = none ∧ fl.lookup ("net" : Str) = none ∧ fl.lookup ("folds" : Str) = none ∧ fl.lookup ("folded" : Str) = none ∧ fl.lookup ("is_entry" : Str) = none ∧ fl.lookup ("is_net" : Str) = none := by
  obtain ⟨R, K, RT, e1, r⟩ := e
  exact ⟨_, insAt_of e1, rfl, rfl, rfl, rfl, rfl, rfl, rfl⟩
theorem BookAt.res {h : Hh} {b : Nat} {ns : List Str} {T : Tab} (e : BookAt h b ns T) : ∃ fl RT, insAt h "Book" (.ref b) = some fl ∧ fl.lookup ("_results" : Str) = some (.dic true (encT RT)) ∧ ∀ x y, lookT RT x y = lookT T x y := by
  obtain ⟨R, K, RT, e1, r⟩ := e
  exact ⟨_, RT, insAt_of e1, rfl, r.2⟩
theorem BookAt.known {h : Hh} {b : Nat} {ns : List Str} {T : Tab} (e : BookAt h b ns T) : ∃ fl K, insAt h "Book" (.ref b) = some fl ∧ fl.lookup ("_known" : Str) = some (.dic false K) ∧ ∀ x, (look K (.str x)).isSome = decide (x ∈ ns) := by
  obtain ⟨R, K, RT, e1, r⟩ := e
  exact ⟨_, K, insAt_of e1, rfl, r.1⟩
theorem result_ok {h : Hh} {b : Nat} {ns : List Str} {T : Tab} {x y : Str} {Q : D → Hh → Prop} (e : BookAt h b ns T) (q : Q (clashD (lookT T x y)) h) : Ok (F_Book_result [.ref b, .str x, .str y] h) Q := by
  unfold F_Book_result f_Book_result
  rw [w_callB]
  refine ⟨rfl, ?_⟩
  show OkS (gRt _ [some (.ref b), some (.str x), some (.str y)] h) _
  obtain ⟨fl, RT, i1, i2, i3⟩ := e.res
  rw [s_rt]
  refine w_get1 ?_
  refine w_fld ?_
  rw [w_V]
  refine ⟨_, rfl, fl, _, i1, i2, true, encT RT, rfl, ?_⟩
  simp only [Lg.w_ok, Lg.w_V, Lg.w_C, Lg.w_N, Lg.w_Co, Lg.w_op, Lg.w_B, Lg.w_CB, Lg.w_call, Lg.w_tup, Lg.w_lst, Lg.w_lstN, Lg.w_if, Lg.w_not, Lg.w_and, Lg.w_or, Lg.w_tru, Lg.w_pop, Lg.w_app, Lg.s_seq, Lg.s_nx, Lg.s_set, Lg.s_par, Lg.s_rt, Lg.s_rtN, Lg.s_ex, Lg.s_if, Lg.s_asg, Lg.w_sub, Lg.w_gN, Lg.w_callB, Lg.w_lc, Lg.w_lcN, Lg.w_sl, Lg.w_O0, Lg.w_O, Lg.w_revN, Lg.s_par3]
  refine ⟨_, rfl, _, rfl, rfl, true, encT RT, rfl, rfl, ?_⟩
  rw [look_enc, i3]
  have : ((lookT T x y).map rowD).getD .non = clashD (lookT T x y) := by cases lookT T x y <;> rfl
  rw [this]
  exact q
theorem folds_ok {h : Hh} {b : Nat} {ns : List Str} {T : Tab} {l : List Str} {Q : D → Hh → Prop} (e : BookAt h b ns T) (hl : l.length < 1000000) (q : Q (.tup ((spotsL T l).map fun i => D.int (i : Nat))) h) : Ok (F_Book_folds [.ref b, rowD l] h) Q := by
  obtain ⟨fl, RT, i1, i2, i3⟩ := e.res
  unfold F_Book_folds f_Book_folds
  rw [w_callB]
  refine ⟨rfl, ?_⟩
  show OkS (gRt _ [some (.ref b), some (rowD l), none] h) _
  rw [s_rt, w_CB, w_Co, w_lc]
  refine w_lcL (fun i acc h' => h' = h ∧ acc = ((List.range i).filter (spotAt T l)).map fun i => D.int (i : Nat)) ?_
  rw [w_rng]
  simp only [Lg.w_ok, Lg.w_V, Lg.w_C, Lg.w_N, Lg.w_Co, Lg.w_op, Lg.w_B, Lg.w_CB, Lg.w_call, Lg.w_tup, Lg.w_lst, Lg.w_lstN, Lg.w_if, Lg.w_not, Lg.w_and, Lg.w_or, Lg.w_tru, Lg.w_pop, Lg.w_app, Lg.s_seq, Lg.s_nx, Lg.s_set, Lg.s_par, Lg.s_rt, Lg.s_rtN, Lg.s_ex, Lg.s_if, Lg.s_asg, Lg.w_sub, Lg.w_gN, Lg.w_callB, Lg.w_lc, Lg.w_lcN, Lg.w_sl, Lg.w_O0, Lg.w_O, Lg.w_revN, Lg.s_par3]
  refine ⟨_, rfl, _, _, SeqD.len (l := l.map D.str) (.inl rfl), _, rfl, _, rfl, decide_eq_true ⟨by rw [List.length_map]; omega, by rw [List.length_map]; omega⟩, ⟨rfl, by simp⟩, ?_, ?_⟩
  · rintro i acc h' hi ⟨rfl, rfl⟩
    have hn : i < ((l.map D.str).length - 1 : Int).toNat := hi
    rw [List.length_map] at hn
    have h1 : i < l.length := by omega
    have h2 : i + 1 < l.length := by omega
    have e1 := List.getElem?_eq_getElem h1
    have e2 := List.getElem?_eq_getElem h2
    refine ⟨decide_eq_true ?_, .int (0 + i), ?_, ?_⟩
    · have := List.length_filter_le (spotAt T l) (List.range i)
      rw [List.length_map]
      rw [List.length_range] at this
      omega
    · show (if i < _ then some (D.int (0 + i)) else none) = _
      exact if_pos hi
    · rw [Int.zero_add]
      refine ⟨_, rfl, _, rfl, _, row_ix e1, _, rfl, _, rfl, _, rfl, _, (row_ix (i := i + 1) e2 : opIx h' (rowD l) (.int ((i : Int) + 1)) = some (.str l[i + 1])), rfl, ?_⟩
      refine w_fld ?_
      rw [w_V]
      refine ⟨_, rfl, fl, _, i1, i2, .bl (lookT T l[i] l[i + 1]).isSome, ?_, _, rfl, ?_⟩
      · have : isIn h' (.tup [.str l[i], .str l[i + 1]]) (.dic true (encT RT)) = some (look (encT RT) (.tup [.str l[i], .str l[i + 1]])).isSome := rfl
        show (isIn h' (.tup [.str l[i], .str l[i + 1]]) (.dic true (encT RT))).map D.bl = _
        rw [this, look_enc, i3]
        cases lookT T l[i] l[i + 1] <;> rfl
      · have sp : spotAt T l i = (lookT T l[i] l[i + 1]).isSome := by
          unfold spotAt
          rw [e1, e2]
        rw [← sp, List.range_succ, List.filter_append]
        cases c : spotAt T l i with
        | true =>
          rw [if_pos rfl]
          exact ⟨_, rfl, rfl, by simp [c]⟩
        | false =>
          rw [if_neg Bool.false_ne_true]
          exact ⟨rfl, by simp [c]⟩
  · rintro acc h' ⟨rfl, rfl⟩
    refine ⟨rfl, ?_⟩
    have z : (wkI 0 ((l.map D.str).length - 1 : Int).toNat).n = l.length - 1 := by
      show ((l.map D.str).length - 1 : Int).toNat = _
      rw [List.length_map]
      omega
    rw [z]
    exact ⟨_, _, rfl, q⟩
end L4
set_option Elab.async false
set_option linter.all false
set_option maxRecDepth 100000
set_option maxHeartbeats 2000000
namespace L4
open PySem PySem.Spec PyProof.Rows L2 Lg
open Lf (EndsOf Small Closed clashL isClash Fd Fds Net)
theorem net_left {L : Fn} : ∀ {p q : List Str}, Net L (p ++ q) → Net L p
  | [], q, _ => trivial
  | [x], q, _ => trivial
  | x :: y :: l, q, h => ⟨h.1, net_left (p := y :: l) h.2⟩
theorem net_add {L : Fn} : ∀ {p : List Str} {x e : Str}, Net L (p ++ [x]) → L x e = none → Net L (p ++ [x] ++ [e])
  | [], x, e, _, z => ⟨z, trivial⟩
  | [a], x, e, h, z => ⟨h.1, z, trivial⟩
  | a :: b :: l, x, e, h, z => ⟨h.1, net_add (p := b :: l) h.2 z⟩
theorem set_same {h : Hh} {i : Nat} {o : O} (e : h[i]? = some o) : h.set i o = h := by
  obtain ⟨hi, e⟩ := List.getElem?_eq_some_iff.mp e
  rw [← e]
  exact List.set_getElem_self hi
theorem push_ok {h : Hh} {b kp : Nat} {ns l : List Str} {T : Tab} {e : Str} {Q : D → Hh → Prop} (bk : BookAt h b ns T) (hk : h[kp]? = some (.lst (l.map D.str))) (ne : kp ≠ b) (hl : l.length ≤ 1000000) (nl : Net (lookT T) l) (tok : TabOk ns T) (ok : ∀ x ∈ ns, okT x)
    (q : ∀ r, Fds (lookT T) (l ++ [e]) r → Net (lookT T) r → Q .non (h.set kp (.lst (r.map D.str)))) : Ok (F_Book_push [.ref b, .ref kp, .str e] h) Q := by
  have lk : kp < h.length := (List.getElem?_eq_some_iff.mp hk).1
  unfold F_Book_push f_Book_push
  rw [w_callB]
  refine ⟨rfl, ?_⟩
  show OkS (gSeq _ _ [some (.ref b), some (.ref kp), some (.str e), none] h) _
  refine s_cut (fun s' h' => ∃ l' e' v3, s' = [some (.ref b), some (.ref kp), some (.str e'), v3] ∧ h' = h.set kp (.lst (l'.map D.str)) ∧ Fds (lookT T) (l ++ [e]) (l' ++ [e']) ∧ Net (lookT T) (l' ++ [e']) ∧ l'.length ≤ l.length) ?_ ?_
  · refine s_while l.length (by unfold FUEL; omega) (fun f s' h' => ∃ l' e' v3, s' = [some (.ref b), some (.ref kp), some (.str e'), v3] ∧ h' = h.set kp (.lst (l'.map D.str)) ∧ Fds (lookT T) (l ++ [e]) (l' ++ [e']) ∧ Net (lookT T) l' ∧ l'.length = f) ⟨l, e, none, rfl, (set_same hk).symm, .refl _, nl, rfl⟩ ?_
    rintro f s' h' hf ⟨l', e', v3, rfl, rfl, fd, n1, rfl⟩
    have hk' : (h.set kp (.lst (l'.map D.str)))[kp]? = some (.lst (l'.map D.str)) := List.getElem?_set_self lk
    have bk' : BookAt (h.set kp (.lst (l'.map D.str))) b ns T := bk.set ne
    have st : Lg.asS (h.set kp (.lst (l'.map D.str))) (.ref kp) = some (l'.map D.str) := by simp [Lg.asS, asL, hk']
    have tr : truD (h.set kp (.lst (l'.map D.str))) (.ref kp) = some (!(l'.map D.str).isEmpty) := by
      unfold truD
      dsimp only
      rw [st]
    rw [w_tru, w_V]
    refine ⟨_, rfl, _, tr, ?_⟩
    by_cases c : l' = []
    · subst c
      rw [if_neg (by simp)]
      exact ⟨[], e', v3, rfl, rfl, fd, trivial, Nat.zero_le _⟩
    · obtain ⟨p, x, rfl⟩ : ∃ p x, l' = p ++ [x] := ⟨l'.dropLast, l'.getLast c, (List.dropLast_concat_getLast c).symm⟩
      rw [if_pos (by simp)]
      generalize hh : h.set kp (.lst ((p ++ [x]).map D.str)) = h1 at hk' bk' st tr
      have back : ∀ o, h1.set kp o = h.set kp o := fun o => by rw [← hh]; simp
      refine s_det (s1 := [some (.ref b), some (.ref kp), some (.str e'), some (clashD (lookT T x e'))]) (h1 := h1) ?_ ?_
      · rw [s_set]
        refine w_meth ?_
        rw [w_V]
        obtain ⟨fl, i1, i2, _⟩ := bk'.meth
        refine ⟨_, rfl, fl, i1, i2, ?_⟩
        rw [w_Co, w_op, w_V]
        refine ⟨_, rfl, ?_⟩
        rw [show fNeg (fC (.int 1)) [some (D.ref b), some (.ref kp), some (.str e'), v3] h1 = .ok (.int (-1)) h1 from rfl, w_ok]
        refine ⟨.str x, ?_, ?_⟩
        · refine opIx_ref hk' ?_
          unfold atI ixN
          rw [if_neg (by decide), if_pos (by simp; omega)]
          show ((p ++ [x]).map D.str)[(-1 + (((p ++ [x]).map D.str).length : Int)).toNat]? = _
          have : (-1 + (((p ++ [x]).map D.str).length : Int)).toNat = p.length := by simp; omega
          rw [this]
          simp
        simp only [Lg.w_ok, Lg.w_V, Lg.w_C, Lg.w_N, Lg.w_Co, Lg.w_op, Lg.w_B, Lg.w_CB, Lg.w_call, Lg.w_tup, Lg.w_lst, Lg.w_lstN, Lg.w_if, Lg.w_not, Lg.w_and, Lg.w_or, Lg.w_tru, Lg.w_pop, Lg.w_app, Lg.s_seq, Lg.s_nx, Lg.s_set, Lg.s_par, Lg.s_rt, Lg.s_rtN, Lg.s_ex, Lg.s_if, Lg.s_asg, Lg.w_sub, Lg.w_gN, Lg.w_callB, Lg.w_lc, Lg.w_lcN, Lg.w_sl, Lg.w_O0, Lg.w_O, Lg.w_revN, Lg.s_par3]
        exact ⟨_, rfl, result_ok bk' ⟨rfl, rfl⟩⟩
      rw [s_seq, s_if, w_B, w_op, w_V]
      refine ⟨_, rfl, ?_⟩
      rw [w_C]
      cases hr : lookT T x e' with
      | none =>
        refine ⟨.bl true, rfl, true, rfl, ?_⟩
        rw [if_pos rfl]
        rw [show ∀ s h, gBk s h = .bk s h from fun _ _ => rfl]
        unfold OkS
        refine ⟨p ++ [x], e', _, rfl, hh.symm, fd, net_add n1 hr, hf⟩
      | some r =>
        refine ⟨.bl false, rfl, false, rfl, ?_⟩
        rw [if_neg Bool.false_ne_true, s_nx]
        have tk := tok.ok x e' r hr
        have fold : Fds (lookT T) (l ++ [e]) (p ++ r) := fd.trans (by
          have := Lf.Fd.mk (L := lookT T) p [] hr
          rw [List.append_nil] at this
          rw [List.append_assoc]
          exact .one this)
        refine s_det (s1 := [some (.ref b), some (.ref kp), some (.str e'), some (rowD r)]) (h1 := h.set kp (.lst (p.map D.str))) ?_ ?_
        · simp only [Lg.w_ok, Lg.w_V, Lg.w_C, Lg.w_N, Lg.w_Co, Lg.w_op, Lg.w_B, Lg.w_CB, Lg.w_call, Lg.w_tup, Lg.w_lst, Lg.w_lstN, Lg.w_if, Lg.w_not, Lg.w_and, Lg.w_or, Lg.w_tru, Lg.w_pop, Lg.w_app, Lg.s_seq, Lg.s_nx, Lg.s_set, Lg.s_par, Lg.s_rt, Lg.s_rtN, Lg.s_ex, Lg.s_if, Lg.s_asg, Lg.w_sub, Lg.w_gN, Lg.w_callB, Lg.w_lc, Lg.w_lcN, Lg.w_sl, Lg.w_O0, Lg.w_O, Lg.w_revN, Lg.s_par3]
          refine ⟨_, rfl, kp, (p ++ [x]).map D.str, .str x, rfl, hk', by simp, rfl, ?_⟩
          rw [back]
          simp
        have np : Net (lookT T) p := net_left n1
        rw [s_seq, s_if, w_B, w_op, w_V]
        refine ⟨_, rfl, ?_⟩
        rw [show ∀ s h, fTup fN s h = .ok (rowD []) h from fun _ _ => rfl, w_ok]
        refine ⟨_, eq_row (fun z hz => ok z (tk.2.2.2 z hz)) (by simp), _, rfl, ?_⟩
        by_cases c2 : r = []
        · subst c2
          rw [if_pos (by decide), s_rtN]
          rw [List.append_nil] at fold
          exact q p fold np
        · obtain ⟨z, rfl⟩ : ∃ z, r = [z] := by
            match r, c2, tk.2.2.1 with
            | [z], _, _ => exact ⟨z, rfl⟩
            | [], c, _ => exact absurd rfl c
            | _ :: _ :: _, _, h => simp at h
          rw [decide_eq_false c2, if_neg Bool.false_ne_true, s_nx]
          simp only [Lg.w_ok, Lg.w_V, Lg.w_C, Lg.w_N, Lg.w_Co, Lg.w_op, Lg.w_B, Lg.w_CB, Lg.w_call, Lg.w_tup, Lg.w_lst, Lg.w_lstN, Lg.w_if, Lg.w_not, Lg.w_and, Lg.w_or, Lg.w_tru, Lg.w_pop, Lg.w_app, Lg.s_seq, Lg.s_nx, Lg.s_set, Lg.s_par, Lg.s_rt, Lg.s_rtN, Lg.s_ex, Lg.s_if, Lg.s_asg, Lg.w_sub, Lg.w_gN, Lg.w_callB, Lg.w_lc, Lg.w_lcN, Lg.w_sl, Lg.w_O0, Lg.w_O, Lg.w_revN, Lg.s_par3]
          refine ⟨_, rfl, _, row_ix (l := [z]) (i := 0) rfl, p.length, by simp, p, z, _, rfl, rfl, fold, np, rfl⟩
  · rintro s' h' ⟨l', e', v3, rfl, rfl, fd, n1, hl'⟩
    have hk' : (h.set kp (.lst (l'.map D.str)))[kp]? = some (.lst (l'.map D.str)) := List.getElem?_set_self lk
    simp only [Lg.w_ok, Lg.w_V, Lg.w_C, Lg.w_N, Lg.w_Co, Lg.w_op, Lg.w_B, Lg.w_CB, Lg.w_call, Lg.w_tup, Lg.w_lst, Lg.w_lstN, Lg.w_if, Lg.w_not, Lg.w_and, Lg.w_or, Lg.w_tru, Lg.w_pop, Lg.w_app, Lg.s_seq, Lg.s_nx, Lg.s_set, Lg.s_par, Lg.s_rt, Lg.s_rtN, Lg.s_ex, Lg.s_if, Lg.s_asg, Lg.w_sub, Lg.w_gN, Lg.w_callB, Lg.w_lc, Lg.w_lcN, Lg.w_sl, Lg.w_O0, Lg.w_O, Lg.w_revN, Lg.s_par3]
    refine ⟨_, rfl, kp, _, rfl, hk', _, rfl, _, hk', decide_eq_true (by rw [List.length_map]; omega), ?_⟩
    have := q _ fd n1
    simpa using this
theorem netB_ok {h : Hh} {b : Nat} {ns row : List Str} {T : Tab} {Q : D → Hh → Prop} (bk : BookAt h b ns T) (hl : row.length ≤ 1000) (tok : TabOk ns T) (ok : ∀ x ∈ ns, okT x)
    (q : ∀ r h', Kp h h' → Fds (lookT T) row r → Net (lookT T) r → Q (rowD r) h') : Ok (F_Book_net [.ref b, rowD row] h) Q := by
  have lb : b < h.length := by
    obtain ⟨R, K, RT, e1, r⟩ := bk
    exact (List.getElem?_eq_some_iff.mp e1).1
  unfold F_Book_net f_Book_net
  rw [w_callB]
  refine ⟨rfl, ?_⟩
  show OkS (gSeq _ _ [some (.ref b), some (rowD row), none, none] h) _
  refine s_det (s1 := [some (.ref b), some (rowD row), some (.ref h.length), none]) (h1 := h ++ [.lst (([] : List Str).map D.str)]) ?_ ?_
  · simp only [Lg.w_ok, Lg.w_V, Lg.w_C, Lg.w_N, Lg.w_Co, Lg.w_op, Lg.w_B, Lg.w_CB, Lg.w_call, Lg.w_tup, Lg.w_lst, Lg.w_lstN, Lg.w_if, Lg.w_not, Lg.w_and, Lg.w_or, Lg.w_tru, Lg.w_pop, Lg.w_app, Lg.s_seq, Lg.s_nx, Lg.s_set, Lg.s_par, Lg.s_rt, Lg.s_rtN, Lg.s_ex, Lg.s_if, Lg.s_asg, Lg.w_sub, Lg.w_gN, Lg.w_callB, Lg.w_lc, Lg.w_lcN, Lg.w_sl, Lg.w_O0, Lg.w_O, Lg.w_revN, Lg.s_par3]
    exact ⟨rfl, rfl, rfl⟩
  refine s_cut (fun s' h' => ∃ v3 r, s' = [some (.ref b), some (rowD row), some (.ref h.length), v3] ∧ h' = h ++ [.lst (r.map D.str)] ∧ Fds (lookT T) row r ∧ Net (lookT T) r) ?_ ?_
  · refine s_forL (l := row.map D.str) (fun i s' h' => ∃ v3 r, s' = [some (.ref b), some (rowD row), some (.ref h.length), v3] ∧ h' = h ++ [.lst (r.map D.str)] ∧ Fds (lookT T) (row.take i) r ∧ Net (lookT T) r) ?_ ?_ ?_
    · simp only [Lg.w_ok, Lg.w_V, Lg.w_C, Lg.w_N, Lg.w_Co, Lg.w_op, Lg.w_B, Lg.w_CB, Lg.w_call, Lg.w_tup, Lg.w_lst, Lg.w_lstN, Lg.w_if, Lg.w_not, Lg.w_and, Lg.w_or, Lg.w_tru, Lg.w_pop, Lg.w_app, Lg.s_seq, Lg.s_nx, Lg.s_set, Lg.s_par, Lg.s_rt, Lg.s_rtN, Lg.s_ex, Lg.s_if, Lg.s_asg, Lg.w_sub, Lg.w_gN, Lg.w_callB, Lg.w_lc, Lg.w_lcN, Lg.w_sl, Lg.w_O0, Lg.w_O, Lg.w_revN, Lg.s_par3]
      exact ⟨_, rfl, .inl rfl, none, [], rfl, rfl, .refl _, trivial⟩
    · rintro i d s1 h1 hi ⟨v3, r, rfl, rfl, fd, nr⟩
      obtain ⟨x, hx, rfl, mx⟩ := strItem hi
      rw [w_gN]
      show OkS (gEx _ [some (.ref b), some (rowD row), some (.ref h.length), some (.str x)] (h ++ [.lst (r.map D.str)])) _
      have hk : (h ++ [O.lst (r.map D.str)])[h.length]? = some (.lst (r.map D.str)) := by simp
      have bk' : BookAt (h ++ [O.lst (r.map D.str)]) b ns T := bk.kp ⟨by simp, fun i hi => List.getElem?_append_left hi⟩
      have fl' : r.length ≤ row.length := by
        have := fd.le tok.small
        rw [List.length_take] at this
        omega
      rw [s_ex]
      refine w_meth ?_
      rw [w_V]
      obtain ⟨fl, i1, i2, i3, _⟩ := bk'.meth
      refine ⟨_, rfl, fl, i1, i3, ?_⟩
      simp only [Lg.w_ok, Lg.w_V, Lg.w_C, Lg.w_N, Lg.w_Co, Lg.w_op, Lg.w_B, Lg.w_CB, Lg.w_call, Lg.w_tup, Lg.w_lst, Lg.w_lstN, Lg.w_if, Lg.w_not, Lg.w_and, Lg.w_or, Lg.w_tru, Lg.w_pop, Lg.w_app, Lg.s_seq, Lg.s_nx, Lg.s_set, Lg.s_par, Lg.s_rt, Lg.s_rtN, Lg.s_ex, Lg.s_if, Lg.s_asg, Lg.w_sub, Lg.w_gN, Lg.w_callB, Lg.w_lc, Lg.w_lcN, Lg.w_sl, Lg.w_O0, Lg.w_O, Lg.w_revN, Lg.s_par3]
      refine ⟨_, rfl, _, rfl, ?_⟩
      refine push_ok bk' hk (by omega) (by omega) nr tok ok fun r' fd' nr' => ?_
      refine ⟨some (.str x), r', rfl, by simp, ?_, nr'⟩
      rw [List.take_add_one, hx]
      show Fds _ (row.take i ++ [x]) r'
      have := fd.ctx [] [x]
      simp only [List.nil_append] at this
      exact this.trans fd'
    · rintro s1 h1 ⟨v3, r, rfl, rfl, fd, nr⟩
      rw [List.length_map, List.take_length] at fd
      exact ⟨v3, r, rfl, rfl, fd, nr⟩
  · rintro s' h' ⟨v3, r, rfl, rfl, fd, nr⟩
    simp only [Lg.w_ok, Lg.w_V, Lg.w_C, Lg.w_N, Lg.w_Co, Lg.w_op, Lg.w_B, Lg.w_CB, Lg.w_call, Lg.w_tup, Lg.w_lst, Lg.w_lstN, Lg.w_if, Lg.w_not, Lg.w_and, Lg.w_or, Lg.w_tru, Lg.w_pop, Lg.w_app, Lg.s_seq, Lg.s_nx, Lg.s_set, Lg.s_par, Lg.s_rt, Lg.s_rtN, Lg.s_ex, Lg.s_if, Lg.s_asg, Lg.w_sub, Lg.w_gN, Lg.w_callB, Lg.w_lc, Lg.w_lcN, Lg.w_sl, Lg.w_O0, Lg.w_O, Lg.w_revN, Lg.s_par3]
    refine ⟨_, rfl, rowD r, h ++ [.lst (r.map D.str)], ?_, q r _ ⟨by simp, fun i hi => List.getElem?_append_left hi⟩ fd nr⟩
    show (asF (h ++ [O.lst (r.map D.str)]) (.ref h.length)).map (fun l => (D.tup l, h ++ [O.lst (r.map D.str)])) = _
    have : asF (h ++ [O.lst (r.map D.str)]) (.ref h.length) = some (r.map D.str) := by simp [asF, asL]
    rw [this]
    rfl
theorem isEntry_ok {h : Hh} {b : Nat} {ns : List Str} {T : Tab} {x : Str} {Q : D → Hh → Prop} (bk : BookAt h b ns T) (hx : x ∈ ns) (q : Q (.bl true) h) : Ok (F_Book_is_entry [.ref b, .str x] h) Q := by
  obtain ⟨fl, K, i1, i2, i3⟩ := bk.known
  unfold F_Book_is_entry f_Book_is_entry
  rw [w_callB]
  refine ⟨rfl, ?_⟩
  show OkS (gRt _ [some (.ref b), some (.str x)] h) _
  rw [s_rt, w_call, w_Co, w_V]
  refine ⟨_, rfl, ?_⟩
  rw [w_Co]
  refine w_fld ?_
  rw [w_V]
  refine ⟨_, rfl, fl, _, i1, i2, ?_⟩
  rw [w_N]
  unfold F_is_known f_is_known
  rw [w_callB]
  refine ⟨rfl, ?_⟩
  show OkS (gRt _ [some (.str x), some (.dic false K)] h) _
  rw [s_rt]
  refine w_andV ?_
  refine w_isi ?_
  rw [w_V]
  refine ⟨_, rfl, "str", rfl, true, rfl, ?_⟩
  rw [if_pos rfl]
  simp only [Lg.w_ok, Lg.w_V, Lg.w_C, Lg.w_N, Lg.w_Co, Lg.w_op, Lg.w_B, Lg.w_CB, Lg.w_call, Lg.w_tup, Lg.w_lst, Lg.w_lstN, Lg.w_if, Lg.w_not, Lg.w_and, Lg.w_or, Lg.w_tru, Lg.w_pop, Lg.w_app, Lg.s_seq, Lg.s_nx, Lg.s_set, Lg.s_par, Lg.s_rt, Lg.s_rtN, Lg.s_ex, Lg.s_if, Lg.s_asg, Lg.w_sub, Lg.w_gN, Lg.w_callB, Lg.w_lc, Lg.w_lcN, Lg.w_sl, Lg.w_O0, Lg.w_O, Lg.w_revN, Lg.s_par3]
  refine ⟨_, rfl, _, rfl, .bl true, ?_, q⟩
  show (isIn h (.str x) (.dic false K)).map D.bl = _
  have : isIn h (.str x) (.dic false K) = some (look K (.str x)).isSome := rfl
  rw [this, (i3 x).trans (decide_eq_true hx)]
  rfl
theorem bls_true : ∀ n : Nat, bls (List.replicate n (D.bl true)) = some (List.replicate n true)
  | 0 => rfl
  | n + 1 => by
    unfold bls
    rw [List.replicate_succ, List.mapM_cons]
    show (do let bs ← bls (List.replicate n (D.bl true)); some (true :: bs)) = _
    rw [bls_true n]
    rfl
theorem all_true {h : Hh} {n : Nat} : bAll [.lst (List.replicate n (D.bl true))] h = some (.bl true, h) := by
  show ((asF h (.lst (List.replicate n (D.bl true)))).bind bls).map (fun bs => (D.bl (bs.all id), h)) = _
  rw [show asF h (.lst (List.replicate n (D.bl true))) = some (List.replicate n (D.bl true)) from rfl, Option.bind_some, bls_true]
  simp
theorem isNet_ok {h : Hh} {b : Nat} {ns r : List Str} {T : Tab} {Q : D → Hh → Prop} (bk : BookAt h b ns T) (hl : r.length ≤ 1000) (hr : ∀ x ∈ r, x ∈ ns) (nr : Net (lookT T) r) (q : Q (.bl true) h) : Ok (F_Book_is_net [.ref b, rowD r] h) Q := by
  unfold F_Book_is_net f_Book_is_net
  rw [w_callB]
  refine ⟨rfl, ?_⟩
  show OkS (gSeq _ _ [some (.ref b), some (rowD r), none] h) _
  refine s_det (s1 := [some (.ref b), some (rowD r), none]) (h1 := h) ?_ ?_
  · rw [s_if, w_not, w_B]
    refine w_isi ?_
    rw [w_V]
    refine ⟨_, rfl, "tuple", rfl, true, rfl, ?_⟩
    rw [if_neg (by decide), s_nx]
    exact ⟨rfl, rfl⟩
  rw [s_rt]
  refine w_andV ?_
  obtain ⟨fl, i1, i2, i3, i4, i5, i6, i7, i8⟩ := bk.meth
  rw [w_CB, w_Co, w_lc]
  refine w_lcL (fun j acc h' => h' = h ∧ acc = List.replicate j (D.bl true)) ?_
  unfold fWalk
  rw [w_bind, w_V]
  refine ⟨_, rfl, ?_⟩
  rw [w_ofO]
  refine ⟨wkL (r.map D.str), rfl, ⟨rfl, rfl⟩, ?_, ?_⟩
  · rintro j acc h' hj ⟨rfl, rfl⟩
    have hj : j < (r.map D.str).length := hj
    have hj' : j < r.length := by simpa using hj
    have ej := List.getElem?_eq_getElem hj'
    have mz : r[j] ∈ r := List.getElem_mem hj'
    generalize r[j] = z at ej mz
    refine ⟨decide_eq_true (by rw [List.length_replicate]; omega), .str z, by show (r.map D.str)[j]? = _; rw [List.getElem?_map, ej]; rfl, ?_⟩
    rw [w_gN]
    rw [show ∀ s, fYes s h' = .ok true h' from fun _ => rfl, w_ok, if_pos rfl]
    show Ok (fMeth _ _ _ _ _ [some (.ref b), some (rowD r), some (.str z)] h') _
    refine w_meth ?_
    rw [w_V]
    refine ⟨_, rfl, fl, i1, i7, ?_⟩
    simp only [Lg.w_ok, Lg.w_V, Lg.w_C, Lg.w_N, Lg.w_Co, Lg.w_op, Lg.w_B, Lg.w_CB, Lg.w_call, Lg.w_tup, Lg.w_lst, Lg.w_lstN, Lg.w_if, Lg.w_not, Lg.w_and, Lg.w_or, Lg.w_tru, Lg.w_pop, Lg.w_app, Lg.s_seq, Lg.s_nx, Lg.s_set, Lg.s_par, Lg.s_rt, Lg.s_rtN, Lg.s_ex, Lg.s_if, Lg.s_asg, Lg.w_sub, Lg.w_gN, Lg.w_callB, Lg.w_lc, Lg.w_lcN, Lg.w_sl, Lg.w_O0, Lg.w_O, Lg.w_revN, Lg.s_par3]
    refine ⟨_, rfl, isEntry_ok bk (hr z mz) ⟨by first | rfl | trivial, ?_⟩⟩
    rw [List.replicate_succ']
  · rintro acc h' ⟨rfl, rfl⟩
    refine ⟨rfl, ?_⟩
    rw [w_N]
    refine ⟨_, _, all_true, true, rfl, ?_⟩
    rw [if_pos rfl, w_op]
    refine w_meth ?_
    rw [w_V]
    refine ⟨_, rfl, fl, i1, i5, ?_⟩
    simp only [Lg.w_ok, Lg.w_V, Lg.w_C, Lg.w_N, Lg.w_Co, Lg.w_op, Lg.w_B, Lg.w_CB, Lg.w_call, Lg.w_tup, Lg.w_lst, Lg.w_lstN, Lg.w_if, Lg.w_not, Lg.w_and, Lg.w_or, Lg.w_tru, Lg.w_pop, Lg.w_app, Lg.s_seq, Lg.s_nx, Lg.s_set, Lg.s_par, Lg.s_rt, Lg.s_rtN, Lg.s_ex, Lg.s_if, Lg.s_asg, Lg.w_sub, Lg.w_gN, Lg.w_callB, Lg.w_lc, Lg.w_lcN, Lg.w_sl, Lg.w_O0, Lg.w_O, Lg.w_revN, Lg.s_par3]
    refine ⟨_, rfl, folds_ok bk (by omega) ⟨rfl, ?_⟩⟩
    have e0 : spotsL T r = [] := by
      have := Lf.net_spots.mp nr
      rwa [spots_M] at this
    rw [e0]
    exact ⟨.bl true, eq_row (r := []) (s := []) (by simp) (by simp), q⟩
end L4
set_option Elab.async false
set_option linter.all false
set_option maxRecDepth 100000
set_option maxHeartbeats 2000000
namespace L4
open PySem PySem.Spec PyProof.Rows L2 Lg
open Lf (EndsOf Small Closed clashL isClash Fd Fds Net)
theorem isInt_ok {h : Hh} {i : Int} {Q : D → Hh → Prop} (q : Q (.bl true) h) : Ok (F_is_integer [.int i] h) Q := by
  unfold F_is_integer f_is_integer
  rw [w_callB]
  refine ⟨rfl, ?_⟩
  show OkS (gRt _ [some (.int i)] h) _
  rw [s_rt]
  refine w_andV ?_
  refine w_isi ?_
  rw [w_V]
  refine ⟨_, rfl, "int", rfl, true, rfl, ?_⟩
  rw [if_pos rfl]
  refine w_notV ?_
  refine w_isi ?_
  rw [w_V]
  exact ⟨_, rfl, "int", rfl, false, rfl, q⟩
theorem in_spots {h : Hh} {ks : List Nat} {k : Nat} (hk : k ∈ ks) : opNiS h (.int k) (mapD ks) = some (.bl false) := by
  have fl : (ks.map fun k => D.int (k : Nat)).all flatD = true := by
    rw [List.all_eq_true]
    intro d hd
    obtain ⟨j, _, rfl⟩ := List.mem_map.mp hd
    rfl
  have an : ((ks.map fun k => D.int (k : Nat)).any fun e => eqF e (.int k)) = true := by
    rw [List.any_eq_true]
    exact ⟨.int k, List.mem_map.mpr ⟨k, hk, rfl⟩, by simp [eqF]⟩
  unfold opNiS isInS isIn
  rw [show setAt h (mapD ks) = none from rfl]
  dsimp only
  rw [show Lg.asD h (mapD ks) = none from rfl]
  dsimp only
  rw [show Lg.asS h (mapD ks) = some (ks.map fun k => D.int (k : Nat)) from rfl]
  dsimp only
  rw [fl, an]
  rfl
theorem ne_map {h : Hh} {r s : List Nat} : opNe h (mapD r) (mapD s) = some (.bl (!decide (r = s))) := by
  unfold opNe
  rw [eqP_of (py_map3 r) (py_map3 s) ((fine_map r).shaped (by decide)) ((fine_map s).shaped (by decide))]
  unfold mapP
  rw [PyData.eqv, eqvAll_nat]
  rfl
theorem folded_ok {h : Hh} {b k : Nat} {ns l : List Str} {T : Tab} {Q : D → Hh → Prop} (bk : BookAt h b ns T) (hl : l.length < 1000000) (hk : spotAt T l k = true) (tok : TabOk ns T) (q : Q (rowD (onceL T l k)) h) : Ok (F_Book_folded [.ref b, rowD l, .int k] h) Q := by
  have hk0 := hk
  unfold spotAt at hk
  cases e1 : l[k]? with
  | none => rw [e1] at hk; cases hk
  | some x =>
    cases e2 : l[k + 1]? with
    | none => rw [e1, e2] at hk; cases hk
    | some y =>
      rw [e1, e2] at hk
      obtain ⟨r, er⟩ := Option.isSome_iff_exists.mp hk
      have sr := (tok.ok x y r er).2.2.1
      have v : onceL T l k = l.take k ++ r ++ l.drop (k + 2) := by
        unfold onceL
        rw [e1, e2]
        dsimp only
        rw [er]
        rfl
      rw [v] at q
      have hk1 : k + 1 < l.length := (List.getElem?_eq_some_iff.mp e2).1
      have mk : k ∈ spotsL T l := List.mem_filter.mpr ⟨List.mem_range.mpr (by omega), hk0⟩
      obtain ⟨fl, i1, i2, i3, i4, i5, i6, i7, i8⟩ := bk.meth
      unfold F_Book_folded f_Book_folded
      rw [w_callB]
      refine ⟨rfl, ?_⟩
      show OkS (gSeq _ _ [some (.ref b), some (rowD l), some (.int k)] h) _
      refine s_det (s1 := [some (.ref b), some (rowD l), some (.int k)]) (h1 := h) ?_ ?_
      · rw [s_if, w_or, w_not, w_B, w_call, w_Co, w_V]
        refine ⟨_, rfl, ?_⟩
        rw [w_N]
        refine isInt_ok ⟨true, rfl, ?_⟩
        rw [if_neg (by decide), w_B, w_op, w_V]
        refine ⟨_, rfl, ?_⟩
        refine w_meth ?_
        rw [w_V]
        refine ⟨_, rfl, fl, i1, i5, ?_⟩
        rw [w_Co, w_V]
        refine ⟨_, rfl, ?_⟩
        rw [w_N]
        refine folds_ok bk hl ⟨.bl false, in_spots mk, false, rfl, ?_⟩
        rw [if_neg Bool.false_ne_true, s_nx]
        exact ⟨rfl, rfl⟩
      have t1 : (l.take k).length ≤ l.length := by rw [List.length_take]; omega
      have t2 : (l.drop (k + 2)).length ≤ l.length := by rw [List.length_drop]; omega
      rw [s_rt, w_op, w_op, w_sl, w_V]
      refine ⟨_, rfl, ?_⟩
      rw [w_O0, w_O, w_V]
      refine ⟨_, rfl, _, rfl, _, row_to, ?_⟩
      refine w_meth ?_
      rw [w_V]
      refine ⟨_, rfl, fl, i1, i2, ?_⟩
      simp only [Lg.w_ok, Lg.w_V, Lg.w_C, Lg.w_N, Lg.w_Co, Lg.w_op, Lg.w_B, Lg.w_CB, Lg.w_call, Lg.w_tup, Lg.w_lst, Lg.w_lstN, Lg.w_if, Lg.w_not, Lg.w_and, Lg.w_or, Lg.w_tru, Lg.w_pop, Lg.w_app, Lg.s_seq, Lg.s_nx, Lg.s_set, Lg.s_par, Lg.s_rt, Lg.s_rtN, Lg.s_ex, Lg.s_if, Lg.s_asg, Lg.w_sub, Lg.w_gN, Lg.w_callB, Lg.w_lc, Lg.w_lcN, Lg.w_sl, Lg.w_O0, Lg.w_O, Lg.w_revN, Lg.s_par3]
      refine ⟨_, rfl, _, rfl, _, row_ix e1, _, rfl, _, rfl, _, rfl, _, (row_ix (i := k + 1) e2 : opIx h (rowD l) (.int ((k : Int) + 1)) = some (.str y)), ?_⟩
      refine result_ok bk ?_
      rw [er]
      exact ⟨_, row_add (by omega), _, rfl, _, rfl, _, rfl, _, rfl, _, (row_from (k := k + 2) : opSl h (rowD l) (some ((k : Int) + 2)) none = _), _, row_add (by rw [List.length_append]; omega), q⟩
end L4
set_option Elab.async false
set_option linter.all false
set_option maxRecDepth 100000
set_option maxHeartbeats 2000000
namespace L4
open PySem PySem.Spec PyProof.Rows L2 Lg
open Lf (EndsOf Small Closed clashL isClash Fd Fds Net)
theorem lst_to {h : Hh} {us : List (List Str)} {k : Nat} : opSl h (.lst (us.map rowD)) none (some (k : Int)) = some (.lst ((us.take k).map rowD)) := by
  show some (D.lst (Lg.cutD (us.map rowD) none (some (k : Int)))) = _
  rw [cut_to, ← List.map_take]
theorem lst_from {h : Hh} {us : List (List Str)} {k : Nat} : opSl h (.lst (us.map rowD)) (some (k : Int)) none = some (.lst ((us.drop k).map rowD)) := by
  show some (D.lst (Lg.cutD (us.map rowD) (some (k : Int)) none)) = _
  rw [cut_from, ← List.map_drop]
theorem lst_add {h : Hh} {us vs : List (List Str)} (z : us.length + vs.length ≤ 16000000) : opAdd h (.lst (us.map rowD)) (.lst (vs.map rowD)) = some (.lst ((us ++ vs).map rowD)) := by
  show (if line ((us.map rowD).length + (vs.map rowD).length) then some (D.lst (us.map rowD ++ vs.map rowD)) else none) = _
  rw [List.length_map, List.length_map, show line (us.length + vs.length) = true from decide_eq_true z, if_pos rfl, ← List.map_append]
theorem lst_ix {h : Hh} {us : List (List Str)} {i : Nat} {u : List Str} (e : us[i]? = some u) : opIx h (.lst (us.map rowD)) (.int i) = some (rowD u) := by
  refine SeqD.ix (l := us.map rowD) (.inr (.inl rfl)) ?_
  have hi : i < us.length := (List.getElem?_eq_some_iff.mp e).1
  unfold atI ixN
  rw [if_pos (by omega), if_pos (by rw [List.length_map]; omega)]
  show (us.map rowD)[(i : Int).toNat]? = _
  rw [Int.toNat_natCast, List.getElem?_map, e]
  rfl
end L4
set_option Elab.async false
set_option linter.all false
set_option maxRecDepth 100000
set_option maxHeartbeats 2000000
namespace Lg
open PySem PySem.Spec PyProof.Rows L2
/-! ### data that can be shown -/
structure Good (k B : Nat) (d : PyData) : Prop where
  fine : Fine k d
  sh : d.showable = true
  ls : d.leavesShort 8 = true
  wt : d.weight ≤ B
theorem Good.mono {k B j C : Nat} {d : PyData} (h : Good k B d) (a : k ≤ j) (b : B ≤ C) : Good j C d := ⟨h.fine.mono a, h.sh, h.ls, Nat.le_trans h.wt b⟩
theorem oks_small {x : Str} (h : PyData.strOk x = true) : ∀ c ∈ x.cps.toList, c < 16 ^ 8 := fun c hc => by
  have h : x.cps.all (· < 0x110000) = true := h
  rw [← Array.all_toList, List.all_eq_true] at h
  have := of_decide_eq_true (h c hc)
  exact Nat.lt_trans this (by decide)
theorem Good.str {x : Str} (h : PyData.strOk x = true) (l : x.cps.size ≤ 8) : Good 0 8 (.str x) :=
  ⟨Fine.str h, by simp [PyData.showable], by simpa only [PyData.leavesShort, List.all_eq_true, decide_eq_true_eq] using oks_small h, by simpa only [PyData.weight] using l⟩
theorem goodAll {k B : Nat} : ∀ {ds : List PyData}, (∀ d ∈ ds, Good k B d) → PyData.showableAll ds = true ∧ PyData.leavesShortAll 8 ds = true ∧ PyData.weightAll ds ≤ ds.length * (B + 1)
  | [], _ => ⟨by simp [PyData.showableAll], by simp [PyData.leavesShortAll], by simp [PyData.weightAll]⟩
  | d :: ds, h => by
    obtain ⟨h1, h2, h3⟩ := goodAll fun e he => h e (List.mem_cons_of_mem _ he)
    have g := h d List.mem_cons_self
    refine ⟨by rw [PyData.showableAll, h1, g.sh]; rfl, by rw [PyData.leavesShortAll, h2, g.ls]; rfl, ?_⟩
    have := g.wt
    simp only [PyData.weightAll, List.length_cons, Nat.succ_mul]
    omega
theorem Good.lst {k B : Nat} {ds : List PyData} (h : ∀ d ∈ ds, Good k B d) : Good (k + 1) (ds.length * (B + 1)) (.list ds) := by
  obtain ⟨h1, h2, h3⟩ := goodAll h
  exact ⟨Fine.lst fun d hd => (h d hd).fine, by simpa only [PyData.showable] using h1, by simpa only [PyData.leavesShort] using h2, by simpa only [PyData.weight] using h3⟩
theorem Good.tup {k B : Nat} {ds : List PyData} (h : ∀ d ∈ ds, Good k B d) : Good (k + 1) (ds.length * (B + 1)) (.tuple ds) := by
  obtain ⟨h1, h2, h3⟩ := goodAll h
  exact ⟨Fine.tup fun d hd => (h d hd).fine, by simpa only [PyData.showable] using h1, by simpa only [PyData.leavesShort] using h2, by simpa only [PyData.weight] using h3⟩
theorem Good.showOk {k B : Nat} {d : PyData} (g : Good k B d) (hk : k ≤ 60) (hB : B ≤ 2 ^ 20) : showOk d = true := by
  unfold Lg.showOk
  have h1 : d.depth ≤ 60 := Nat.le_trans g.fine.2 hk
  have h3 : d.shown.length ≤ 16000000 := by
    have := PyData.shown_le 8 (by decide) d g.ls
    have w := Nat.le_trans g.wt hB
    omega
  rw [g.fine.1, g.sh, decide_eq_true h1, decide_eq_true h3]
  rfl
end Lg

namespace L4
open PySem PySem.Spec PyProof.Rows L2 Lg
open Lf (EndsOf Small Closed clashL isClash Fd Fds Net)
def okN (x : Str) : Prop := okT x ∧ x.cps.size ≤ 8
theorem pool_okN : ∀ x ∈ POOL, okN x := by
  have : ∀ x ∈ POOL, PyData.strOk x = true ∧ x.cps.size ≤ 8 := by decide +kernel
  exact this
theorem one_due {ns lot r s : List Str} {T : Tab} (tok : TabOk ns T) (hc : clashL ns (lookT T) = none) (hl : ∀ x ∈ lot, x ∈ ns) (a : Fds (lookT T) lot r) (b : Net (lookT T) r) (c : Fds (lookT T) lot s) (d : Net (lookT T) s) : r = s :=
  Lf.one_net (P := fun x => x ∈ ns) tok.small (fun x y w e z hz => (tok.ok x y w e).2.2.2 z hz) (fun x y z hx hy hz => Lf.clashL_none hc x y z hx hy hz) lot.length lot (Nat.le_refl _) hl r s a b c d
theorem repr_same {h : Hh} {d : D} {p : PyData} {k B : Nat} (e : py h 66 d = some p) (g : Good k B p) (hk : k ≤ 60) (hB : B ≤ 2 ^ 20) : bRepr [d] h = some (D.str p.shown, h) := by
  show (match py h 66 d with
    | some p => if showOk p then some (D.str p.shown, h) else none
    | none => none) = _
  rw [e]
  dsimp only
  rw [g.showOk hk hB, if_pos rfl]
end L4
set_option Elab.async false
set_option linter.all false
set_option maxRecDepth 100000
set_option maxHeartbeats 2000000
namespace Lg
open PySem PySem.Spec PyProof.Rows L2
section
variable {s : S} {h : Hh} {G : Gs} {fo fa fb fe fk fv : FE} {fs : FA} {ft : FT} {fg : FG} {P : D → Hh → Prop} {C m : Str} {F : List D → Hh → Oc D}
theorem w_dcL {t : Bool} {fi : FI} {own : List Nat} {T : List (D × D) → Hh → Prop} (I : Nat → List (D × D) → Hh → Prop)
    (x : Ok (fi s h) fun wk h1 => I 0 [] h1 ∧ (∀ i acc h, i < wk.n → I i acc h → line acc.length = true ∧ ∃ d, wk.at_ h i = some d ∧ Ok (fg d (wipeD s own) h) fun s1 h1 => Ok (ft s1 h1) fun c h2 => if c = true then Ok (fk s1 h2) fun k h3 => Ok (fv s1 h3) fun v h4 => keyOk t k = true ∧ I (i + 1) (put acc k v) h4 else I (i + 1) acc h2) ∧ ∀ acc h, I wk.n acc h → wk.fin h = true ∧ T acc h) : Ok (fDcL t fi fg ft fk fv own s h) T := by
  unfold fDcL
  rw [w_bind]
  refine x.mono fun wk h1 ⟨i0, turn, fin⟩ => ?_
  have go : ∀ m i acc h, i + m = wk.n → I i acc h → Ok (dcLoop t wk fg ft fk fv (wipeD s own) m i acc h) T := by
    intro m
    induction m with
    | zero =>
      intro i acc h e hI
      have ei : i = wk.n := e
      subst ei
      unfold dcLoop
      obtain ⟨f1, f2⟩ := fin acc h hI
      rw [f1, if_pos rfl, w_ok]
      exact f2
    | succ m ih =>
      intro i acc h e hI
      obtain ⟨ln, d, e1, e2⟩ := turn i acc h (by omega) hI
      unfold dcLoop
      rw [e1]
      dsimp only
      cases q1 : fg d (wipeD s own) h with
      | ok s1 h1 =>
        rw [q1, w_ok] at e2
        simp only [Oc.bindN_ok]
        cases q2 : ft s1 h1 with
        | ok c h2 =>
          rw [q2, w_ok] at e2
          simp only [Oc.bindN_ok]
          cases c with
          | false => exact ih (i + 1) acc h2 (by omega) (by simpa using e2)
          | true =>
            simp only [if_true] at e2 ⊢
            cases q3 : fk s1 h2 with
            | ok k h3 =>
              rw [q3, w_ok] at e2
              simp only [Oc.bindN_ok]
              cases q4 : fv s1 h3 with
              | ok v h4 =>
                rw [q4, w_ok] at e2
                simp only [Oc.bindN_ok, ln, e2.1, Bool.and_self, if_true]
                exact ih (i + 1) _ h4 (by omega) e2.2
              | ex y h4 => rw [q4, w_ex] at e2; exact e2.elim
              | no => rw [q4, w_no] at e2; exact e2.elim
            | ex y h3 => rw [q3, w_ex] at e2; exact e2.elim
            | no => rw [q3, w_no] at e2; exact e2.elim
        | ex y h2 => rw [q2, w_ex] at e2; exact e2.elim
        | no => rw [q2, w_no] at e2; exact e2.elim
      | ex y h1 => rw [q1, w_ex] at e2; exact e2.elim
      | no => rw [q1, w_no] at e2; exact e2.elim
  exact go wk.n 0 [] h1 (by omega) i0
theorem w_dc {t : Bool} {fi : FI} {own : List Nat} : Ok (fDc t fi fg ft fk fv own s h) P = Ok (fDcL t fi fg ft fk fv own s h) fun l h1 => P (.dic t l) h1 := by
  unfold fDc
  rw [w_bind]
  simp only [w_ok]
theorem w_gTup {is : List Nat} {d : D} {l : List D} {T : S → Hh → Prop} (e : asT h d = some l) (n : l.length = is.length) (q : T (sets is l s) h) : Ok (gTup is d s h) T := by
  unfold gTup
  rw [e]
  dsimp only
  rw [if_pos n, w_ok]
  exact q
theorem w_setd (k : Ok (fo s h) fun d h1 => ∃ n l0, d = .ref n ∧ h1[n]? = some (.dic false l0) ∧ Ok (fk s h1) fun k h2 => Ok (fv s h2) fun v h3 => ∃ l, h3[n]? = some (.dic false l) ∧ keyOk false k = true ∧ line l.length = true ∧ (match look l k with | some u => P u h3 | none => P v (h3.set n (.dic false (put l k v))))) : Ok (fSetd fo fk fv s h) P := by
  unfold fSetd
  rw [w_bind]
  refine k.mono fun d h1 ⟨n, l0, e1, e2, z⟩ => ?_
  subst e1
  dsimp only
  rw [e2]
  dsimp only
  rw [w_bind]
  refine z.mono fun k h2 z => ?_
  rw [w_bind]
  refine z.mono fun v h3 ⟨l, e3, e4, e5, z⟩ => ?_
  rw [e3]
  dsimp only
  rw [e4, e5]
  simp only [Bool.and_self, if_true]
  cases q : look l k with
  | some u => rw [q] at z; rw [w_ok]; exact z
  | none => rw [q] at z; rw [w_ok]; exact z
theorem w_callS {N : List Str} {n : Nat} {g : FS} {ds : List D} : Ok (callS N n g ds h) P = ((n ≤ ds.length ∧ line ds.length = true) ∧ OkS (g (startD N (ds.take n ++ [.tup (ds.drop n)])) h) { nx := fun _ h => P .non h, rt := P }) := by
  unfold callS
  by_cases hn : n ≤ ds.length ∧ line ds.length = true
  · rw [if_pos hn]
    cases q : g (startD N (ds.take n ++ [.tup (ds.drop n)])) h <;> (unfold Os.fin Ok OkS; simp [hn])
  · rw [if_neg hn, w_no]
    simp [hn]
theorem w_CSt {l : List D} {PA : List D → Hh → Prop} (k : Ok (fa s h) fun d h1 => d = .tup l ∧ Ok (fs s h1) fun ds h2 => PA (l ++ ds) h2) : Ok (fCS fa fs s h) PA := by
  unfold fCS
  rw [w_bind]
  refine k.mono fun d h1 ⟨e, z⟩ => ?_
  subst e
  rw [show asF h1 (.tup l) = none from rfl]
  dsimp only
  rw [w_bind]
  simp only [w_ok]
  exact z
end
end Lg
namespace L4
open PySem PySem.Spec PyProof.Rows L2 Lg
open Lf (EndsOf Small Closed clashL isClash Fd Fds Net nf2)
/-! ### the program's tables -/
def resT (T0 : Tab) (rs : Tab) : Tab := rs.foldl (fun T e => putT T e.1.1 e.1.2 e.2) T0
theorem look_resT {T : Tab} {a b : Str} : ∀ (rs T0 : Tab), (∀ e ∈ rs, lookT T e.1.1 e.1.2 = some e.2) → lookT (resT T0 rs) a b = if (a, b) ∈ rs.map (·.1) then lookT T a b else lookT T0 a b
  | [], T0, _ => by simp [resT]
  | ((x, y), r) :: rs, T0, hc => by
    show lookT (resT (putT T0 x y r) rs) a b = _
    rw [look_resT rs _ fun e he => hc e (List.mem_cons_of_mem _ he), look_put]
    have h0 : lookT T x y = some r := hc _ List.mem_cons_self
    by_cases c : (a, b) ∈ rs.map (·.1)
    · rw [if_pos c, if_pos (by rw [List.map_cons]; exact List.mem_cons_of_mem _ c)]
    · rw [if_neg c]
      by_cases d : (x, y) = (a, b)
      · rw [if_pos d, if_pos (by rw [List.map_cons, ← d]; exact List.mem_cons_self)]
        cases d
        exact h0.symm
      · rw [if_neg d, if_neg]
        rw [List.map_cons, List.mem_cons]
        rintro (w | w)
        · exact d w.symm
        · exact c w
theorem resT_len : ∀ (rs T0 : Tab), (resT T0 rs).length ≤ T0.length + rs.length
  | [], T0 => Nat.le_refl _
  | e :: rs, T0 => by
    have := resT_len rs (putT T0 e.1.1 e.1.2 e.2)
    have p := put_len (T := T0) (x := e.1.1) (y := e.1.2) (r := e.2)
    show (resT (putT T0 e.1.1 e.1.2 e.2) rs).length ≤ _
    rw [List.length_cons]
    omega
theorem rule_item {rs : Tab} {i : Nat} {d : D} (hx : (rs.map ruleD)[i]? = some d) : ∃ e, rs[i]? = some e ∧ d = ruleD e ∧ e ∈ rs := by
  rw [List.getElem?_map] at hx
  cases e : rs[i]? with
  | none => rw [e] at hx; cases hx
  | some u => rw [e] at hx; exact ⟨u, rfl, (Option.some.inj hx).symm, List.mem_of_getElem? e⟩
theorem results_ok {h : Hh} {rs : Tab} {Q : D → Hh → Prop} (hl : rs.length ≤ 1000) (q : Q (.dic true (encT (resT [] rs))) h) : Ok (F_results_of [.tup (rs.map ruleD)] h) Q := by
  unfold F_results_of f_results_of
  rw [w_callB]
  refine ⟨rfl, ?_⟩
  show OkS (gRt _ [some (.tup (rs.map ruleD)), none, none, none] h) _
  rw [s_rt, w_dc]
  refine w_dcL (fun i acc h' => h' = h ∧ acc = encT (resT [] (rs.take i))) ?_
  unfold fWalk
  rw [w_bind, w_V]
  refine ⟨_, rfl, ?_⟩
  rw [w_ofO]
  refine ⟨wkL (rs.map ruleD), rfl, ⟨rfl, rfl⟩, ?_, ?_⟩
  · rintro i acc h' hi ⟨rfl, rfl⟩
    have hi : i < (rs.map ruleD).length := hi
    have hi' : i < rs.length := by simpa using hi
    have ei := List.getElem?_eq_getElem hi'
    generalize rs[i] = e at ei
    have le := resT_len (rs.take i) []
    rw [List.length_take, List.length_nil] at le
    refine ⟨decide_eq_true (by unfold encT; rw [List.length_map]; omega), ruleD e, by show (rs.map ruleD)[i]? = _; rw [List.getElem?_map, ei]; rfl, ?_⟩
    refine w_gTup rfl rfl ?_
    rw [show ∀ s, fYes s h' = .ok true h' from fun _ => rfl, w_ok, if_pos rfl]
    show Ok (fTup _ [some (.tup (rs.map ruleD)), some (.str e.1.1), some (.str e.1.2), some (rowD e.2)] h') _
    rw [w_tup, w_Co, w_V]
    refine ⟨_, rfl, ?_⟩
    rw [w_Co, w_V]
    refine ⟨_, rfl, ?_⟩
    rw [w_N]
    refine ⟨rfl, ?_⟩
    rw [w_V]
    refine ⟨_, rfl, rfl, rfl, ?_⟩
    rw [put_enc, List.take_add_one, ei]
    show _ = encT (List.foldl _ [] (rs.take i ++ [e]))
    rw [List.foldl_append]
    rfl
  · rintro acc h' ⟨rfl, rfl⟩
    have hn : (wkL (rs.map ruleD)).n = rs.length := by show (rs.map ruleD).length = _; simp
    rw [hn, List.take_length]
    exact ⟨rfl, q⟩
/-! sorted(rules) -/
abbrev ruleP (e : (Str × Str) × List Str) : PyData := .tuple [.str e.1.1, .str e.1.2, rowP e.2]
theorem py_rule {h : Hh} {n : Nat} (e : (Str × Str) × List Str) : py h (n + 3) (ruleD e) = some (ruleP e) := by
  show ([D.str e.1.1, .str e.1.2, rowD e.2].mapM (py h (n + 2))).map PyData.tuple = _
  rw [List.mapM_cons, List.mapM_cons, List.mapM_cons, py_row]
  rfl
theorem strs_alike : ∀ r s : List Str, PySem.W.alikeAll (r.map .str) (s.map .str) = true
  | [], _ => by simp [PySem.W.alikeAll]
  | _ :: _, [] => by simp [PySem.W.alikeAll]
  | x :: r, y :: s => by
    show PySem.W.alikeAll (.str x :: r.map .str) (.str y :: s.map .str) = true
    rw [PySem.W.alikeAll, strs_alike r s]
    simp [PySem.W.alike]
theorem ruleP_alike (p q : (Str × Str) × List Str) : PySem.W.alike (ruleP p) (ruleP q) = true := by
  have := strs_alike p.2 q.2
  simp [PySem.W.alike, PySem.W.alikeAll, this]
theorem fine_rule {e : (Str × Str) × List Str} (h1 : okT e.1.1) (h2 : okT e.1.2) (h3 : ∀ x ∈ e.2, okT x) : Fine 2 (ruleP e) := by
  refine Fine.tup (k := 1) fun d hd => ?_
  simp only [List.mem_cons, List.not_mem_nil, or_false] at hd
  rcases hd with rfl | rfl | rfl
  · exact (Fine.str h1 : Fine 0 _).mono (by decide)
  · exact (Fine.str h2 : Fine 0 _).mono (by decide)
  · exact fine_row h3
theorem sort_rules {h : Hh} {rs : Tab} (ok : ∀ e ∈ rs, okT e.1.1 ∧ okT e.1.2 ∧ ∀ x ∈ e.2, okT x) : ∃ l, sortD h (rs.map ruleD) = some l ∧ l.Perm (rs.map ruleD) := by
  unfold sortD
  rw [py_map (g := ruleP) (fun e => py_rule (n := 63) e)]
  dsimp only
  have c1 : (rs.map ruleD).all (noL 66) = true := by
    rw [List.all_eq_true]
    intro d hd
    obtain ⟨x, _, rfl⟩ := List.mem_map.mp hd
    show ([D.str x.1.1, .str x.1.2, rowD x.2].all (noL 65)) = true
    have : noL 65 (rowD x.2) = true := by
      show ((x.2.map D.str).all (noL 64)) = true
      rw [List.all_eq_true]
      intro d hd
      obtain ⟨y, _, rfl⟩ := List.mem_map.mp hd
      rfl
    simp only [List.all_cons, List.all_nil, this, Bool.and_true]
    rfl
  have c2 : alikeOk (rs.map ruleP) = true := by
    unfold alikeOk
    rw [List.all_eq_true]
    intro d hd
    rw [List.all_eq_true]
    intro e he
    obtain ⟨x, _, rfl⟩ := List.mem_map.mp hd
    obtain ⟨y, _, rfl⟩ := List.mem_map.mp he
    exact ruleP_alike x y
  have c3 : sortOk (rs.map ruleP) = true := by
    unfold sortOk
    rw [Bool.or_eq_true]
    refine .inl ?_
    rw [List.all_eq_true]
    intro d hd
    obtain ⟨x, _, rfl⟩ := List.mem_map.mp hd
    rfl
  have c4 : (rs.map ruleP).all SeqAt.shaped = true := by
    rw [List.all_eq_true]
    intro d hd
    obtain ⟨x, hx, rfl⟩ := List.mem_map.mp hd
    obtain ⟨a, b, c⟩ := ok x hx
    exact (fine_rule a b c).shaped (by decide)
  rw [c1, c2, c3, c4]
  simp only [Bool.and_self, if_true]
  refine ⟨_, rfl, ?_⟩
  have := (List.mergeSort_perm ((rs.map ruleD).zip (rs.map ruleP)) (PySem.W.dataLe false Prod.snd)).map Prod.fst
  refine this.trans ?_
  rw [List.map_fst_zip (by simp)]
end L4
set_option Elab.async false
set_option linter.all false
set_option maxRecDepth 100000
set_option maxHeartbeats 2000000
namespace L4
open PySem PySem.Spec PyProof.Rows L2 Lg
open Lf (EndsOf Small Closed clashL isClash Fd Fds Net nf2)
abbrev Sec := List (Str × Nat)
def encN (S : Sec) : List (D × D) := S.map fun e => (.str e.1, .ref e.2)
def lookN : Sec → Str → Option Nat
  | [], _ => none
  | e :: S, x => if e.1 = x then some e.2 else lookN S x
theorem look_encN {x : Str} : ∀ S : Sec, look (encN S) (.str x) = (lookN S x).map .ref
  | [] => rfl
  | (a, r) :: S => by
    show (if kEq (.str a) (.str x) = true then some (.ref r) else look (encN S) _) = (if a = x then some r else lookN S x).map .ref
    rw [kEq_str, look_encN S]
    by_cases c : a = x
    · simp [c]
    · simp [c]
theorem lookN_mem {x : Str} {p : Nat} : ∀ {S : Sec}, lookN S x = some p → (x, p) ∈ S
  | [], e => by cases e
  | (a, r) :: S, e => by
    have e : (if a = x then some r else lookN S x) = some p := e
    by_cases c : a = x
    · rw [if_pos c] at e; cases e; rw [c]; exact List.mem_cons_self
    · rw [if_neg c] at e; exact List.mem_cons_of_mem _ (lookN_mem e)
theorem lookN_none {x : Str} : ∀ {S : Sec}, lookN S x = none → ∀ e ∈ S, e.1 ≠ x
  | [], _, e, he => by cases he
  | (a, r) :: S, q, e, he => by
    have q : (if a = x then some r else lookN S x) = none := q
    by_cases c : a = x
    · rw [if_pos c] at q; cases q
    · rw [if_neg c] at q
      rcases List.mem_cons.mp he with rfl | he
      · exact c
      · exact lookN_none q e he
theorem put_encN {S : Sec} {x : Str} {p : Nat} (n : lookN S x = none) : Lg.put (encN S) (.str x) (.ref p) = encN (S ++ [(x, p)]) := by
  unfold Lg.put
  have e1 : (encN S).any (fun q => kEq q.1 (.str x)) = false := by
    rw [List.any_eq_false]
    intro q hq
    obtain ⟨e, he, rfl⟩ := List.mem_map.mp hq
    rw [kEq_str]
    simp only [decide_eq_true_eq]
    exact lookN_none n e he
  rw [e1, if_neg Bool.false_ne_true]
  unfold encN
  rw [List.map_append]
  rfl
structure SecAt (h : Hh) (d c : Nat) (T : Tab) (S : Sec) : Prop where
  at_ : h[d]? = some (.dic false (encN S))
  nd : (S.map (·.2)).Nodup
  len : S.length ≤ c
  each : ∀ e ∈ S, d < e.2 ∧ ∃ ys : List Str, h[e.2]? = some (.lst (ys.map D.str)) ∧ ys.length ≤ c ∧ ∀ y ∈ ys, (lookT T e.1 y).isSome = true
theorem seconds_ok {h : Hh} {rs T : Tab} {Q : D → Hh → Prop} (hl : rs.length ≤ 1000) (ok : ∀ e ∈ rs, okT e.1.1 ∧ okT e.1.2 ∧ ∀ x ∈ e.2, okT x) (hT : ∀ e ∈ rs, lookT T e.1.1 e.1.2 = some e.2)
    (q : ∀ d S h', Kp h h' → SecAt h' d 1000 T S → Q (.ref d) h') : Ok (F_seconds_of [.tup (rs.map ruleD)] h) Q := by
  unfold F_seconds_of f_seconds_of
  rw [w_callB]
  refine ⟨rfl, ?_⟩
  show OkS (gSeq _ _ [some (.tup (rs.map ruleD)), none, none, none, none] h) _
  refine s_det (s1 := [some (.tup (rs.map ruleD)), some (.ref h.length), none, none, none]) (h1 := h ++ [.dic false (encN [])]) ?_ ?_
  · rw [s_set, show ∀ s, fDicN false s h = .ok (.ref h.length) (h ++ [.dic false []]) from fun _ => rfl, w_ok]
    exact ⟨rfl, rfl⟩
  obtain ⟨l, el, pl⟩ := sort_rules (h := h ++ [.dic false (encN [])]) ok
  have ll : l.length = rs.length := by rw [pl.length_eq, List.length_map]
  refine s_cut (fun s' h' => ∃ v2 v3 v4 S, s' = [some (.tup (rs.map ruleD)), some (.ref h.length), v2, v3, v4] ∧ Kp h h' ∧ SecAt h' h.length l.length T S) ?_ ?_
  · refine s_forL (l := l) (fun i s' h' => ∃ v2 v3 v4 S, s' = [some (.tup (rs.map ruleD)), some (.ref h.length), v2, v3, v4] ∧ Kp h h' ∧ SecAt h' h.length i T S) ?_ ?_ fun _ _ z => z
    · rw [w_CB, w_Co, w_V]
      refine ⟨_, rfl, ?_⟩
      rw [w_N]
      refine ⟨.lst l, h ++ [.dic false (encN [])], ?_, .inr (.inl rfl), none, none, none, [], rfl, ⟨by simp, fun i hi => List.getElem?_append_left hi⟩, by show (h ++ [O.dic false (encN [])])[h.length]? = _; simp, by simp, Nat.le_refl _, by simp⟩
      show ((Lg.asS _ (.tup (rs.map ruleD))).bind (sortD _)).map (fun l => (D.lst l, _)) = _
      rw [show Lg.asS (h ++ [O.dic false (encN [])]) (.tup (rs.map ruleD)) = some (rs.map ruleD) from rfl, Option.bind_some, el]
      rfl
    · rintro i d s1 h1 hi ⟨v2, v3, v4, S, rfl, kp, sa⟩
      have md := pl.mem_iff.mp (List.mem_of_getElem? hi)
      obtain ⟨e, me, rfl⟩ := List.mem_map.mp md
      have li : i < l.length := (List.getElem?_eq_some_iff.mp hi).1
      obtain ⟨⟨x, y⟩, r⟩ := e
      have hxy : lookT T x y = some r := hT _ me
      obtain ⟨s_at, s_nd, s_len, s_each⟩ := sa
      have ld : h.length < h1.length := (List.getElem?_eq_some_iff.mp s_at).1
      refine w_gTup rfl rfl ?_
      show OkS (gEx _ [some (.tup (rs.map ruleD)), some (.ref h.length), some (.str x), some (.str y), some (rowD r)] h1) _
      rw [s_ex, w_app]
      refine w_setd ?_
      rw [w_V]
      refine ⟨_, rfl, h.length, encN S, rfl, s_at, ?_⟩
      rw [w_V]
      refine ⟨_, rfl, ?_⟩
      rw [show ∀ s, fLstN fN s h1 = .ok (.ref h1.length) (h1 ++ [.lst []]) from fun _ => rfl, w_ok]
      have at2 : (h1 ++ [O.lst []])[h.length]? = some (.dic false (encN S)) := by rw [List.getElem?_append_left ld]; exact s_at
      refine ⟨_, at2, rfl, decide_eq_true (by unfold encN; rw [List.length_map]; omega), ?_⟩
      rw [look_encN]
      have kp2 : Kp h (h1 ++ [O.lst []]) := kp.trans ⟨by simp, fun i hi => List.getElem?_append_left hi⟩
      cases hx : lookN S x with
      | some p =>
        show ∃ n l0, D.ref p = .ref n ∧ _
        obtain ⟨dp, ys, hp, yl, yok⟩ := s_each _ (lookN_mem hx)
        have dp : h.length < p := dp
        have hp : h1[p]? = some (.lst (ys.map D.str)) := hp
        have lp : p < h1.length := (List.getElem?_eq_some_iff.mp hp).1
        have hp2 : (h1 ++ [O.lst []])[p]? = some (.lst (ys.map D.str)) := by rw [List.getElem?_append_left lp]; exact hp
        refine ⟨p, _, rfl, hp2, ?_⟩
        rw [w_V]
        refine ⟨_, rfl, _, hp2, decide_eq_true (by rw [List.length_map]; omega), _, _, _, S, rfl, ?_, ?_, s_nd, by omega, ?_⟩
        · exact ⟨by simp; omega, fun j hj => by
            rw [List.getElem?_set_ne (by omega)]
            exact kp2.st j hj⟩
        · rw [List.getElem?_set_ne (by omega)]
          exact at2
        · intro e he
          obtain ⟨d1, zs, h1z, zl, zok⟩ := s_each e he
          refine ⟨d1, ?_⟩
          by_cases c : e.2 = p
          · have ep : e = (x, p) := by
              have m1 := lookN_mem hx
              obtain ⟨a1, b1, e1⟩ := List.mem_iff_getElem.mp he
              obtain ⟨a2, b2, e2⟩ := List.mem_iff_getElem.mp m1
              have : a1 = a2 := by
                have n1 : (S.map (·.2))[a1]'(by simpa using b1) = (S.map (·.2))[a2]'(by simpa using b2) := by
                  rw [List.getElem_map, List.getElem_map, e1, e2]
                  exact c
                exact (List.getElem_inj s_nd).mp n1
              subst this
              rw [← e1, e2]
            subst ep
            refine ⟨ys ++ [y], ?_, ?_, ?_⟩
            · rw [List.getElem?_set_self (by simp; omega)]
              simp
            · rw [List.length_append]; show ys.length + 1 ≤ _; omega
            · intro z hz
              rcases List.mem_append.mp hz with hz | hz
              · exact yok z hz
              · rw [List.mem_singleton.mp hz]
                show (lookT T x y).isSome = true
                rw [hxy]; rfl
          · refine ⟨zs, ?_, by omega, zok⟩
            rw [List.getElem?_set_ne (fun z => c z.symm), List.getElem?_append_left (List.getElem?_eq_some_iff.mp h1z).1]
            exact h1z
      | none =>
        show ∃ n l0, D.ref h1.length = .ref n ∧ _
        rw [put_encN hx]
        have hp2 : ((h1 ++ [O.lst []]).set h.length (.dic false (encN (S ++ [(x, h1.length)]))))[h1.length]? = some (.lst (([] : List Str).map D.str)) := by
          rw [List.getElem?_set_ne (by omega)]
          simp
        refine ⟨_, _, rfl, hp2, ?_⟩
        rw [w_V]
        refine ⟨_, rfl, _, hp2, rfl, _, _, _, S ++ [(x, h1.length)], rfl, ?_, ?_, ?_, by rw [List.length_append]; show S.length + 1 ≤ _; omega, ?_⟩
        · exact ⟨by simp; omega, fun j hj => by
            rw [List.getElem?_set_ne (by omega), List.getElem?_set_ne (by omega)]
            exact kp2.st j hj⟩
        · rw [List.getElem?_set_ne (by omega), List.getElem?_set_self (by simp; omega)]
        · rw [List.map_append, List.nodup_append]
          refine ⟨s_nd, by simp, fun a ha b hb => ?_⟩
          have : b = h1.length := by simpa using hb
          subst this
          obtain ⟨e, he, rfl⟩ := List.mem_map.mp ha
          obtain ⟨d1, zs, h1z, _⟩ := s_each e he
          have := (List.getElem?_eq_some_iff.mp h1z).1
          omega
        · intro e he
          rcases List.mem_append.mp he with he | he
          · obtain ⟨d1, zs, h1z, zl, zok⟩ := s_each e he
            have l1 := (List.getElem?_eq_some_iff.mp h1z).1
            refine ⟨d1, zs, ?_, by omega, zok⟩
            rw [List.getElem?_set_ne (by omega), List.getElem?_set_ne (by omega), List.getElem?_append_left l1]
            exact h1z
          · rw [List.mem_singleton.mp he]
            refine ⟨ld, [y], ?_, by simp, ?_⟩
            · show (List.set _ h1.length _)[h1.length]? = _
              rw [List.getElem?_set_self (by simp)]
              simp
            · intro z hz
              rw [List.mem_singleton.mp hz]
              show (lookT T x y).isSome = true
              rw [hxy]; rfl
  · rintro s1 h1 ⟨v2, v3, v4, S, rfl, kp, sa⟩
    obtain ⟨s_at, s_nd, s_len, s_each⟩ := sa
    simp only [Lg.w_ok, Lg.w_V, Lg.w_C, Lg.w_N, Lg.w_Co, Lg.w_op, Lg.w_B, Lg.w_CB, Lg.w_call, Lg.w_tup, Lg.w_lst, Lg.w_lstN, Lg.w_if, Lg.w_not, Lg.w_and, Lg.w_or, Lg.w_tru, Lg.w_pop, Lg.w_app, Lg.s_seq, Lg.s_nx, Lg.s_set, Lg.s_par, Lg.s_rt, Lg.s_rtN, Lg.s_ex, Lg.s_if, Lg.s_asg, Lg.w_sub, Lg.w_gN, Lg.w_callB, Lg.w_lc, Lg.w_lcN, Lg.w_sl, Lg.w_O0, Lg.w_O, Lg.w_revN, Lg.s_par3]
    refine ⟨_, rfl, q _ S h1 kp ⟨s_at, s_nd, by omega, fun e he => ?_⟩⟩
    obtain ⟨d1, zs, h1z, zl, zok⟩ := s_each e he
    exact ⟨d1, zs, h1z, by omega, zok⟩
/-! a clash -/
theorem keys_str : ∀ l : List Str, (keysD (l.map D.str)).isSome = true
  | [] => rfl
  | x :: l => by
    have ih := keys_str l
    show (do let k ← keyD (D.str x); let ks ← keysD (l.map D.str); some (k :: ks)).isSome = true
    cases q : keysD (l.map D.str) with
    | none => rw [q] at ih; cases ih
    | some ks => rfl
theorem look_one {a : Str} : ∀ T : Tab, look (encT T) (rowD [a]) = none
  | [] => rfl
  | ((x, y), r) :: T => by
    show (if kEq (.tup [.str x, .str y]) (.tup [.str a]) = true then some (rowD r) else look (encT T) _) = none
    rw [if_neg (by simp [kEq, kEqs]), look_one T]
theorem get_nf2 {T : Tab} : ∀ {l : List Str}, 0 < l.length → l.length ≤ 2 → (look (encT T) (rowD l)).getD (rowD l) = rowD (nf2 (lookT T) l)
  | [], h, _ => by simp at h
  | [a], _, _ => by rw [look_one]; rfl
  | [a, b], _, _ => by
    show (look (encT T) (.tup [.str a, .str b])).getD (rowD [a, b]) = rowD ((lookT T a b).getD [a, b])
    rw [look_enc]
    cases lookT T a b <;> rfl
  | _ :: _ :: _ :: _, _, h => by simp at h
theorem isClash_ok {h : Hh} {T : Tab} {x y z : Str} {r s : List Str} {Q : D → Hh → Prop} (e1 : lookT T x y = some r) (e2 : lookT T y z = some s) (sm : Small (lookT T)) (cl : Closed (lookT T) okT) (o : okT x ∧ okT y ∧ okT z) (q : Q (.bl (isClash (lookT T) x y z)) h) : Ok (F_is_clash [.str x, .str y, .str z, .dic true (encT T)] h) Q := by
  have r1 := sm _ _ _ e1
  have s1 := sm _ _ _ e2
  have ix : ∀ a b w, lookT T a b = some w → opIx h (.dic true (encT T)) (.tup [.str a, .str b]) = some (rowD w) := fun a b w e => by
    show (if keyOk true (.tup [.str a, .str b]) then look (encT T) (.tup [.str a, .str b]) else none) = _
    rw [show keyOk true (.tup [.str a, .str b]) = true from rfl, if_pos rfl, look_enc, e]
    rfl
  unfold F_is_clash f_is_clash
  rw [w_callB]
  refine ⟨rfl, ?_⟩
  show OkS (gSeq _ _ [some (.str x), some (.str y), some (.str z), some (.dic true (encT T)), none, none] h) _
  refine s_det (s1 := [some (.str x), some (.str y), some (.str z), some (.dic true (encT T)), some (rowD (r ++ [z])), none]) (h1 := h) ?_ ?_
  · simp only [Lg.w_ok, Lg.w_V, Lg.w_C, Lg.w_N, Lg.w_Co, Lg.w_op, Lg.w_B, Lg.w_CB, Lg.w_call, Lg.w_tup, Lg.w_lst, Lg.w_lstN, Lg.w_if, Lg.w_not, Lg.w_and, Lg.w_or, Lg.w_tru, Lg.w_pop, Lg.w_app, Lg.s_seq, Lg.s_nx, Lg.s_set, Lg.s_par, Lg.s_rt, Lg.s_rtN, Lg.s_ex, Lg.s_if, Lg.s_asg, Lg.w_sub, Lg.w_gN, Lg.w_callB, Lg.w_lc, Lg.w_lcN, Lg.w_sl, Lg.w_O0, Lg.w_O, Lg.w_revN, Lg.s_par3]
    exact ⟨_, rfl, _, rfl, _, rfl, rfl, _, ix _ _ _ e1, _, rfl, rfl, _, row_add (a := r) (b := [z]) (by simp; omega), by first | rfl | trivial, by first | rfl | trivial⟩
  refine s_det (s1 := [some (.str x), some (.str y), some (.str z), some (.dic true (encT T)), some (rowD (r ++ [z])), some (rowD (x :: s))]) (h1 := h) ?_ ?_
  · simp only [Lg.w_ok, Lg.w_V, Lg.w_C, Lg.w_N, Lg.w_Co, Lg.w_op, Lg.w_B, Lg.w_CB, Lg.w_call, Lg.w_tup, Lg.w_lst, Lg.w_lstN, Lg.w_if, Lg.w_not, Lg.w_and, Lg.w_or, Lg.w_tru, Lg.w_pop, Lg.w_app, Lg.s_seq, Lg.s_nx, Lg.s_set, Lg.s_par, Lg.s_rt, Lg.s_rtN, Lg.s_ex, Lg.s_if, Lg.s_asg, Lg.w_sub, Lg.w_gN, Lg.w_callB, Lg.w_lc, Lg.w_lcN, Lg.w_sl, Lg.w_O0, Lg.w_O, Lg.w_revN, Lg.s_par3]
    exact ⟨_, rfl, rfl, _, rfl, _, rfl, _, rfl, rfl, _, ix _ _ _ e2, _, row_add (a := [x]) (b := s) (by simp; omega), by first | rfl | trivial, by first | rfl | trivial⟩
  have ol : ∀ u ∈ nf2 (lookT T) (r ++ [z]), okT u := (Lf.nf2_to (L := lookT T) (a := r ++ [z])).over cl fun u hu => by
    rcases List.mem_append.mp hu with hu | hu
    · exact cl _ _ _ e1 u hu
    · rw [List.mem_singleton.mp hu]; exact o.2.2
  have or_ : ∀ u ∈ nf2 (lookT T) (x :: s), okT u := (Lf.nf2_to (L := lookT T) (a := x :: s)).over cl fun u hu => by
    rcases List.mem_cons.mp hu with hu | hu
    · rw [hu]; exact o.1
    · exact cl _ _ _ e2 u hu
  rw [s_rt, w_op]
  refine w_get2 ?_
  rw [w_V]
  refine ⟨_, rfl, true, encT T, rfl, ?_⟩
  rw [w_V]
  refine ⟨_, rfl, ?_⟩
  rw [w_V]
  refine ⟨_, rfl, true, encT T, rfl, keys_str _, ?_⟩
  rw [get_nf2 (by simp) (by simp; omega)]
  refine w_get2 ?_
  rw [w_V]
  refine ⟨_, rfl, true, encT T, rfl, ?_⟩
  rw [w_V]
  refine ⟨_, rfl, ?_⟩
  rw [w_V]
  refine ⟨_, rfl, true, encT T, rfl, keys_str _, ?_⟩
  rw [get_nf2 (by simp) (by simp; omega)]
  refine ⟨_, ne_row ol or_, ?_⟩
  have : isClash (lookT T) x y z = !decide (nf2 (lookT T) (r ++ [z]) = nf2 (lookT T) (x :: s)) := by
    unfold isClash
    rw [e1, e2]
    simp
  rw [this] at q
  exact q
theorem clash_same {L L' : Fn} {x y z : Str} (e : ∀ a b, L a b = L' a b) : isClash L x y z = isClash L' x y z := by
  have : L = L' := by funext a b; exact e a b
  rw [this]
theorem clashOf_ok {h : Hh} {ns : List Str} {rs T : Tab} {Q : D → Hh → Prop} (hl : rs.length ≤ 1000) (hn : ns.length ≤ 13) (ok : ∀ x ∈ ns, okT x) (tok : TabOk ns T) (hT : ∀ e ∈ rs, lookT T e.1.1 e.1.2 = some e.2) (hR : ∀ x y, lookT (resT [] rs) x y = lookT T x y) (hc : clashL ns (lookT T) = none)
    (q : ∀ h', Kp h h' → Q .non h') : Ok (F_clash_of (rowD ns :: rs.map ruleD) h) Q := by
  have okr : ∀ e ∈ rs, okT e.1.1 ∧ okT e.1.2 ∧ ∀ x ∈ e.2, okT x := fun e he => by
    have k := tok.ok _ _ _ (hT e he)
    exact ⟨ok _ k.1, ok _ k.2.1, fun x hx => ok x (k.2.2.2 x hx)⟩
  have eR : lookT (resT [] rs) = lookT T := by funext a b; exact hR a b
  unfold F_clash_of f_clash_of
  rw [w_callS]
  refine ⟨⟨by simp, decide_eq_true (by simp; omega)⟩, ?_⟩
  show OkS (gSeq _ _ [some (rowD ns), some (.tup (rs.map ruleD)), none, none, none, none, none] h) _
  refine s_det (s1 := [some (rowD ns), some (.tup (rs.map ruleD)), some (.dic true (encT (resT [] rs))), none, none, none, none]) (h1 := h) ?_ ?_
  · rw [s_set, w_call, w_Co, w_V]
    refine ⟨_, rfl, ?_⟩
    rw [w_N]
    exact results_ok hl ⟨rfl, rfl⟩
  refine s_cut (fun s' h' => ∃ d S, s' = [some (rowD ns), some (.tup (rs.map ruleD)), some (.dic true (encT (resT [] rs))), some (.ref d), none, none, none] ∧ Kp h h' ∧ SecAt h' d 1000 T S) ?_ ?_
  · rw [s_set, w_call, w_Co, w_V]
    refine ⟨_, rfl, ?_⟩
    rw [w_N]
    exact seconds_ok hl okr hT fun d S h' kp sa => ⟨d, S, rfl, kp, sa⟩
  rintro s1 h1 ⟨d, S, rfl, kp, sa⟩
  -- the entries behind one
  have walk : ∀ {s : Lg.S} {i : Nat} {x : Str}, s[3]? = some (some (.ref d)) → s[i]? = some (some (.str x)) → Ok (fWalk (fGet2 (fV 3) (fV i) (fTup fN)) s h1) fun wk h2 => h2 = h1 ∧ ∃ ys : List Str, (∀ y ∈ ys, (lookT T x y).isSome = true) ∧ wk.n = ys.length ∧ (∀ j, wk.at_ h1 j = (ys[j]?).map D.str) ∧ wk.fin h1 = true := fun {s i x} e3 ei => by
    unfold fWalk
    rw [w_bind]
    refine w_get2 ?_
    rw [w_V]
    have ad : Lg.asD h1 (.ref d) = some (false, encN S) := by
      have := sa.at_
      simp [Lg.asD, this]
    refine ⟨_, e3, false, encN S, ad, ?_⟩
    rw [w_V]
    refine ⟨_, ei, ?_⟩
    rw [show ∀ s, fTup fN s h1 = .ok (rowD []) h1 from fun _ => rfl, w_ok]
    refine ⟨false, encN S, ad, rfl, ?_⟩
    rw [look_encN, w_ofO]
    cases q : lookN S x with
    | none => exact ⟨wkL [], rfl, rfl, [], by simp, rfl, fun j => by show ([] : List Lg.D)[j]? = _; simp, rfl⟩
    | some p =>
      obtain ⟨dp, ys, hp, yl, yok⟩ := sa.each _ (lookN_mem q)
      have hp : h1[p]? = some (.lst (ys.map D.str)) := hp
      refine ⟨wkR p (ys.map D.str).length, ?_, rfl, ys, yok, by show (ys.map D.str).length = _; simp, fun j => ?_, ?_⟩
      · show walkD h1 (.ref p) = _
        unfold walkD
        simp [hp]
      · show (match h1[p]? with
          | some (.lst l) => if l.length = (ys.map D.str).length then l[j]? else none
          | _ => none) = _
        rw [hp]
        dsimp only
        rw [if_pos rfl, List.getElem?_map]
      · show (match h1[p]? with
          | some (.lst l) => decide (l.length = (ys.map D.str).length)
          | _ => false) = _
        rw [hp]
        simp
  refine s_cut (fun s' h' => h' = h1) ?_ ?_
  · refine s_forL (l := ns.map D.str) (fun i s' h' => h' = h1 ∧ ∃ v4 v5 v6, s' = [some (rowD ns), some (.tup (rs.map ruleD)), some (.dic true (encT (resT [] rs))), some (.ref d), v4, v5, v6]) ?_ ?_ fun _ _ z => z.1
    · simp only [Lg.w_ok, Lg.w_V, Lg.w_C, Lg.w_N, Lg.w_Co, Lg.w_op, Lg.w_B, Lg.w_CB, Lg.w_call, Lg.w_tup, Lg.w_lst, Lg.w_lstN, Lg.w_if, Lg.w_not, Lg.w_and, Lg.w_or, Lg.w_tru, Lg.w_pop, Lg.w_app, Lg.s_seq, Lg.s_nx, Lg.s_set, Lg.s_par, Lg.s_rt, Lg.s_rtN, Lg.s_ex, Lg.s_if, Lg.s_asg, Lg.w_sub, Lg.w_gN, Lg.w_callB, Lg.w_lc, Lg.w_lcN, Lg.w_sl, Lg.w_O0, Lg.w_O, Lg.w_revN, Lg.s_par3]
      exact ⟨_, rfl, .inl rfl, by first | rfl | trivial, none, none, none, rfl⟩
    · rintro i dd s2 h2 hi ⟨rfl, v4, v5, v6, rfl⟩
      obtain ⟨x, hx, rfl, mx⟩ := strItem hi
      rw [w_gN]
      show OkS (gFor _ _ _ [some (rowD ns), some (.tup (rs.map ruleD)), some (.dic true (encT (resT [] rs))), some (.ref d), some (.str x), v5, v6] h2) _
      refine s_for (fun j s' h' => h' = h2 ∧ ∃ v5 v6, s' = [some (rowD ns), some (.tup (rs.map ruleD)), some (.dic true (encT (resT [] rs))), some (.ref d), some (.str x), v5, v6]) ?_
      refine (walk (x := x) (i := 4) rfl rfl).mono fun wk h3 ⟨e3, ys, yok, yn, yat, yf⟩ => ?_
      subst e3
      refine ⟨⟨rfl, v5, v6, rfl⟩, ?_, ?_⟩
      · rintro j s3 h4 hj ⟨rfl, v5, v6, rfl⟩
        have hj' : j < ys.length := by rw [← yn]; exact hj
        have my := List.getElem_mem hj'
        refine ⟨.str ys[j], by rw [yat, List.getElem?_eq_getElem hj']; rfl, ?_⟩
        generalize ys[j] = y at my
        have hy := yok y my
        obtain ⟨r, er⟩ := Option.isSome_iff_exists.mp hy
        rw [w_gN]
        show OkS (gFor _ _ _ [some (rowD ns), some (.tup (rs.map ruleD)), some (.dic true (encT (resT [] rs))), some (.ref d), some (.str x), some (.str y), v6] h4) _
        refine s_for (fun j s' h' => h' = h4 ∧ ∃ v6, s' = [some (rowD ns), some (.tup (rs.map ruleD)), some (.dic true (encT (resT [] rs))), some (.ref d), some (.str x), some (.str y), v6]) ?_
        refine (walk (x := y) (i := 5) rfl rfl).mono fun wk2 h5 ⟨e5, zs, zok, zn, zat, zf⟩ => ?_
        subst e5
        refine ⟨⟨rfl, v6, rfl⟩, ?_, ?_⟩
        · rintro j2 s5 h6 hj2 ⟨rfl, v6, rfl⟩
          have hj2' : j2 < zs.length := by rw [← zn]; exact hj2
          have mz := List.getElem_mem hj2'
          refine ⟨.str zs[j2], by rw [zat, List.getElem?_eq_getElem hj2']; rfl, ?_⟩
          generalize zs[j2] = z at mz
          obtain ⟨s, es⟩ := Option.isSome_iff_exists.mp (zok z mz)
          rw [w_gN]
          show OkS (gIf _ _ _ [some (rowD ns), some (.tup (rs.map ruleD)), some (.dic true (encT (resT [] rs))), some (.ref d), some (.str x), some (.str y), some (.str z)] h6) _
          have ky := tok.ok _ _ _ er
          have kz := tok.ok _ _ _ es
          rw [s_if, w_B, w_call]
          simp only [Lg.w_ok, Lg.w_V, Lg.w_C, Lg.w_N, Lg.w_Co, Lg.w_op, Lg.w_B, Lg.w_CB, Lg.w_call, Lg.w_tup, Lg.w_lst, Lg.w_lstN, Lg.w_if, Lg.w_not, Lg.w_and, Lg.w_or, Lg.w_tru, Lg.w_pop, Lg.w_app, Lg.s_seq, Lg.s_nx, Lg.s_set, Lg.s_par, Lg.s_rt, Lg.s_rtN, Lg.s_ex, Lg.s_if, Lg.s_asg, Lg.w_sub, Lg.w_gN, Lg.w_callB, Lg.w_lc, Lg.w_lcN, Lg.w_sl, Lg.w_O0, Lg.w_O, Lg.w_revN, Lg.s_par3]
          refine ⟨_, rfl, _, rfl, _, rfl, _, rfl, ?_⟩
          refine isClash_ok (T := resT [] rs) ((hR x y).trans er) ((hR y z).trans es) (by rw [eR]; exact tok.small) (by rw [eR]; exact tok.closed ok) ⟨ok x mx, ok y ky.2.1, ok z kz.2.1⟩ ?_
          have nc : isClash (lookT (resT [] rs)) x y z = false := by
            rw [eR]
            have := Lf.clashL_none hc x y z mx ky.2.1 kz.2.1
            cases w : isClash (lookT T) x y z with
            | false => rfl
            | true => exact absurd (Lf.isClash_iff.mp w) this
          rw [nc]
          refine ⟨false, rfl, ?_⟩
          rw [if_neg Bool.false_ne_true]
          exact ⟨rfl, _, rfl⟩
        · rintro s5 h6 ⟨rfl, v6, rfl⟩
          exact ⟨zf, rfl, _, _, rfl⟩
      · rintro s3 h4 ⟨rfl, v5, v6, rfl⟩
        exact ⟨yf, rfl, _, _, _, rfl⟩
  · rintro s' h' rfl
    simp only [Lg.w_ok, Lg.w_V, Lg.w_C, Lg.w_N, Lg.w_Co, Lg.w_op, Lg.w_B, Lg.w_CB, Lg.w_call, Lg.w_tup, Lg.w_lst, Lg.w_lstN, Lg.w_if, Lg.w_not, Lg.w_and, Lg.w_or, Lg.w_tru, Lg.w_pop, Lg.w_app, Lg.s_seq, Lg.s_nx, Lg.s_set, Lg.s_par, Lg.s_rt, Lg.s_rtN, Lg.s_ex, Lg.s_if, Lg.s_asg, Lg.w_sub, Lg.w_gN, Lg.w_callB, Lg.w_lc, Lg.w_lcN, Lg.w_sl, Lg.w_O0, Lg.w_O, Lg.w_revN, Lg.s_par3]
    exact q _ kp
end L4
set_option Elab.async false
set_option linter.all false
set_option maxRecDepth 100000
set_option maxHeartbeats 2000000
namespace Lg
open PySem PySem.Spec PyProof.Rows L2
section
variable {s : S} {h : Hh} {G : Gs} {fo fa fb fe fk fv : FE} {fs : FA} {P : D → Hh → Prop} {C m : Str} {F : List D → Hh → Oc D}
theorem w_sadd (k : Ok (fo s h) fun d h1 => ∃ n l0, d = .ref n ∧ h1[n]? = some (.set l0) ∧ Ok (fe s h1) fun e h2 => ∃ l k, h2[n]? = some (.set l) ∧ keyT e = some k ∧ l.length < 60 ∧ P .non (h2.set n (.set (if hasL l k then l else l ++ [k])))) : Ok (fSAdd fo fe s h) P := by
  unfold fSAdd
  rw [w_bind]
  refine k.mono fun d h1 ⟨n, l0, e1, e2, z⟩ => ?_
  subst e1
  have s1 : setAt h1 (.ref n) = some l0 := by simp [setAt, e2]
  rw [s1]
  dsimp only
  rw [w_bind]
  refine z.mono fun e h2 ⟨l, k, e3, e4, e5, z⟩ => ?_
  have s2 : setAt h2 (.ref n) = some l := by simp [setAt, e3]
  rw [s2, e4]
  dsimp only
  rw [if_pos e5, w_ok]
  exact z
theorem w_gFld (k : Ok (fe s h) fun y h1 => Ok (fo s h1) fun d h2 => ∃ n fl, d = .ref n ∧ h2[n]? = some (.ins C fl) ∧ fl.length < 900 ∧ G.nx s (h2.set n (.ins C (putD m y fl)))) : OkS (Lg.gFld C m fe fo s h) G := by
  unfold Lg.gFld
  rw [w_toS]
  refine k.mono fun y h1 z => ?_
  rw [w_toS]
  refine z.mono fun d h2 ⟨n, fl, e1, e2, e3, z⟩ => ?_
  subst e1
  have i1 : insAt h2 C (.ref n) = some fl := by simp [insAt, e2]
  rw [i1]
  dsimp only
  rw [if_pos e3]
  unfold OkS
  exact z
theorem w_mkD {ds : List D} (k : Ok (F (.ref h.length :: ds) (h ++ [.ins C []])) fun d h2 => d = .non ∧ P (.ref h.length) h2) : Ok (mkD C F ds h) P := by
  unfold mkD
  rw [w_bind]
  refine k.mono fun d h2 ⟨e, z⟩ => ?_
  subst e
  dsimp only
  rw [w_ok]
  exact z
theorem w_chain {op op' : Hh → D → D → Option D} {fc : FE} (k : Ok (fa s h) fun a h1 => Ok (fb s h1) fun b h2 => ∃ c, op h2 a b = some (.bl c) ∧ if c = true then Ok (fc s h2) fun d h4 => ∃ r, op' h4 b d = some r ∧ P r h4 else P (.bl false) h2) : Ok (fChain op op' fa fb fc s h) P := by
  unfold fChain
  rw [w_bind]
  refine k.mono fun a h1 z => ?_
  rw [w_bind]
  refine z.mono fun b h2 ⟨c, e, z⟩ => ?_
  rw [e, ofO_some, Oc.bind_ok]
  cases c with
  | true =>
    rw [if_pos rfl] at z
    dsimp only
    rw [w_bind]
    refine z.mono fun d h4 ⟨r, e, z⟩ => ?_
    rw [e, ofO_some, w_ok]
    exact z
  | false =>
    rw [if_neg Bool.false_ne_true] at z
    dsimp only
    rw [w_ok]
    exact z
theorem w_var {i : Nat} {c : Addr} (e : s[i]? = some (some (.fix c))) (k : Ok (fe s h) P) : Ok (fVar i c fe s h) P := by
  unfold fVar
  rw [e]
  dsimp only
  rw [if_pos rfl]
  exact k
end
end Lg
namespace L4
open PySem PySem.Spec PyProof.Rows L2 Lg
open Lf (EndsOf Small Closed clashL isClash Fd Fds Net nf2)
/-! ### names, entries -/
def LETT : Str := "abcdefghijklmnopqrstuvwxyz"
theorem pool_chars : ∀ x ∈ POOL, 1 ≤ x.length ∧ x.length ≤ 8 ∧ x.cps.size = x.length ∧ ∀ c ∈ x.cps.toList, (Builtin.Str.occurrences LETT ⟨#[c]⟩ 0 LETT.length 1).isEmpty = false := by decide +kernel
theorem name_ok {x : Str} {h : Hh} {Q : D → Hh → Prop} (hx : x ∈ POOL) (q : Q (.bl true) h) : Ok (F_is_name [.str x] h) Q := by
  obtain ⟨l1, l8, sz, ch⟩ := pool_chars x hx
  unfold F_is_name f_is_name
  rw [w_callB]
  refine ⟨rfl, ?_⟩
  show OkS (gSeq _ _ [some (.str x), none] h) _
  refine s_det (s1 := [some (.str x), none]) (h1 := h) ?_ ?_
  · rw [s_if, w_or, w_not, w_B]
    refine w_isi ?_
    rw [w_V]
    refine ⟨_, rfl, "str", rfl, true, rfl, ?_⟩
    rw [if_neg (by decide), w_not, w_B]
    refine w_chain ?_
    rw [w_C, w_CB, w_Co, w_V]
    refine ⟨_, rfl, ?_⟩
    rw [w_N]
    have bl : bLen [.str x] h = some (.int x.length, h) := by
      show (if line x.length then some (D.int x.length, h) else none) = _
      rw [show line x.length = true from decide_eq_true (by omega), if_pos rfl]
    refine ⟨_, _, bl, true, ?_, ?_⟩
    · show some (D.bl (decide ((1 : Int) ≤ x.length))) = _
      rw [decide_eq_true (by omega)]
    rw [if_pos rfl, w_C]
    refine ⟨.bl true, ?_, true, rfl, ?_⟩
    · show some (D.bl (decide ((x.length : Int) ≤ 8))) = _
      rw [decide_eq_true (by omega)]
    rw [if_neg (by decide), s_nx]
    exact ⟨rfl, rfl⟩
  rw [s_rt, w_CB, w_Co, w_lc]
  refine w_lcL (fun j acc h' => h' = h ∧ acc = List.replicate j (D.bl true)) ?_
  unfold fWalkS
  rw [w_bind, w_V]
  refine ⟨_, rfl, ?_⟩
  rw [w_ok]
  refine ⟨⟨rfl, rfl⟩, ?_, ?_⟩
  · rintro j acc h' hj ⟨rfl, rfl⟩
    have hj : j < x.cps.size := hj
    refine ⟨decide_eq_true (by rw [List.length_replicate]; omega), .str ⟨#[x.cps[j]]⟩, by show (x.cps[j]?).map _ = _; rw [Array.getElem?_eq_getElem hj]; rfl, ?_⟩
    have cc := ch x.cps[j] (by simp)
    generalize x.cps[j] = c at cc
    rw [w_gN]
    rw [show ∀ s, fYes s h' = .ok true h' from fun _ => rfl, w_ok, if_pos rfl]
    show Ok (fOp opInS _ _ [some (.str x), some (.str ⟨#[c]⟩)] h') _
    rw [w_op, w_V]
    refine ⟨_, rfl, ?_⟩
    rw [w_C]
    refine ⟨.bl true, ?_, rfl, by rw [List.replicate_succ']⟩
    show (some (!(Builtin.Str.occurrences LETT ⟨#[c]⟩ 0 LETT.length 1).isEmpty)).map D.bl = _
    rw [cc]
    rfl
  · rintro acc h' ⟨rfl, rfl⟩
    refine ⟨rfl, ?_⟩
    rw [w_N]
    exact ⟨_, _, all_true, q⟩
theorem asc_ok {ns : List Str} {h : Hh} {Q : D → Hh → Prop} (ok : NamesOk ns) (hn : ns.length ≤ 13) (q : Q (.bl true) h) : Ok (F_is_ascending [rowD ns] h) Q := by
  unfold F_is_ascending f_is_ascending
  rw [w_callB]
  refine ⟨rfl, ?_⟩
  show OkS (gRt _ [some (rowD ns), none] h) _
  rw [s_rt, w_CB, w_Co, w_lc]
  refine w_lcL (fun j acc h' => h' = h ∧ acc = List.replicate j (D.bl true)) ?_
  rw [w_rng]
  simp only [Lg.w_ok, Lg.w_V, Lg.w_C, Lg.w_N, Lg.w_Co, Lg.w_op, Lg.w_B, Lg.w_CB, Lg.w_call, Lg.w_tup, Lg.w_lst, Lg.w_lstN, Lg.w_if, Lg.w_not, Lg.w_and, Lg.w_or, Lg.w_tru, Lg.w_pop, Lg.w_app, Lg.s_seq, Lg.s_nx, Lg.s_set, Lg.s_par, Lg.s_rt, Lg.s_rtN, Lg.s_ex, Lg.s_if, Lg.s_asg, Lg.w_sub, Lg.w_gN, Lg.w_callB, Lg.w_lc, Lg.w_lcN, Lg.w_sl, Lg.w_O0, Lg.w_O, Lg.w_revN, Lg.s_par3]
  refine ⟨_, rfl, _, _, SeqD.len (l := ns.map D.str) (.inl rfl), _, rfl, _, rfl, decide_eq_true ⟨by rw [List.length_map]; omega, by rw [List.length_map]; omega⟩, ⟨rfl, rfl⟩, ?_, ?_⟩
  · rintro j acc h' hj ⟨rfl, rfl⟩
    have hj0 : j < ((ns.map D.str).length - 1 : Int).toNat := hj
    rw [List.length_map] at hj0
    have h1 : j < ns.length := by omega
    have h2 : j + 1 < ns.length := by omega
    have e1 := List.getElem?_eq_getElem h1
    have e2 := List.getElem?_eq_getElem h2
    refine ⟨decide_eq_true (by rw [List.length_replicate]; omega), .int (0 + j), ?_, ?_⟩
    · show (if j < _ then some (D.int (0 + j)) else none) = _
      exact if_pos hj
    · rw [Int.zero_add, show ∀ s, fYes s h' = .ok true h' from fun _ => rfl, w_ok, if_pos rfl]
      refine ⟨_, rfl, _, rfl, _, row_ix e1, _, rfl, _, rfl, _, rfl, _, (row_ix (i := j + 1) e2 : opIx h' (rowD ns) (.int ((j : Int) + 1)) = some (.str ns[j + 1])), .bl true, ?_, by first | rfl | trivial, by rw [List.replicate_succ']⟩
      show some (D.bl (decide (ns[j].cps.toList < ns[j + 1].cps.toList))) = _
      have le := of_decide_eq_true (List.pairwise_iff_getElem.mp ok.sorted j (j + 1) h1 h2 (by omega))
      have ne : ns[j] ≠ ns[j + 1] := by
        have := List.pairwise_iff_getElem.mp ok.nd j (j + 1) h1 h2 (by omega)
        exact this
      have lt : ns[j].cps.toList < ns[j + 1].cps.toList := by
        rcases List.le_iff_lt_or_eq.mp le with w | w
        · exact w
        · exact absurd (by
            have : ns[j].cps = ns[j + 1].cps := Array.toList_inj.mp w
            cases h3 : ns[j]; cases h4 : ns[j + 1]
            rw [h3, h4] at this
            exact congrArg _ this) ne
      rw [decide_eq_true lt]
  · rintro acc h' ⟨rfl, rfl⟩
    refine ⟨rfl, ?_⟩
    exact ⟨_, _, all_true, q⟩
theorem entries_ok {ns : List Str} {h : Hh} {Q : D → Hh → Prop} (ok : NamesOk ns) (hn : ns.length ≤ 13) (n0 : 0 < ns.length) (q : Q (.bl true) h) : Ok (F_are_entries [rowD ns] h) Q := by
  unfold F_are_entries f_are_entries
  rw [w_callB]
  refine ⟨rfl, ?_⟩
  show OkS (gSeq _ _ [some (rowD ns), none] h) _
  have okt : ∀ x ∈ ns, okT x := fun x hx => (pool_okN x (ok.pool x hx)).1
  refine s_det (s1 := [some (rowD ns), none]) (h1 := h) ?_ ?_
  · rw [s_if, w_or, w_not, w_B]
    refine w_isi ?_
    rw [w_V]
    refine ⟨_, rfl, "tuple", rfl, true, rfl, ?_⟩
    rw [if_neg (by decide), w_B, w_op, w_V]
    refine ⟨_, rfl, ?_⟩
    rw [show ∀ s h, fTup fN s h = .ok (rowD []) h from fun _ _ => rfl, w_ok]
    refine ⟨_, eq_row okt (by simp), _, rfl, ?_⟩
    rw [decide_eq_false (List.length_pos_iff.mp n0), if_neg Bool.false_ne_true, s_nx]
    exact ⟨rfl, rfl⟩
  rw [s_rt]
  refine w_andV ?_
  rw [w_CB, w_Co, w_lc]
  refine w_lcL (fun j acc h' => h' = h ∧ acc = List.replicate j (D.bl true)) ?_
  unfold fWalk
  rw [w_bind, w_V]
  refine ⟨_, rfl, ?_⟩
  rw [w_ofO]
  refine ⟨wkL (ns.map D.str), rfl, ⟨rfl, rfl⟩, ?_, ?_⟩
  · rintro j acc h' hj ⟨rfl, rfl⟩
    have hj : j < (ns.map D.str).length := hj
    have hj' : j < ns.length := by simpa using hj
    have ej := List.getElem?_eq_getElem hj'
    have mz : ns[j] ∈ ns := List.getElem_mem hj'
    generalize ns[j] = z at ej mz
    refine ⟨decide_eq_true (by rw [List.length_replicate]; omega), .str z, by show (ns.map D.str)[j]? = _; rw [List.getElem?_map, ej]; rfl, ?_⟩
    rw [w_gN]
    rw [show ∀ s, fYes s h' = .ok true h' from fun _ => rfl, w_ok, if_pos rfl]
    show Ok (fCall _ _ [some (rowD ns), some (.str z)] h') _
    rw [w_call, w_Co, w_V]
    refine ⟨_, rfl, ?_⟩
    rw [w_N]
    exact name_ok (ok.pool z mz) ⟨rfl, by rw [List.replicate_succ']⟩
  · rintro acc h' ⟨rfl, rfl⟩
    refine ⟨rfl, ?_⟩
    rw [w_N]
    refine ⟨_, _, all_true, true, rfl, ?_⟩
    rw [if_pos rfl, w_call, w_Co, w_V]
    refine ⟨_, rfl, ?_⟩
    rw [w_N]
    exact asc_ok ok hn q
/-! ### known entries, rules -/
def KnAt (K : List (D × D)) (ns : List Str) : Prop := ∀ x, (look K (.str x)).isSome = decide (x ∈ ns)
theorem look_put_str {K : List (D × D)} {x y : Str} : (look (Lg.put K (.str x) (.bl true)) (.str y)).isSome = ((look K (.str y)).isSome || decide (x = y)) := by
  have gen : ∀ K : List (D × D), (look (K.map fun p => if kEq p.1 (.str x) then (p.1, .bl true) else p) (.str y)).isSome = (look K (.str y)).isSome := fun K => by
    induction K with
    | nil => rfl
    | cons p K ih =>
      show (if kEq (if kEq p.1 (.str x) = true then (p.1, D.bl true) else p).1 (.str y) = true then some (if kEq p.1 (.str x) = true then (p.1, D.bl true) else p).2 else look (K.map _) (.str y)).isSome = (if kEq p.1 (.str y) = true then some p.2 else look K (.str y)).isSome
      have : (if kEq p.1 (.str x) = true then (p.1, D.bl true) else p).1 = p.1 := by split <;> rfl
      rw [this]
      cases kEq p.1 (.str y) with
      | true => rfl
      | false => exact ih
  have app : ∀ K : List (D × D), (look (K ++ [(.str x, .bl true)]) (.str y)).isSome = ((look K (.str y)).isSome || decide (x = y)) := fun K => by
    induction K with
    | nil =>
      show (if kEq (.str x) (.str y) = true then some (D.bl true) else none).isSome = _
      rw [kEq_str]
      by_cases c : x = y
      · simp [c, look]
      · simp [c, look]
    | cons p K ih =>
      show (if kEq p.1 (.str y) = true then some p.2 else look (K ++ _) (.str y)).isSome = ((if kEq p.1 (.str y) = true then some p.2 else look K (.str y)).isSome || _)
      cases kEq p.1 (.str y) with
      | true => rfl
      | false => exact ih
  unfold Lg.put
  cases c : K.any fun p => kEq p.1 (.str x) with
  | false => rw [if_neg Bool.false_ne_true]; exact app K
  | true =>
    rw [if_pos rfl, gen K]
    by_cases d : x = y
    · subst d
      have : (look K (.str x)).isSome = true := by
        clear gen app
        induction K with
        | nil => cases c
        | cons p K ih =>
          show (if kEq p.1 (.str x) = true then some p.2 else look K (.str x)).isSome = true
          cases e : kEq p.1 (.str x) with
          | true => rfl
          | false =>
            rw [List.any_cons, e, Bool.false_or] at c
            exact ih c
      rw [this]
      rfl
    · rw [decide_eq_false d, Bool.or_false]
theorem put_lenD {K : List (D × D)} {k v : D} : (Lg.put K k v).length ≤ K.length + 1 := by
  unfold Lg.put
  split <;> simp
theorem known_ok {ns : List Str} {h : Hh} {Q : D → Hh → Prop} (hn : ns.length ≤ 13) (q : ∀ K, KnAt K ns → Q (.dic false K) h) : Ok (F_known_of [rowD ns] h) Q := by
  unfold F_known_of f_known_of
  rw [w_callB]
  refine ⟨rfl, ?_⟩
  show OkS (gRt _ [some (rowD ns), none] h) _
  rw [s_rt, w_dc]
  refine w_dcL (fun i acc h' => h' = h ∧ KnAt acc (ns.take i) ∧ acc.length ≤ i) ?_
  unfold fWalk
  rw [w_bind, w_V]
  refine ⟨_, rfl, ?_⟩
  rw [w_ofO]
  refine ⟨wkL (ns.map D.str), rfl, ⟨rfl, fun x => by simp [look], Nat.le_refl _⟩, ?_, ?_⟩
  · rintro i acc h' hi ⟨rfl, kn, la⟩
    have hi : i < (ns.map D.str).length := hi
    have hi' : i < ns.length := by simpa using hi
    have ei := List.getElem?_eq_getElem hi'
    generalize ns[i] = z at ei
    refine ⟨decide_eq_true (by omega), .str z, by show (ns.map D.str)[i]? = _; rw [List.getElem?_map, ei]; rfl, ?_⟩
    rw [w_gN]
    rw [show ∀ s, fYes s h' = .ok true h' from fun _ => rfl, w_ok, if_pos rfl]
    show Ok (fV 1 [some (rowD ns), some (.str z)] h') _
    rw [w_V]
    refine ⟨_, rfl, ?_⟩
    rw [w_C]
    refine ⟨rfl, rfl, fun x => ?_, ?_⟩
    · rw [look_put_str, kn x, List.take_add_one, ei]
      by_cases c : z = x
      · simp [c]
      · simp [c, Ne.symm c]
    · have := put_lenD (K := acc) (k := .str z) (v := .bl true)
      omega
  · rintro acc h' ⟨rfl, kn, la⟩
    have hl : (wkL (ns.map D.str)).n = ns.length := by show (ns.map D.str).length = _; simp
    rw [hl, List.take_length] at kn
    exact ⟨rfl, q acc kn⟩
theorem isKnown_ok {K : List (D × D)} {x : Str} {h : Hh} {Q : D → Hh → Prop} (e : (look K (.str x)).isSome = true) (q : Q (.bl true) h) : Ok (F_is_known [.str x, .dic false K] h) Q := by
  unfold F_is_known f_is_known
  rw [w_callB]
  refine ⟨rfl, ?_⟩
  show OkS (gRt _ [some (.str x), some (.dic false K)] h) _
  rw [s_rt]
  refine w_andV ?_
  refine w_isi ?_
  rw [w_V]
  refine ⟨_, rfl, "str", rfl, true, rfl, ?_⟩
  rw [if_pos rfl]
  simp only [Lg.w_ok, Lg.w_V, Lg.w_C, Lg.w_N, Lg.w_Co, Lg.w_op, Lg.w_B, Lg.w_CB, Lg.w_call, Lg.w_tup, Lg.w_lst, Lg.w_lstN, Lg.w_if, Lg.w_not, Lg.w_and, Lg.w_or, Lg.w_tru, Lg.w_pop, Lg.w_app, Lg.s_seq, Lg.s_nx, Lg.s_set, Lg.s_par, Lg.s_rt, Lg.s_rtN, Lg.s_ex, Lg.s_if, Lg.s_asg, Lg.w_sub, Lg.w_gN, Lg.w_callB, Lg.w_lc, Lg.w_lcN, Lg.w_sl, Lg.w_O0, Lg.w_O, Lg.w_revN, Lg.s_par3]
  refine ⟨_, rfl, _, rfl, .bl true, ?_, q⟩
  show (isIn h (.str x) (.dic false K)).map D.bl = _
  have : isIn h (.str x) (.dic false K) = some (look K (.str x)).isSome := rfl
  rw [this, e]
  rfl
theorem isRule_ok {K : List (D × D)} {ns : List Str} {e : (Str × Str) × List Str} {h : Hh} {Q : D → Hh → Prop} (kn : KnAt K ns) (h1 : e.1.1 ∈ ns) (h2 : e.1.2 ∈ ns) (h3 : e.2.length ≤ 1) (h4 : ∀ x ∈ e.2, x ∈ ns) (q : Q (.bl true) h) : Ok (F_is_rule [ruleD e, .dic false K] h) Q := by
  obtain ⟨⟨x, y⟩, r⟩ := e
  have h1 : x ∈ ns := h1
  have h2 : y ∈ ns := h2
  have h3 : r.length ≤ 1 := h3
  have h4 : ∀ x ∈ r, x ∈ ns := h4
  unfold F_is_rule f_is_rule
  rw [w_callB]
  refine ⟨rfl, ?_⟩
  show OkS (gSeq _ _ [some (.tup [.str x, .str y, rowD r]), some (.dic false K), none, none, none, none] h) _
  refine s_det (s1 := [some (.tup [.str x, .str y, rowD r]), some (.dic false K), none, none, none, none]) (h1 := h) ?_ ?_
  · rw [s_if, w_or, w_not, w_B]
    refine w_isi ?_
    rw [w_V]
    refine ⟨_, rfl, "tuple", rfl, true, rfl, ?_⟩
    rw [if_neg (by decide), w_B, w_op, w_CB, w_Co, w_V]
    refine ⟨_, rfl, ?_⟩
    rw [w_N]
    refine ⟨_, _, rfl, ?_⟩
    rw [w_C]
    refine ⟨.bl false, by rfl, false, rfl, ?_⟩
    rw [if_neg Bool.false_ne_true, s_nx]
    exact ⟨rfl, rfl⟩
  refine s_det (s1 := [some (.tup [.str x, .str y, rowD r]), some (.dic false K), some (.str x), some (.str y), some (rowD r), none]) (h1 := h) ?_ ?_
  · rw [s_asg, w_V]
    refine ⟨_, rfl, ?_⟩
    exact w_gTup rfl rfl ⟨rfl, rfl⟩
  refine s_det (s1 := [some (.tup [.str x, .str y, rowD r]), some (.dic false K), some (.str x), some (.str y), some (rowD r), none]) (h1 := h) ?_ ?_
  · rw [s_if, w_or, w_not, w_B]
    refine w_isi ?_
    rw [w_V]
    refine ⟨_, rfl, "tuple", rfl, true, rfl, ?_⟩
    rw [if_neg (by decide), w_B, w_op, w_CB, w_Co, w_V]
    refine ⟨_, rfl, ?_⟩
    rw [w_N]
    refine ⟨_, _, SeqD.len (l := r.map D.str) (.inl rfl), ?_⟩
    rw [w_C]
    refine ⟨.bl (decide ((1 : Int) < (r.map D.str).length)), rfl, _, rfl, ?_⟩
    rw [if_neg (by simp; omega), s_nx]
    exact ⟨rfl, rfl⟩
  have all : ∀ z ∈ x :: y :: r, z ∈ ns := by
    intro z hz
    rcases List.mem_cons.mp hz with rfl | hz
    · exact h1
    rcases List.mem_cons.mp hz with rfl | hz
    · exact h2
    · exact h4 z hz
  rw [s_rt, w_CB, w_Co, w_lc]
  refine w_lcL (fun j acc h' => h' = h ∧ acc = List.replicate j (D.bl true)) ?_
  unfold fWalk
  rw [w_bind, w_tup, w_Co, w_V]
  refine ⟨_, rfl, ?_⟩
  rw [w_Co, w_V]
  refine ⟨_, rfl, ?_⟩
  refine w_CSt (l := r.map D.str) ?_
  rw [w_V]
  refine ⟨_, rfl, rfl, ?_⟩
  rw [w_N]
  refine ⟨decide_eq_true (by simp; omega), ?_⟩
  rw [w_ofO]
  refine ⟨wkL ((x :: y :: r).map D.str), by rw [List.append_nil]; rfl, ⟨rfl, rfl⟩, ?_, ?_⟩
  · rintro j acc h' hj ⟨rfl, rfl⟩
    have hj : j < ((x :: y :: r).map D.str).length := hj
    have hj' : j < (x :: y :: r).length := by simpa using hj
    have ej := List.getElem?_eq_getElem hj'
    have mz : (x :: y :: r)[j] ∈ (x :: y :: r) := List.getElem_mem hj'
    generalize (x :: y :: r)[j] = z at ej mz
    have hl : (x :: y :: r).length ≤ 3 := by simp; omega
    refine ⟨decide_eq_true (by rw [List.length_replicate]; omega), .str z, by show ((x :: y :: r).map D.str)[j]? = _; rw [List.getElem?_map, ej]; rfl, ?_⟩
    rw [w_gN]
    rw [show ∀ s, fYes s h' = .ok true h' from fun _ => rfl, w_ok, if_pos rfl]
    show Ok (fCall _ _ [some (.tup [.str x, .str y, rowD r]), some (.dic false K), some (.str x), some (.str y), some (rowD r), some (.str z)] h') _
    rw [w_call, w_Co, w_V]
    refine ⟨_, rfl, ?_⟩
    rw [w_Co, w_V]
    refine ⟨_, rfl, ?_⟩
    rw [w_N]
    exact isKnown_ok ((kn z).trans (decide_eq_true (all z mz))) ⟨rfl, by rw [List.replicate_succ']⟩
  · rintro acc h' ⟨rfl, rfl⟩
    refine ⟨rfl, ?_⟩
    rw [w_N]
    exact ⟨_, _, all_true, q⟩
abbrev keyP (p : Str × Str) : List Key := [.inr p.1, .inr p.2]
theorem hasL_none {ps : List (Str × Str)} {p : Str × Str} (n : p ∉ ps) : hasL (ps.map keyP) (keyP p) = false := by
  unfold hasL
  rw [List.any_eq_false]
  intro k hk
  obtain ⟨p', hp, rfl⟩ := List.mem_map.mp hk
  simp only [decide_eq_true_eq]
  intro e
  have : p' = p := by
    obtain ⟨a, b⟩ := p'
    obtain ⟨c, d⟩ := p
    have e : ([.inr a, .inr b] : List Key) = [.inr c, .inr d] := e
    injection e with e1 e2
    injection e1 with e1
    injection e2 with e2 _
    injection e2 with e2
    rw [e1, e2]
  rw [this] at hp
  exact n hp
theorem checkRules_ok {K : List (D × D)} {ns : List Str} {rs : Tab} {h : Hh} {Q : D → Hh → Prop} (kn : KnAt K ns) (hr : ∀ e ∈ rs, e.1.1 ∈ ns ∧ e.1.2 ∈ ns ∧ e.2.length ≤ 1 ∧ ∀ x ∈ e.2, x ∈ ns) (nd : (rs.map (·.1)).Nodup) (hl : rs.length ≤ 50) (q : ∀ h', Kp h h' → Q .non h') : Ok (F_check_rules [.tup (rs.map ruleD), .dic false K] h) Q := by
  unfold F_check_rules f_check_rules
  rw [w_callB]
  refine ⟨rfl, ?_⟩
  show OkS (gSeq _ _ [some (.tup (rs.map ruleD)), some (.dic false K), none, none] h) _
  refine s_det (s1 := [some (.tup (rs.map ruleD)), some (.dic false K), some (.ref h.length), none]) (h1 := h ++ [.set (([] : List (Str × Str)).map keyP)]) ?_ ?_
  · rw [s_set, show ∀ s, fSet0 s h = .ok (.ref h.length) (h ++ [.set []]) from fun _ => rfl, w_ok]
    exact ⟨rfl, rfl⟩
  refine s_forL (l := rs.map ruleD) (fun i s' h' => ∃ v3, s' = [some (.tup (rs.map ruleD)), some (.dic false K), some (.ref h.length), v3] ∧ h' = h ++ [.set (((rs.take i).map (·.1)).map keyP)]) ?_ ?_ ?_
  · simp only [Lg.w_ok, Lg.w_V, Lg.w_C, Lg.w_N, Lg.w_Co, Lg.w_op, Lg.w_B, Lg.w_CB, Lg.w_call, Lg.w_tup, Lg.w_lst, Lg.w_lstN, Lg.w_if, Lg.w_not, Lg.w_and, Lg.w_or, Lg.w_tru, Lg.w_pop, Lg.w_app, Lg.s_seq, Lg.s_nx, Lg.s_set, Lg.s_par, Lg.s_rt, Lg.s_rtN, Lg.s_ex, Lg.s_if, Lg.s_asg, Lg.w_sub, Lg.w_gN, Lg.w_callB, Lg.w_lc, Lg.w_lcN, Lg.w_sl, Lg.w_O0, Lg.w_O, Lg.w_revN, Lg.s_par3]
    exact ⟨_, rfl, .inl rfl, none, rfl, rfl⟩
  · rintro i d s1 h1 hi ⟨v3, rfl, rfl⟩
    obtain ⟨e, he, rfl, me⟩ := rule_item hi
    obtain ⟨r1, r2, r3, r4⟩ := hr e me
    have li : i < rs.length := (List.getElem?_eq_some_iff.mp he).1
    have hs : (h ++ [O.set (((rs.take i).map (·.1)).map keyP)])[h.length]? = some (.set (((rs.take i).map (·.1)).map keyP)) := by simp
    have nw : e.1 ∉ (rs.take i).map (·.1) := by
      have e0 : rs = rs.take i ++ rs.drop i := (List.take_append_drop i rs).symm
      rw [e0, List.map_append, List.nodup_append] at nd
      intro z
      refine nd.2.2 e.1 z e.1 ?_ rfl
      rw [List.drop_eq_getElem_cons li, (List.getElem?_eq_some_iff.mp he).2]
      exact List.mem_cons_self
    have cut : opSl (h ++ [O.set (((rs.take i).map (·.1)).map keyP)]) (ruleD e) none (some 2) = some (.tup [.str e.1.1, .str e.1.2]) := rfl
    rw [w_gN]
    show OkS (gSeq _ _ [some (.tup (rs.map ruleD)), some (.dic false K), some (.ref h.length), some (ruleD e)] (h ++ [.set (((rs.take i).map (·.1)).map keyP)])) _
    refine s_det (s1 := [some (.tup (rs.map ruleD)), some (.dic false K), some (.ref h.length), some (ruleD e)]) (h1 := h ++ [.set (((rs.take i).map (·.1)).map keyP)]) ?_ ?_
    · rw [s_if, w_or, w_not, w_B, w_call, w_Co, w_V]
      refine ⟨_, rfl, ?_⟩
      rw [w_Co, w_V]
      refine ⟨_, rfl, ?_⟩
      rw [w_N]
      refine isRule_ok kn r1 r2 r3 r4 ⟨true, rfl, ?_⟩
      rw [if_neg (by decide), w_B, w_op, w_sl, w_V]
      refine ⟨_, rfl, ?_⟩
      rw [w_O0, w_O, w_C]
      refine ⟨2, rfl, _, cut, ?_⟩
      rw [w_V]
      refine ⟨_, rfl, .bl false, ?_, false, rfl, ?_⟩
      · show (isInS _ (.tup [.str e.1.1, .str e.1.2]) (.ref h.length)).map D.bl = _
        unfold isInS
        rw [show setAt (h ++ [O.set (((rs.take i).map (·.1)).map keyP)]) (.ref h.length) = some (((rs.take i).map (·.1)).map keyP) by simp [setAt]]
        dsimp only
        rw [show keyT (.tup [.str e.1.1, .str e.1.2]) = some (keyP e.1) from rfl, Option.map_some, hasL_none nw]
        rfl
      rw [if_neg Bool.false_ne_true, s_nx]
      exact ⟨rfl, rfl⟩
    rw [s_ex]
    refine w_sadd ?_
    rw [w_V]
    refine ⟨_, rfl, h.length, _, rfl, hs, ?_⟩
    rw [w_sl, w_V]
    refine ⟨_, rfl, ?_⟩
    rw [w_O0, w_O, w_C]
    refine ⟨2, rfl, _, cut, _, keyP e.1, hs, rfl, by rw [List.length_map, List.length_map, List.length_take]; omega, some (ruleD e), rfl, ?_⟩
    rw [hasL_none nw, if_neg Bool.false_ne_true, List.take_add_one, he]
    simp
  · rintro s1 h1 ⟨v3, rfl, rfl⟩
    exact q _ ⟨by simp, fun i hi => List.getElem?_append_left hi⟩
end L4
set_option Elab.async false
set_option linter.all false
set_option maxRecDepth 100000
set_option maxHeartbeats 2000000
namespace L4
open PySem PySem.Spec PyProof.Rows L2 Lg
open Lf (EndsOf Small Closed clashL isClash Fd Fds Net nf2)
theorem pairs_nodup {ns : List Str} (nd : ns.Nodup) : (pairsL ns).Nodup := by
  unfold pairsL
  have gen : ∀ l : List Str, l.Nodup → (l.flatMap fun a => ns.map fun b => (a, b)).Nodup := by
    intro l
    induction l with
    | nil => intro _; simp
    | cons a l ih =>
      intro h
      rw [List.nodup_cons] at h
      rw [List.flatMap_cons, List.nodup_append]
      refine ⟨?_, ih h.2, ?_⟩
      · have : ∀ m : List Str, m.Nodup → (m.map fun b => (a, b)).Nodup := by
          intro m
          induction m with
          | nil => intro _; simp
          | cons b m im =>
            intro k
            rw [List.nodup_cons] at k
            rw [List.map_cons, List.nodup_cons]
            refine ⟨?_, im k.2⟩
            intro w
            obtain ⟨c, hc, e⟩ := List.mem_map.mp w
            have : c = b := (Prod.mk.inj e).2
            rw [this] at hc
            exact k.1 hc
        exact this ns nd
      · intro p hp q hq e
        obtain ⟨b, _, rfl⟩ := List.mem_map.mp hp
        obtain ⟨c, hc, hq⟩ := List.mem_flatMap.mp hq
        obtain ⟨d, _, rfl⟩ := List.mem_map.mp hq
        have : a = c := (Prod.mk.inj e).1
        rw [this] at h
        exact h.1 hc
  exact gen ns nd
theorem mem_pairs {ns : List Str} {x y : Str} : (x, y) ∈ pairsL ns ↔ x ∈ ns ∧ y ∈ ns := by
  unfold pairsL
  rw [List.mem_flatMap]
  constructor
  · rintro ⟨a, ha, h⟩
    obtain ⟨b, hb, e⟩ := List.mem_map.mp h
    cases e
    exact ⟨ha, hb⟩
  · rintro ⟨ha, hb⟩
    exact ⟨x, ha, List.mem_map.mpr ⟨y, hb, rfl⟩⟩
theorem rules_fst {T : Tab} : ∀ l : List (Str × Str), (l.filterMap fun p => (lookT T p.1 p.2).map fun r => (p, r)).map (·.1) = l.filter fun p => (lookT T p.1 p.2).isSome
  | [] => rfl
  | p :: l => by
    have ih := rules_fst (T := T) l
    rw [List.filterMap_cons, List.filter_cons]
    cases e : lookT T p.1 p.2 with
    | none => simpa using ih
    | some r => simpa using ih
theorem rules_facts {ns : List Str} {T : Tab} (nd : ns.Nodup) (tok : TabOk ns T) : (∀ e ∈ rulesL ns T, lookT T e.1.1 e.1.2 = some e.2) ∧ ((rulesL ns T).map (·.1)).Nodup ∧ (∀ x y, lookT (resT [] (rulesL ns T)) x y = lookT T x y) ∧ (rulesL ns T).length ≤ ns.length * ns.length := by
  have h1 : ∀ e ∈ rulesL ns T, lookT T e.1.1 e.1.2 = some e.2 := fun e he => by
    obtain ⟨p, hp, q⟩ := List.mem_filterMap.mp he
    cases w : lookT T p.1 p.2 with
    | none => rw [w] at q; cases q
    | some r => rw [w] at q; cases q; exact w
  have hf := rules_fst (T := T) (pairsL ns)
  refine ⟨h1, ?_, ?_, ?_⟩
  · show ((rulesL ns T).map (·.1)).Nodup
    unfold rulesL
    rw [hf]
    exact (pairs_nodup nd).filter _
  · intro x y
    rw [look_resT _ _ h1]
    by_cases c : (x, y) ∈ (rulesL ns T).map (·.1)
    · rw [if_pos c]
    · rw [if_neg c]
      cases w : lookT T x y with
      | none => rfl
      | some r =>
        refine absurd ?_ c
        unfold rulesL
        rw [hf, List.mem_filter]
        have k := tok.ok x y r w
        exact ⟨mem_pairs.mpr ⟨k.1, k.2.1⟩, by rw [w]; rfl⟩
  · have a := List.length_filterMap_le (fun p : Str × Str => (lookT T p.1 p.2).map fun r => (p, r)) (pairsL ns)
    have b := pairs_len ns ns.length
    rw [List.take_length] at b
    exact Nat.le_trans a b
theorem init_ok {h : Hh} {b : Nat} {ns : List Str} {T : Tab} {Q : D → Hh → Prop} (hb : h[b]? = some (.ins "Book" [])) (ok : NamesOk ns) (hn : ns.length ≤ 6) (n0 : 0 < ns.length) (tok : TabOk ns T) (hc : clashL ns (lookT T) = none)
    (q : ∀ h', h.length ≤ h'.length → (∀ i, i < h.length → i ≠ b → h'[i]? = h[i]?) → BookAt h' b ns T → Q .non h') : Ok (F_Book___init__ (.ref b :: rowD ns :: (rulesL ns T).map ruleD) h) Q := by
  have okt : ∀ x ∈ ns, okT x := fun x hx => (pool_okN x (ok.pool x hx)).1
  obtain ⟨f1, f2, f3, f4⟩ := rules_facts ok.nd tok
  have sq : ns.length * ns.length ≤ 6 * 6 := Nat.mul_le_mul hn hn
  have okr : ∀ e ∈ rulesL ns T, okT e.1.1 ∧ okT e.1.2 ∧ ∀ x ∈ e.2, okT x := fun e he => by
    have k := tok.ok _ _ _ (f1 e he)
    exact ⟨okt _ k.1, okt _ k.2.1, fun x hx => okt x (k.2.2.2 x hx)⟩
  have inr : ∀ e ∈ rulesL ns T, e.1.1 ∈ ns ∧ e.1.2 ∈ ns ∧ e.2.length ≤ 1 ∧ ∀ x ∈ e.2, x ∈ ns := fun e he => tok.ok _ _ _ (f1 e he)
  generalize rulesL ns T = rs at f1 f2 f3 f4 okr inr ⊢
  unfold F_Book___init__ f_Book___init__
  rw [w_callS]
  refine ⟨⟨by simp, decide_eq_true (by simp; omega)⟩, ?_⟩
  show OkS (gSeq _ _ [some (.ref b), some (rowD ns), some (.tup (rs.map ruleD)), none, none] h) _
  refine s_det (s1 := [some (.ref b), some (rowD ns), some (.tup (rs.map ruleD)), none, none]) (h1 := h) ?_ ?_
  · rw [s_if, w_not, w_B, w_call, w_Co, w_V]
    refine ⟨_, rfl, ?_⟩
    rw [w_N]
    refine entries_ok ok (by omega) n0 ⟨true, rfl, ?_⟩
    rw [if_neg (by decide), s_nx]
    exact ⟨rfl, rfl⟩
  refine s_cut (fun s' h' => ∃ K, s' = [some (.ref b), some (rowD ns), some (.tup (rs.map ruleD)), some (.dic false K), none] ∧ h' = h ∧ KnAt K ns) ?_ ?_
  · rw [s_set, w_call, w_Co, w_V]
    refine ⟨_, rfl, ?_⟩
    rw [w_N]
    exact known_ok (by omega) fun K kn => ⟨K, rfl, rfl, kn⟩
  rintro s1 h1 ⟨K, rfl, rfl, kn⟩
  refine s_cut (fun s' h' => s' = [some (.ref b), some (rowD ns), some (.tup (rs.map ruleD)), some (.dic false K), none] ∧ Kp h1 h') ?_ ?_
  · rw [s_ex, w_call, w_Co, w_V]
    refine ⟨_, rfl, ?_⟩
    rw [w_Co, w_V]
    refine ⟨_, rfl, ?_⟩
    rw [w_N]
    exact checkRules_ok kn inr f2 (by omega) fun h' kp => ⟨rfl, kp⟩
  rintro s2 h2 ⟨rfl, kp2⟩
  refine s_cut (fun s' h' => s' = [some (.ref b), some (rowD ns), some (.tup (rs.map ruleD)), some (.dic false K), some .non] ∧ Kp h1 h') ?_ ?_
  · rw [s_set, w_call, w_Co, w_V]
    refine ⟨_, rfl, ?_⟩
    refine w_CSt (l := rs.map ruleD) ?_
    rw [w_V]
    refine ⟨_, rfl, rfl, ?_⟩
    rw [w_N, List.append_nil]
    exact clashOf_ok (by omega) (by omega) okt tok f1 f3 hc fun h' kp => ⟨rfl, kp2.trans kp⟩
  rintro s3 h3 ⟨rfl, kp3⟩
  have hb3 : h3[b]? = some (.ins "Book" []) := kp3.at_ hb
  have lb : b < h3.length := (List.getElem?_eq_some_iff.mp hb3).1
  refine s_det (s1 := [some (.ref b), some (rowD ns), some (.tup (rs.map ruleD)), some (.dic false K), some .non]) (h1 := h3) ?_ ?_
  · rw [s_if, w_B, w_op, w_V]
    refine ⟨_, rfl, ?_⟩
    rw [w_C]
    refine ⟨.bl false, rfl, false, rfl, ?_⟩
    rw [if_neg Bool.false_ne_true, s_nx]
    exact ⟨rfl, rfl⟩
  -- the fields
  have fld : ∀ {s : Lg.S} {h' : Hh} {fl : List (Str × D)} {v : D} {f : Str} {fe : FE} {G : Gs}, s[0]? = some (some (.ref b)) → h' = h3.set b (.ins "Book" fl) → fl.length < 900 → (Ok (fe s h') fun y h2 => y = v ∧ h2 = h') → G.nx s (h3.set b (.ins "Book" (putD f v fl))) → OkS (Lg.gFld "Book" f fe (fV 0) s h') G := fun {s h' fl v f fe G} e0 eh el ev z => by
    refine w_gFld ?_
    refine ev.mono fun y h2 ⟨ey, e2⟩ => ?_
    subst ey e2 eh
    rw [w_V]
    refine ⟨_, e0, b, fl, rfl, List.getElem?_set_self lb, el, ?_⟩
    rw [List.set_set]
    exact z
  refine s_det (s1 := [some (.ref b), some (rowD ns), some (.tup (rs.map ruleD)), some (.dic false K), some .non]) (h1 := h3.set b (.ins "Book" [("_entries", rowD ns)])) ?_ ?_
  · refine fld (fl := []) (v := rowD ns) rfl (set_same hb3).symm (by decide) ?_ ⟨rfl, rfl⟩
    rw [w_V]
    exact ⟨_, rfl, rfl, rfl⟩
  obtain ⟨l, el, pl⟩ := sort_rules (h := h3.set b (.ins "Book" [("_entries", rowD ns)])) okr
  refine s_det (s1 := [some (.ref b), some (rowD ns), some (.tup (rs.map ruleD)), some (.dic false K), some .non]) (h1 := h3.set b (.ins "Book" [("_entries", rowD ns), ("_rules", .tup l)])) ?_ ?_
  · refine fld (fl := [("_entries", rowD ns)]) (v := .tup l) rfl rfl (by simp) ?_ ⟨rfl, rfl⟩
    rw [w_CB, w_Co, w_CB, w_Co, w_V]
    refine ⟨_, rfl, ?_⟩
    rw [w_N]
    refine ⟨.lst l, h3.set b (.ins "Book" [("_entries", rowD ns)]), ?_, ?_⟩
    · show ((Lg.asS (h3.set b (.ins "Book" [("_entries", rowD ns)])) (.tup (rs.map ruleD))).bind (sortD (h3.set b (.ins "Book" [("_entries", rowD ns)])))).map (fun l => (D.lst l, h3.set b (.ins "Book" [("_entries", rowD ns)]))) = _
      rw [show ∀ h, Lg.asS h (.tup (rs.map ruleD)) = some (rs.map ruleD) from fun _ => rfl, Option.bind_some, el]
      rfl
    rw [w_N]
    exact ⟨_, _, rfl, rfl, rfl⟩
  refine s_det (s1 := [some (.ref b), some (rowD ns), some (.tup (rs.map ruleD)), some (.dic false K), some .non]) (h1 := h3.set b (.ins "Book" [("_entries", rowD ns), ("_rules", .tup l), ("_known", .dic false K)])) ?_ ?_
  · refine fld (fl := [("_entries", rowD ns), ("_rules", .tup l)]) (v := .dic false K) rfl rfl (by simp) ?_ ⟨rfl, rfl⟩
    rw [w_V]
    exact ⟨_, rfl, rfl, rfl⟩
  refine fld (fl := [("_entries", rowD ns), ("_rules", .tup l), ("_known", .dic false K)]) (v := .dic true (encT (resT [] rs))) rfl rfl (by simp) ?_ ?_
  · rw [w_call, w_Co, w_V]
    refine ⟨_, rfl, ?_⟩
    rw [w_N]
    exact results_ok (by omega) ⟨rfl, rfl⟩
  · refine q _ (by rw [List.length_set]; exact kp3.len) (fun i hi ne => ?_) ⟨.tup l, K, resT [] rs, List.getElem?_set_self lb, kn, f3⟩
    rw [List.getElem?_set_ne (Ne.symm ne)]
    exact kp3.st i hi
theorem of_ok {a : Addr} {h : Hh} {ns : List Str} {T : Tab} {Q : D → Hh → Prop} (ok : NamesOk ns) (hn : ns.length ≤ 6) (n0 : 0 < ns.length) (tok : TabOk ns T) (hc : clashL ns (lookT T) = none)
    (q : ∀ b h', h.length ≤ b → Kp h h' → BookAt h' b ns T → Q (.ref b) h') : Ok (F_Book_of a [.fix a, rowD ns, .tup ((rulesL ns T).map ruleD)] h) Q := by
  unfold F_Book_of f_Book_of
  rw [w_callB]
  refine ⟨rfl, ?_⟩
  show OkS (gSeq _ _ [some (.fix a), some (rowD ns), some (.tup ((rulesL ns T).map ruleD))] h) _
  refine s_det (s1 := [some (.fix a), some (rowD ns), some (.tup ((rulesL ns T).map ruleD))]) (h1 := h) ?_ ?_
  · rw [s_if, w_not, w_B, w_call, w_Co, w_V]
    refine ⟨_, rfl, ?_⟩
    rw [w_N]
    refine entries_ok ok (by omega) n0 ⟨true, rfl, ?_⟩
    rw [if_neg (by decide), s_nx]
    exact ⟨rfl, rfl⟩
  refine s_det (s1 := [some (.fix a), some (rowD ns), some (.tup ((rulesL ns T).map ruleD))]) (h1 := h) ?_ ?_
  · rw [s_if, w_not, w_B]
    refine w_isi ?_
    rw [w_V]
    refine ⟨_, rfl, "tuple", rfl, true, rfl, ?_⟩
    rw [if_neg (by decide), s_nx]
    exact ⟨rfl, rfl⟩
  rw [s_rt]
  refine w_var rfl ?_
  rw [w_call, w_Co, w_V]
  refine ⟨_, rfl, ?_⟩
  refine w_CSt (l := (rulesL ns T).map ruleD) ?_
  rw [w_V]
  refine ⟨_, rfl, rfl, ?_⟩
  rw [w_N, List.append_nil]
  refine w_mkD ?_
  refine init_ok (by simp) ok hn n0 tok hc fun h' l st bk => ⟨rfl, ?_⟩
  rw [List.length_append] at l
  exact q _ h' (Nat.le_refl _) ⟨Nat.le_trans (Nat.le_add_right _ _) l, fun i hi => by
    rw [st i (by rw [List.length_append]; omega) (by omega), List.getElem?_append_left hi]⟩ bk
end L4
set_option Elab.async false
set_option linter.all false
set_option maxRecDepth 100000
set_option maxHeartbeats 2000000
namespace Lg
open PySem PySem.Spec PyProof.Rows L2
section
variable {s : S} {h : Hh} {G : Gs} {fo : FE} {fs fk : FA} {P : D → Hh → Prop} {C m : Str} {F : List D → Hh → Oc D} {n i : Nat} {gb : FS} {gs : Addr → Addr → FS}
theorem ok_eq {α : Type} {o : Oc α} {a : α} (x : Ok o fun d h' => d = a ∧ h' = h) : o = .ok a h := by
  unfold Ok at x
  cases o with
  | ok d h' => obtain ⟨rfl, rfl⟩ := x; rfl
  | _ => exact x.elim
theorem w_methK (k : Ok (fo s h) fun d h1 => ∃ fl, insAt h1 C d = some fl ∧ fl.lookup m = none ∧ Ok (fs s h1) fun ds h2 => Ok (fk s h2) fun es h3 => es.length = n ∧ Ok (F (d :: (ds ++ es)) h3) P) : Ok (fMethK C m n F fo fs fk s h) P := by
  unfold fMethK
  rw [w_bind]
  refine k.mono fun d h1 ⟨fl, e1, e2, z⟩ => ?_
  rw [e1]
  dsimp only
  rw [e2, if_neg (by simp), w_bind]
  refine z.mono fun ds h2 z => ?_
  rw [w_bind]
  refine z.mono fun es h3 ⟨l, z⟩ => ?_
  rw [if_pos l]
  exact z
theorem s_tryok {ca : List (Str × Bool)} (x : OkS (gb s h) G) : OkS (gTry ca i gb gs s h) G := by
  unfold gTry
  cases q : gb s h with
  | ex y s1 h1 => rw [q, k_ex] at x; exact x.elim
  | nx s1 h1 => rw [q] at x; exact x
  | rt s1 h1 => rw [q] at x; exact x
  | bk s1 h1 => rw [q] at x; exact x
  | ct s1 h1 => rw [q] at x; exact x
  | no => rw [q] at x; exact x
theorem s_tryex {f : Str} {e : D} {s1 : S} {h1 : Hh} (q : gb s h = .ex ⟨C, some (f, e)⟩ s1 h1) (hi : i < s1.length) (x : OkS ((gs 0 0 (s1.set i (some (.exc 0 0 f e))) h1).wp i) G) : OkS (gTry [(C, true)] i gb gs s h) G := by
  unfold gTry
  rw [q]
  dsimp only
  rw [show ([(C, true)] : List (Str × Bool)).lookup C = some true by simp [List.lookup]]
  dsimp only
  rw [if_pos hi]
  exact x
end
theorem co_ex {s : S} {h h1 : Hh} {fa : FE} {fs : FA} {x : Xn} (e : fa s h = .ex x h1) : fCo fa fs s h = .ex x h1 := by
  unfold fCo
  rw [e]
  rfl
theorem co_ex2 {s : S} {h h1 h2 : Hh} {d : D} {fa : FE} {fs : FA} {x : Xn} (e : fa s h = .ok d h1) (e2 : fs s h1 = .ex x h2) : fCo fa fs s h = .ex x h2 := by
  unfold fCo
  rw [e, Oc.bind_ok, e2]
  rfl
theorem lst_ex {s : S} {h h1 : Hh} {fs : FA} {x : Xn} (e : fs s h = .ex x h1) : fLst fs s h = .ex x h1 := by
  unfold fLst
  rw [e]
  rfl
theorem set_ex {s : S} {h h1 : Hh} {fa : FE} {i : Nat} {x : Xn} (e : fa s h = .ex x h1) : gSet i fa s h = .ex x s h1 := by
  unfold gSet
  rw [e]
  rfl
/-- the kinds of values here -/
def plain : D → Bool
  | .non | .bl _ | .int _ | .str _ | .tup _ | .lst _ | .dic _ _ => true
  | _ => false
def isIntD : D → Bool
  | .int _ => true
  | _ => false
def inK (ks : List Nat) : D → Bool
  | .int i => ks.any fun k => decide ((k : Int) = i)
  | _ => false
theorem eq_int {h : Hh} {i j : Int} : opEq h (.int i) (.int j) = some (.bl (decide (i = j))) := by
  unfold opEq
  rw [eqP_of (rfl : py h 66 (.int i) = some (.int i)) (rfl : py h 66 (.int j) = some (.int j)) ((Fine.int (k := 0) i).shaped (by decide)) ((Fine.int (k := 0) j).shaped (by decide))]
  rw [show PyData.eqv (.int i) (.int j) = (i == j) by simp [PyData.eqv]]
  by_cases c : i = j
  · simp [c]
  · simp [c]
end Lg
namespace L4
open PySem PySem.Spec PyProof.Rows L2 Lg
open Lf (EndsOf Small Closed clashL isClash Fd Fds Net)
theorem any_int {ks : List Nat} {i : Int} : ((ks.map fun k => D.int (k : Nat)).any fun e => eqF e (.int i)) = inK ks (.int i) := by
  unfold inK
  rw [List.any_map]
  congr 1
theorem flat_ints (ks : List Nat) : (ks.map fun k => D.int (k : Nat)).all flatD = true := by
  rw [List.all_eq_true]
  intro d hd
  obtain ⟨j, _, rfl⟩ := List.mem_map.mp hd
  rfl
theorem niS_int {h : Hh} {ks : List Nat} {i : Int} : opNiS h (.int i) (mapD ks) = some (.bl (!inK ks (.int i))) := by
  unfold opNiS isInS isIn
  rw [show setAt h (mapD ks) = none from rfl]
  dsimp only
  rw [show Lg.asD h (mapD ks) = none from rfl]
  dsimp only
  rw [show Lg.asS h (mapD ks) = some (ks.map fun k => D.int (k : Nat)) from rfl]
  dsimp only
  rw [flat_ints, any_int]
  rfl
theorem inS_int {h : Hh} {ks : List Nat} {i : Int} : opInS h (.int i) (.lst (ks.map fun k => D.int (k : Nat))) = some (.bl (inK ks (.int i))) := by
  unfold opInS isInS isIn
  rw [show setAt h (.lst (ks.map fun k => D.int (k : Nat))) = none from rfl]
  dsimp only
  rw [show Lg.asD h (.lst (ks.map fun k => D.int (k : Nat))) = none from rfl]
  dsimp only
  rw [show Lg.asS h (.lst (ks.map fun k => D.int (k : Nat))) = some (ks.map fun k => D.int (k : Nat)) from rfl]
  dsimp only
  rw [flat_ints, any_int]
  rfl
theorem isInt_all {h : Hh} {v : D} {Q : D → Hh → Prop} (p : plain v = true) (q : Q (.bl (isIntD v)) h) : Ok (F_is_integer [v] h) Q := by
  unfold F_is_integer f_is_integer
  rw [w_callB]
  refine ⟨rfl, ?_⟩
  show OkS (gRt _ [some v] h) _
  rw [s_rt]
  refine w_andV ?_
  refine w_isi ?_
  rw [w_V]
  have no : ∀ t, tyD h v = some t → isT t "int" = false → isIntD v = false → ∃ t, tyD h v = some t ∧ ∃ b, D.bl (isT t "int") = .bl b ∧ if b = true then Ok (fNotV (fIsI "bool" (fV 0)) [some v] h) (fun d h => Q d h) else Q (.bl false) h := fun t e1 e2 e3 => by
    refine ⟨t, e1, _, rfl, ?_⟩
    rw [e2, if_neg Bool.false_ne_true]
    rw [e3] at q
    exact q
  refine ⟨v, rfl, ?_⟩
  cases v with
  | int i =>
    refine ⟨"int", rfl, true, rfl, ?_⟩
    rw [if_pos rfl]
    refine w_notV ?_
    refine w_isi ?_
    rw [w_V]
    exact ⟨_, rfl, "int", rfl, false, rfl, q⟩
  | bl b =>
    refine ⟨"bool", rfl, true, rfl, ?_⟩
    rw [if_pos rfl]
    refine w_notV ?_
    refine w_isi ?_
    rw [w_V]
    exact ⟨_, rfl, "bool", rfl, true, rfl, q⟩
  | non => exact no "NoneType" rfl rfl rfl
  | str x => exact no "str" rfl rfl rfl
  | tup l => exact no "tuple" rfl rfl rfl
  | lst l => exact no "list" rfl rfl rfl
  | dic t l => exact no "dict" rfl rfl rfl
  | _ => cases p
/-- it cannot be folded there -/
def NoAt (T : Tab) (l : List Str) (v : D) : Prop := plain v = true ∧ (isIntD v = true → inK (spotsL T l) v = false)
theorem foldedX {h : Hh} {b : Nat} {ns l : List Str} {T : Tab} {v : D} (bk : BookAt h b ns T) (hl : l.length < 1000000) (nv : NoAt T l v) : F_Book_folded [.ref b, rowD l, v] h = .ex ⟨"NoFold", some ("index", v)⟩ h := by
  obtain ⟨fl, i1, i2, i3, i4, i5, i6, i7, i8⟩ := bk.meth
  have c : (fOr (fNot (fB (fCall F_is_integer (fCo (fV 2) fN)))) (fB (fOp opNiS (fV 2) (fMeth "Book" "folds" F_Book_folds (fV 0) (fCo (fV 1) fN))))) [some (.ref b), some (rowD l), some v] h = .ok true h := by
    refine ok_eq ?_
    rw [w_or, w_not, w_B, w_call, w_Co, w_V]
    refine ⟨_, rfl, ?_⟩
    rw [w_N]
    refine isInt_all nv.1 ⟨_, rfl, ?_⟩
    cases e : isIntD v with
    | false => exact ⟨rfl, rfl⟩
    | true =>
      rw [if_neg (by decide), w_B, w_op, w_V]
      refine ⟨_, rfl, ?_⟩
      refine w_meth ?_
      rw [w_V]
      refine ⟨_, rfl, fl, i1, i5, ?_⟩
      rw [w_Co, w_V]
      refine ⟨_, rfl, ?_⟩
      rw [w_N]
      refine folds_ok bk hl ?_
      have z := nv.2 e
      cases v with
      | int i =>
        refine ⟨_, niS_int, _, rfl, ?_⟩
        rw [z]
        exact ⟨rfl, rfl⟩
      | _ => cases e
  unfold F_Book_folded f_Book_folded
  show (if _ then (gSeq (gIf _ _ _) _ [some (.ref b), some (rowD l), some v] h).fin else _) = _
  rw [if_pos (show [D.ref b, rowD l, v].length = 3 from rfl)]
  unfold gSeq gIf
  rw [c]
  rfl
theorem folded2X {h : Hh} {b : Nat} {l : List Str} {v : D} : F_Book_folded_index_row [.ref b, v, rowD l] h = F_Book_folded [.ref b, rowD l, v] h := rfl
/-- what _law_folded tells -/
theorem lfolded_row {h : Hh} {b k : Nat} {w : Int} {ns l : List Str} {T : Tab} {Q : D → Hh → Prop} (bk : BookAt h b ns T) (hl : l.length < 1000000) (hk : spotAt T l k = true) (tok : TabOk ns T) (q : Q (.lst [.str "row", rowD (onceL T l k)]) h) : Ok (F__law_folded [.ref b, rowD l, .int k, .int w] h) Q := by
  obtain ⟨fl, i1, i2, i3, i4, i5, i6, i7, i8⟩ := bk.meth
  unfold F__law_folded f__law_folded
  rw [w_callB]
  refine ⟨rfl, ?_⟩
  show OkS (gSeq _ _ [some (.ref b), some (rowD l), some (.int k), some (.int w), none, none] h) _
  rw [s_seq, s_set, w_C]
  show OkS (gSeq _ _ [some (.ref b), some (rowD l), some (.int k), some (.int w), some .non, none] h) _
  refine s_det (s1 := [some (.ref b), some (rowD l), some (.int k), some (.int w), some (.lst [.str "row", rowD (onceL T l k)]), none]) (h1 := h) ?_ ?_
  · refine s_tryok ?_
    rw [s_set, w_lst, w_Co, w_C, w_Co, w_if, w_B, w_op, w_V]
    refine ⟨_, rfl, ?_⟩
    rw [w_C]
    refine ⟨_, eq_int, _, rfl, ?_⟩
    by_cases c : w = 0
    · rw [decide_eq_true c, if_pos rfl]
      refine w_meth ?_
      rw [w_V]
      refine ⟨_, rfl, fl, i1, i6, ?_⟩
      rw [w_Co, w_V]
      refine ⟨_, rfl, ?_⟩
      rw [w_Co, w_V]
      refine ⟨_, rfl, ?_⟩
      rw [w_N]
      refine folded_ok bk hl hk tok ?_
      rw [w_N]
      exact ⟨rfl, rfl, rfl⟩
    · rw [decide_eq_false c, if_neg Bool.false_ne_true]
      refine w_methK ?_
      rw [w_V]
      refine ⟨_, rfl, fl, i1, i6, ?_⟩
      rw [w_N, w_Co, w_V]
      refine ⟨_, rfl, ?_⟩
      rw [w_Co, w_V]
      refine ⟨_, rfl, ?_⟩
      rw [w_N]
      refine ⟨rfl, ?_⟩
      show Ok (F_Book_folded_index_row [.ref b, .int k, rowD l] h) _
      rw [folded2X]
      refine folded_ok bk hl hk tok ?_
      rw [w_N]
      exact ⟨rfl, rfl, rfl⟩
  rw [s_rt, w_V]
  exact ⟨_, rfl, q⟩
theorem lfolded_none {h : Hh} {b : Nat} {w : Int} {v : D} {ns l : List Str} {T : Tab} {Q : D → Hh → Prop} (bk : BookAt h b ns T) (hl : l.length < 1000000) (nv : NoAt T l v) (q : Q (.lst [.str "none", v]) h) : Ok (F__law_folded [.ref b, rowD l, v, .int w] h) Q := by
  obtain ⟨fl, i1, i2, i3, i4, i5, i6, i7, i8⟩ := bk.meth
  unfold F__law_folded f__law_folded
  rw [w_callB]
  refine ⟨rfl, ?_⟩
  show OkS (gSeq _ _ [some (.ref b), some (rowD l), some v, some (.int w), none, none] h) _
  rw [s_seq, s_set, w_C]
  show OkS (gSeq _ _ [some (.ref b), some (rowD l), some v, some (.int w), some .non, none] h) _
  have lk : (fl.lookup ("folded" : Str)).isSome = false := by rw [i6]; rfl
  have m1 : fMeth "Book" "folded" F_Book_folded (fV 0) (fCo (fV 1) (fCo (fV 2) fN)) [some (.ref b), some (rowD l), some v, some (.int w), some .non, none] h = .ex ⟨"NoFold", some ("index", v)⟩ h := by
    unfold fMeth
    show (match insAt h "Book" (.ref b) with
      | none => _
      | some fl => _) = _
    rw [i1]
    dsimp only
    rw [lk, if_neg Bool.false_ne_true]
    exact foldedX bk hl nv
  have m2 : fMethK "Book" "folded" 2 F_Book_folded_index_row (fV 0) fN (fCo (fV 2) (fCo (fV 1) fN)) [some (.ref b), some (rowD l), some v, some (.int w), some .non, none] h = .ex ⟨"NoFold", some ("index", v)⟩ h := by
    unfold fMethK
    show (match insAt h "Book" (.ref b) with
      | none => _
      | some fl => _) = _
    rw [i1]
    dsimp only
    rw [lk, if_neg Bool.false_ne_true]
    exact foldedX bk hl nv
  have m : fIf (fB (fOp opEq (fV 3) (fC (.int 0)))) (fMeth "Book" "folded" F_Book_folded (fV 0) (fCo (fV 1) (fCo (fV 2) fN))) (fMethK "Book" "folded" 2 F_Book_folded_index_row (fV 0) fN (fCo (fV 2) (fCo (fV 1) fN))) [some (.ref b), some (rowD l), some v, some (.int w), some .non, none] h = .ex ⟨"NoFold", some ("index", v)⟩ h := by
    have c : fB (fOp opEq (fV 3) (fC (.int 0))) [some (.ref b), some (rowD l), some v, some (.int w), some .non, none] h = .ok (decide (w = 0)) h := by
      refine ok_eq ?_
      rw [w_B, w_op, w_V]
      refine ⟨_, rfl, ?_⟩
      rw [w_C]
      exact ⟨_, eq_int, _, rfl, rfl, rfl⟩
    unfold fIf
    rw [c, Oc.bind_ok]
    by_cases c : w = 0
    · rw [decide_eq_true c]; exact m1
    · rw [decide_eq_false c]; exact m2
  refine s_det (s1 := [some (.ref b), some (rowD l), some v, some (.int w), some (.lst [.str "none", v]), none]) (h1 := h) ?_ ?_
  · refine s_tryex (f := "index") (e := v) (s1 := [some (.ref b), some (rowD l), some v, some (.int w), some .non, none]) (h1 := h) ?_ (show 5 < 6 by decide) ?_
    · exact set_ex (lst_ex (co_ex2 rfl (co_ex m)))
    · show OkS (.nx [some (.ref b), some (rowD l), some v, some (.int w), some (.lst [.str "none", v]), none] h) _
      rw [k_nx]
      exact ⟨rfl, rfl⟩
  rw [s_rt, w_V]
  exact ⟨_, rfl, q⟩
end L4
set_option Elab.async false
set_option linter.all false
set_option maxRecDepth 100000
set_option maxHeartbeats 2000000
namespace L4
open PySem PySem.Spec PyProof.Rows L2 Lg
open Lf (EndsOf Small Closed clashL isClash Fd Fds Net)
/-! ### data of this law that can be shown -/
theorem okN_ch {x : Str} (h : okN x) : Ch x := oks_small h.1
theorem nice_row (r : List Str) : Nice (rowD r) (rowP r) := fun h n => by
  show ((r.map D.str).mapM (pyE h (n + 3))).map PyData.tuple = _
  rw [pyE_mapf (g := PyData.str) (fun _ => rfl)]
  rfl
theorem nice_map (ks : List Nat) : Nice (mapD ks) (mapP ks) := fun h n => by
  show ((ks.map fun k => D.int (k : Nat)).mapM (pyE h (n + 3))).map PyData.tuple = _
  rw [pyE_mapf (g := fun k : Nat => PyData.int k) (fun _ => rfl)]
  rfl
theorem sh_row {r : List Str} {B : Nat} (h : ∀ x ∈ r, okN x) (hl : r.length ≤ B) : Sh 1 (B * 84 + 3) (rowP r) := by
  have := Sh.tup (k := 0) (B := 82) (ds := r.map PyData.str) fun d hd => by
    obtain ⟨x, hx, rfl⟩ := List.mem_map.mp hd
    exact Sh.str (n := 8) (okN_ch (h x hx)) (h x hx).2
  rw [List.length_map] at this
  exact this.mono (Nat.le_refl _) (by omega)
theorem sh_map {ks : List Nat} {B : Nat} (h : ∀ k ∈ ks, k < 1000000) (hl : ks.length ≤ B) : Sh 1 (B * 15 + 3) (mapP ks) := by
  have := Sh.tup (k := 0) (B := 13) (ds := ks.map fun k : Nat => PyData.int k) fun d hd => by
    obtain ⟨x, hx, rfl⟩ := List.mem_map.mp hd
    exact Sh.ints (by have := h x hx; omega)
  rw [List.length_map] at this
  exact this.mono (Nat.le_refl _) (by omega)
theorem nice_lst2 {d e : D} {p q : PyData} (a : Nice d p) (b : Nice e q) (h : Hh) : pyE h 66 (.lst [d, e]) = some (.list [p, q]) := by
  show ([d, e].mapM (pyE h 65)).map PyData.list = _
  rw [pyE_cons (a h 61) (pyE_cons (b h 61) rfl)]
  rfl
theorem sh_lst2 {k B : Nat} {p q : PyData} (a : Sh k B p) (b : Sh k B q) : Sh (k + 1) (2 * (B + 2) + 3) (.list [p, q]) := Sh.lst (ds := [p, q]) fun d hd => by
  rcases List.mem_cons.mp hd with rfl | hd
  · exact a
  · rw [List.mem_singleton.mp hd]; exact b
theorem sh_tag {x : Str} {p : PyData} {k B : Nat} (h : Ch x) (l : x.length ≤ 8) (a : Sh k B p) (hB : 82 ≤ B) : Sh (k + 1) (2 * (B + 2) + 3) (.list [.str x, p]) := sh_lst2 ((Sh.str (n := 8) h l).mono (Nat.zero_le _) hB) a
theorem repr2 {h : Hh} {d e : D} {p q : PyData} {k B : Nat} (a : Nice d p) (b : Nice e q) (c : Sh k B p) (c' : Sh k B q) (hk : k ≤ 50) (hB : B ≤ 1000000) : bReprE [.lst [d, e]] h = some (.str (PyData.list [p, q]).shown, h) := reprE_same (nice_lst2 a b h) (sh_lst2 c c') (by omega) (by omega)
theorem nice_str (x : Str) : Nice (.str x) (.str x) := fun _ _ => rfl
/-- what a row has when it is folded once -/
theorem once_facts {ns l : List Str} {T : Tab} {k : Nat} (tok : TabOk ns T) (lo : ∀ x ∈ l, x ∈ ns) (hk : k ∈ spotsL T l) : Fd (lookT T) l (onceL T l k) ∧ (onceL T l k).length < l.length ∧ ∀ x ∈ onceL T l k, x ∈ ns := by
  have mz' : k ∈ Lf.spots (lookT T) l := by rw [spots_M]; exact hk
  have fo := Lf.once_fd mz'
  rw [once_M mz'] at fo
  exact ⟨fo, fo.len tok.small, fo.over (P := fun x => x ∈ ns) (fun x y w e z hz => (tok.ok x y w e).2.2.2 z hz) lo⟩
theorem spots_lt {T : Tab} {l : List Str} {k : Nat} (h : k ∈ spotsL T l) : k < l.length ∧ spotAt T l k = true := by
  obtain ⟨a, b⟩ := List.mem_filter.mp h
  exact ⟨by have := List.mem_range.mp a; omega, b⟩
theorem spots_len (T : Tab) (l : List Str) : (spotsL T l).length ≤ l.length := by
  have := List.length_filter_le (spotAt T l) (List.range (l.length - 1))
  rw [List.length_range] at this
  unfold spotsL
  omega
/-- the indices that are tried beside the ints -/
def ATS : List D := [.non, .bl true, .bl false, .str "0", .tup [], .lst [.int 0], .int (10 ^ 39), .int (-(10 ^ 39)), .dic false []]
/-- an index that is tried: how it is shown -/
structure At (d : D) (p : PyData) : Prop where
  pl : plain d = true
  nc : Nice d p
  sh : Sh 2 60 p
theorem ats_ok : ∀ d ∈ ATS, ∃ p, At d p := by
  intro d hd
  simp only [ATS, List.mem_cons, List.not_mem_nil, or_false] at hd
  rcases hd with rfl | rfl | rfl | rfl | rfl | rfl | rfl | rfl | rfl
  · exact ⟨.none, rfl, fun _ _ => rfl, Sh.non.mono (by decide) (by decide)⟩
  · exact ⟨.bool true, rfl, fun _ _ => rfl, (Sh.bl true).mono (by decide) (by decide)⟩
  · exact ⟨.bool false, rfl, fun _ _ => rfl, (Sh.bl false).mono (by decide) (by decide)⟩
  · exact ⟨.str "0", rfl, fun _ _ => rfl, (Sh.str (n := 1) (Ch.of "0") (by decide)).mono (by decide) (by decide)⟩
  · exact ⟨.tuple [], rfl, fun _ _ => rfl, (Sh.tup (k := 0) (B := 0) (ds := []) (by simp)).mono (by decide) (by decide)⟩
  · exact ⟨.list [.int 0], rfl, fun _ _ => rfl, (Sh.lst (k := 0) (B := 13) (ds := [.int 0]) fun d hd => by rw [List.mem_singleton.mp hd]; exact Sh.ints (by decide)).mono (by decide) (by decide)⟩
  · exact ⟨.int (10 ^ 39), rfl, fun _ _ => rfl, Sh.big.1.mono (by decide) (by decide)⟩
  · exact ⟨.int (-(10 ^ 39)), rfl, fun _ _ => rfl, Sh.big.2.mono (by decide) (by decide)⟩
  · exact ⟨.dict [], rfl, fun _ _ => rfl, Sh.dic0.mono (by decide) (by decide)⟩
theorem at_int {i : Int} (h : i.natAbs < 1000000) : At (.int i) (.int i) := ⟨rfl, fun _ _ => rfl, (Sh.ints h).mono (by decide) (by decide)⟩
theorem w_lrg {s : S} {h : Hh} {fa fb : FE} {P : D → Hh → Prop} (k : Ok (fa s h) fun d h1 => Ok (fb s h1) fun e h2 => ∃ i j, d = .int i ∧ e = .int j ∧ rgB i j = true ∧ P (.lst (rgD i j)) h2) : Ok (fLRg2 fa fb s h) P := by
  unfold fLRg2
  rw [w_bind]
  refine k.mono fun d h1 z => ?_
  rw [w_bind]
  refine z.mono fun e h2 ⟨i, j, e1, e2, c, y⟩ => ?_
  subst e1 e2
  dsimp only
  rw [c, if_pos rfl, w_ok]
  exact y
theorem cond_ok {s : S} {h : Hh} {v : D} {ks : List Nat} {PT : Bool → Hh → Prop} (e6 : s[6]? = some (some v)) (e4 : s[4]? = some (some (.lst (ks.map fun k => D.int (k : Nat))))) (p : plain v = true) (q : PT (isIntD v && inK ks v) h) :
    Ok (fAnd (fB (fIsI "int" (fV 6))) (fAnd (fNot (fB (fIsI "bool" (fV 6)))) (fB (fOp opInS (fV 6) (fV 4)))) s h) PT := by
  rw [w_and, w_B]
  refine w_isi ?_
  rw [w_V]
  refine ⟨v, e6, ?_⟩
  have no : ∀ t, tyD h v = some t → isT t "int" = false → isIntD v = false → ∃ t, tyD h v = some t ∧ ∃ c, D.bl (isT t "int") = .bl c ∧ if c = true then Ok (fAnd (fNot (fB (fIsI "bool" (fV 6)))) (fB (fOp opInS (fV 6) (fV 4))) s h) PT else PT false h := fun t e1 e2 e3 => by
    refine ⟨t, e1, _, rfl, ?_⟩
    rw [e2, if_neg Bool.false_ne_true]
    rw [e3] at q
    exact q
  cases v with
  | int i =>
    refine ⟨"int", rfl, true, rfl, ?_⟩
    rw [if_pos rfl, w_and, w_not, w_B]
    refine w_isi ?_
    rw [w_V]
    refine ⟨_, e6, "int", rfl, false, rfl, ?_⟩
    rw [if_pos (by rfl), w_B, w_op, w_V]
    refine ⟨_, e6, ?_⟩
    rw [w_V]
    exact ⟨_, e4, _, inS_int, _, rfl, q⟩
  | bl b =>
    refine ⟨"bool", rfl, true, rfl, ?_⟩
    rw [if_pos rfl, w_and, w_not, w_B]
    refine w_isi ?_
    rw [w_V]
    refine ⟨_, e6, "bool", rfl, true, rfl, ?_⟩
    rw [if_neg (by decide)]
    exact q
  | non => exact no "NoneType" rfl rfl rfl
  | str x => exact no "str" rfl rfl rfl
  | tup l => exact no "tuple" rfl rfl rfl
  | lst l => exact no "list" rfl rfl rfl
  | dic t l => exact no "dict" rfl rfl rfl
  | _ => cases p
theorem same_ne {h : Hh} {x : Str} : opNeR h (.str x) (.str x) = some (.bl false) := by
  show some (D.bl (!decide (x = x))) = _
  simp
theorem same_eq {h : Hh} {x : Str} : opEqR h (.str x) (.str x) = some (.bl true) := by
  show some (D.bl (decide (x = x))) = _
  simp
theorem foldsRight_ok {n m b t : Nat} {k : Int} {h : Hh} {ns lot : List Str} {T : Tab} {Q : D → Hh → Prop} (dk : Deck n m k h) (hk : k + 1000 ≤ 1000000) (bk : BookAt h b ns T) (tb : TabAt h t T)
    (bn : b ≠ n) (bm : b ≠ m) (tn : t ≠ n) (tm : t ≠ m) (hl : lot.length ≤ 20) (lo : ∀ x ∈ lot, x ∈ ns) (tok : TabOk ns T) (ok : ∀ x ∈ ns, okN x)
    (q : ∀ h' k', Off n m h h' → Deck n m k' h' → k' ≤ k + 50 → Q (.bl true) h') : Ok (F__law_folds_right [.ref n, .ref b, .ref t, rowD lot] h) Q := by
  have lt : t < h.length := (List.getElem?_eq_some_iff.mp tb).1
  have nlot := nice_row lot
  have slot : Sh 1 (20 * 84 + 3) (rowP lot) := sh_row (fun x hx => ok x (lo x hx)) hl
  have nsp := nice_map (spotsL T lot)
  have ssp : Sh 1 (20 * 15 + 3) (mapP (spotsL T lot)) := sh_map (fun z hz => by have := (spots_lt hz).1; omega) (Nat.le_trans (spots_len T lot) hl)
  obtain ⟨fl, i1, i2, i3, i4, i5, i6, i7, i8⟩ := bk.meth
  unfold F__law_folds_right f__law_folds_right
  rw [w_callB]
  refine ⟨rfl, ?_⟩
  show OkS (gSeq _ _ [some (.ref n), some (.ref b), some (.ref t), some (rowD lot), none, none, none, none] h) _
  let st : Option D → Option D → S := fun v6 v7 => [some (.ref n), some (.ref b), some (.ref t), some (rowD lot), some (.lst ((spotsL T lot).map fun i => D.int (i : Nat))), some (.str (rowP lot).shown), v6, v7]
  refine s_det (s1 := st none none) (h1 := h) ?_ ?_
  · rw [s_par, w_call, w_Co, w_V]
    refine ⟨_, rfl, ?_⟩
    rw [w_Co, w_V]
    refine ⟨_, rfl, ?_⟩
    rw [w_N]
    refine spots_ok tb (by omega) ?_
    rw [w_CB, w_Co, w_V]
    refine ⟨_, rfl, ?_⟩
    rw [w_N]
    exact ⟨_, _, reprE_same (nlot h 62) slot (by decide) (by decide), rfl, rfl⟩
  refine s_det (s1 := st none none) (h1 := h) ?_ ?_
  · rw [s_if, w_B, w_op, w_CB, w_Co, w_lst, w_Co]
    refine w_meth ?_
    rw [w_V]
    refine ⟨_, rfl, fl, i1, i5, ?_⟩
    rw [w_Co, w_V]
    refine ⟨_, rfl, ?_⟩
    rw [w_N]
    refine folds_ok bk (by omega) ?_
    rw [w_Co]
    refine w_methK ?_
    rw [w_V]
    refine ⟨_, rfl, fl, i1, i5, ?_⟩
    rw [w_N, w_Co, w_V]
    refine ⟨_, rfl, ?_⟩
    rw [w_N]
    refine ⟨rfl, ?_⟩
    refine folds_ok bk (by omega) ?_
    rw [w_N]
    refine ⟨rfl, ?_⟩
    rw [w_N]
    refine ⟨_, _, repr2 nsp nsp ssp ssp (by decide) (by decide), ?_⟩
    rw [w_CB, w_Co, w_op, w_lst, w_Co, w_CB, w_Co, w_V]
    refine ⟨_, rfl, ?_⟩
    rw [w_N]
    refine ⟨mapD (spotsL T lot), h, rfl, ?_⟩
    rw [w_N]
    refine ⟨rfl, ?_⟩
    rw [w_C]
    refine ⟨.lst [mapD (spotsL T lot), mapD (spotsL T lot)], rfl, ?_⟩
    rw [w_N]
    refine ⟨_, _, repr2 nsp nsp ssp ssp (by decide) (by decide), .bl false, same_ne, false, rfl, ?_⟩
    rw [if_neg Bool.false_ne_true, s_nx]
    exact ⟨rfl, rfl⟩
  refine s_cut (fun s' h' => ∃ v6 v7 k', s' = st v6 v7 ∧ Off n m h h' ∧ Deck n m k' h' ∧ k' ≤ k + 50) ?_ ?_
  · refine s_forL (l := rgD (-2) (lot.length + 2) ++ ATS) (fun i s' h' => ∃ v6 v7 k', s' = st v6 v7 ∧ Off n m h h' ∧ Deck n m k' h' ∧ k' ≤ k + i) ?_ ?_ ?_
    · rw [w_op]
      refine w_lrg ?_
      rw [show ∀ s, fNeg (fC (.int 2)) s h = .ok (.int (-2)) h from fun _ => rfl, w_ok, w_op, w_CB, w_Co, w_V]
      refine ⟨_, rfl, ?_⟩
      rw [w_N]
      have ll := SeqD.len (h := h) (l := lot.map D.str) (x := rowD lot) (.inl rfl)
      rw [List.length_map] at ll
      refine ⟨_, _, ll, ?_⟩
      rw [w_C]
      refine ⟨_, rfl, -2, lot.length + 2, rfl, rfl, decide_eq_true (by omega), ?_⟩
      have e : Ok (fLst (fCo (fC .non) (fCo (fC (.bl true)) (fCo (fC (.bl false)) (fCo (fC (.str "0")) (fCo (fTup fN) (fCo (fLst (fCo (fC (.int 0)) fN)) (fCo (fOp (opI gPow) (fC (.int 10)) (fC (.int 39))) (fCo (fNeg (fOp (opI gPow) (fC (.int 10)) (fC (.int 39)))) (fCo (fC (.dic false [])) fN))))))))) (st none none) h) fun d h1 => d = .lst ATS ∧ h1 = h := by
        have : fOp (opI gPow) (fC (.int 10)) (fC (.int 39)) (st none none) h = .ok (.int (10 ^ 39)) h := rfl
        have n2 : fNeg (fOp (opI gPow) (fC (.int 10)) (fC (.int 39))) (st none none) h = .ok (.int (-(10 ^ 39))) h := rfl
        simp only [Lg.w_ok, Lg.w_V, Lg.w_C, Lg.w_N, Lg.w_Co, Lg.w_op, Lg.w_B, Lg.w_CB, Lg.w_call, Lg.w_tup, Lg.w_lst, Lg.w_lstN, Lg.w_if, Lg.w_not, Lg.w_and, Lg.w_or, Lg.w_tru, Lg.w_pop, Lg.w_app, Lg.s_seq, Lg.s_nx, Lg.s_set, Lg.s_par, Lg.s_rt, Lg.s_rtN, Lg.s_ex, Lg.s_if, Lg.s_asg, Lg.w_sub, Lg.w_gN, Lg.w_callB, Lg.w_lc, Lg.w_lcN, Lg.w_sl, Lg.w_O0, Lg.w_O, Lg.w_revN, Lg.s_par3]
        refine ⟨rfl, rfl, .int (10 ^ 39), rfl, ?_⟩
        rw [n2]
        simp only [Lg.w_ok, Lg.w_V, Lg.w_C, Lg.w_N, Lg.w_Co, Lg.w_op, Lg.w_B, Lg.w_CB, Lg.w_call, Lg.w_tup, Lg.w_lst, Lg.w_lstN, Lg.w_if, Lg.w_not, Lg.w_and, Lg.w_or, Lg.w_tru, Lg.w_pop, Lg.w_app, Lg.s_seq, Lg.s_nx, Lg.s_set, Lg.s_par, Lg.s_rt, Lg.s_rtN, Lg.s_ex, Lg.s_if, Lg.s_asg, Lg.w_sub, Lg.w_gN, Lg.w_callB, Lg.w_lc, Lg.w_lcN, Lg.w_sl, Lg.w_O0, Lg.w_O, Lg.w_revN, Lg.s_par3]
        refine ⟨rfl, ?_, ?_⟩ <;> first | rfl | trivial
      refine e.mono fun d h1 ⟨e1, e2⟩ => ?_
      subst e1 e2
      refine ⟨.lst (rgD (-2) (lot.length + 2) ++ ATS), ?_, .inr (.inl rfl), none, none, k, rfl, Off.refl, dk, by omega⟩
      show (if line ((rgD (-2) (lot.length + 2)).length + ATS.length) then some (D.lst (rgD (-2) (lot.length + 2) ++ ATS)) else none) = _
      have : (rgD (-2) ((lot.length : Int) + 2)).length ≤ 24 := by
        unfold rgD
        rw [List.length_map, List.length_range]
        omega
      have l9 : ATS.length = 9 := rfl
      have ln : line ((rgD (-2) ((lot.length : Int) + 2)).length + ATS.length) = true := decide_eq_true (by omega)
      rw [if_pos ln]
    · rintro i d s1 h1 hi ⟨v6, v7, k1, rfl, o1, d1, hk1⟩
      have md := List.mem_of_getElem? hi
      have li : i < 40 := by
        have := (List.getElem?_eq_some_iff.mp hi).1
        rw [List.length_append] at this
        unfold rgD at this
        rw [List.length_map, List.length_range] at this
        have : ATS.length = 9 := rfl
        omega
      obtain ⟨p, ad⟩ : ∃ p, At d p := by
        rcases List.mem_append.mp md with md | md
        · unfold rgD at md
          obtain ⟨j, hj, rfl⟩ := List.mem_map.mp md
          have := List.mem_range.mp hj
          exact ⟨_, at_int (by omega)⟩
        · exact ats_ok d md
      rw [w_gN]
      show OkS (gSeq _ _ (st (some d) v7) h1) _
      have bk1 := bk.off o1 bn bm
      have tb1 : TabAt h1 t T := (o1.st _ tn tm lt).trans tb
      refine s_det (s1 := st (some d) (some (.lst [.str "none", d]))) (h1 := h1) ?_ ?_
      · rw [s_set, w_lst, w_Co, w_C, w_Co, w_V]
        refine ⟨_, rfl, ?_⟩
        rw [w_N]
        exact ⟨rfl, rfl, rfl⟩
      have fin : ∀ (due : D) (pd : PyData) (B : Nat), pyE h1 66 due = some pd → (∀ h, pyE h 66 due = some pd) → Sh 4 B pd → B ≤ 1000000 → (∀ w h2, Off n m h1 h2 → ∀ Q : D → Hh → Prop, Q due h2 → Ok (F__law_folded [.ref b, rowD lot, d, .int w] h2) Q) →
          OkS (gIf (fB (fOp opNeR (fCB bReprE (fCo (fCall F__law_folded (fCo (fV 1) (fCo (fV 3) (fCo (fV 6) (fCo (fCall F__law_draw (fCo (fV 0) (fCo (fC (.int 2)) fN))) fN))))) fN)) (fCB bReprE (fCo (fV 7) fN)))) (gRt (fC (.bl false))) gNx (st (some d) (some due)) h1)
            { nx := fun s' h' => ∃ v6 v7 k', s' = st v6 v7 ∧ Off n m h h' ∧ Deck n m k' h' ∧ k' ≤ k + ((i + 1 : Nat) : Int), rt := fun d h => Q d h, ct := fun s' h' => ∃ v6 v7 k', s' = st v6 v7 ∧ Off n m h h' ∧ Deck n m k' h' ∧ k' ≤ k + ((i + 1 : Nat) : Int), bk := fun s' h' => ∃ v6 v7 k', s' = st v6 v7 ∧ Off n m h h' ∧ Deck n m k' h' ∧ k' ≤ k + 50 } := fun due pd B _ e sh hB run => by
        rw [s_if, w_B, w_op, w_CB, w_Co, w_call, w_Co, w_V]
        refine ⟨_, rfl, ?_⟩
        rw [w_Co, w_V]
        refine ⟨_, rfl, ?_⟩
        rw [w_Co, w_V]
        refine ⟨_, rfl, ?_⟩
        rw [w_Co, w_call, w_Co, w_V]
        refine ⟨_, rfl, ?_⟩
        rw [w_Co, w_C, w_N]
        refine draw_ok d1 (by omega) (by decide) (by decide) fun r h2 o2 d2 r0 r1 => ?_
        rw [w_N]
        refine run r h2 o2 _ ?_
        rw [w_N]
        refine ⟨_, _, reprE_same (e h2) sh (by decide) (by omega), ?_⟩
        rw [w_CB, w_Co, w_V]
        refine ⟨_, rfl, ?_⟩
        rw [w_N]
        refine ⟨_, _, reprE_same (e h2) sh (by decide) (by omega), .bl false, same_ne, false, rfl, ?_⟩
        rw [if_neg Bool.false_ne_true, s_nx]
        exact ⟨_, _, k1 + 1, rfl, o1.trans o2, d2, by omega⟩
      cases c : isIntD d && inK (spotsL T lot) d with
      | false =>
        refine s_det (s1 := st (some d) (some (.lst [.str "none", d]))) (h1 := h1) ?_ ?_
        · rw [s_if]
          refine cond_ok rfl rfl ad.pl ?_
          rw [c, if_neg Bool.false_ne_true, s_nx]
          exact ⟨rfl, rfl⟩
        have na : NoAt T lot d := ⟨ad.pl, fun z => by rw [z] at c; simpa using c⟩
        exact fin _ _ _ (nice_lst2 (nice_str "none") ad.nc h1) (nice_lst2 (nice_str "none") ad.nc) ((sh_tag (Ch.of "none") (by decide) (ad.sh.mono (Nat.le_refl _) (by decide : 60 ≤ 90)) (by decide)).mono (by decide) (Nat.le_refl _)) (by decide) fun w h2 o2 Q z => lfolded_none (bk1.off o2 bn bm) (by omega) na z
      | true =>
        obtain ⟨z, mz, rfl⟩ : ∃ z ∈ spotsL T lot, d = .int (z : Nat) := by
          cases d with
          | int j =>
            rw [Bool.and_eq_true] at c
            obtain ⟨z, mz, ez⟩ := List.any_eq_true.mp c.2
            exact ⟨z, mz, by rw [of_decide_eq_true ez]⟩
          | _ => cases c
        obtain ⟨fo, fl1, fl2⟩ := once_facts tok lo mz
        refine s_det (s1 := st (some (.int (z : Nat))) (some (.lst [.str "row", rowD (onceL T lot z)]))) (h1 := h1) ?_ ?_
        · rw [s_if]
          refine cond_ok rfl rfl ad.pl ?_
          rw [c, if_pos rfl, s_set, w_lst, w_Co, w_C, w_Co, w_call, w_Co, w_V]
          refine ⟨_, rfl, ?_⟩
          rw [w_Co, w_V]
          refine ⟨_, rfl, ?_⟩
          rw [w_Co, w_V]
          refine ⟨_, rfl, ?_⟩
          rw [w_N]
          refine once_ok tb1 (by omega) (spots_lt mz).2 tok.small ?_
          rw [w_N]
          exact ⟨rfl, rfl, rfl⟩
        have sr : Sh 1 (20 * 84 + 3) (rowP (onceL T lot z)) := sh_row (fun x hx => ok x (fl2 x hx)) (by omega)
        exact fin _ _ _ (nice_lst2 (nice_str "row") (nice_row _) h1) (nice_lst2 (nice_str "row") (nice_row _)) ((sh_tag (Ch.of "row") (by decide) sr (by decide)).mono (by decide) (Nat.le_refl _)) (by decide) fun w h2 o2 Q y => lfolded_row (bk1.off o2 bn bm) (by omega) (spots_lt mz).2 tok y
    · rintro s1 h1 ⟨v6, v7, k1, rfl, o1, d1, hk1⟩
      refine ⟨v6, v7, k1, rfl, o1, d1, ?_⟩
      have : (rgD (-2) ((lot.length : Int) + 2) ++ ATS).length ≤ 33 := by
        rw [List.length_append]
        unfold rgD
        rw [List.length_map, List.length_range]
        have : ATS.length = 9 := rfl
        omega
      omega
  rintro s1 h1 ⟨v6, v7, k1, rfl, o1, d1, hk1⟩
  rw [s_rt, w_op, w_CB, w_Co, w_V]
  refine ⟨_, rfl, ?_⟩
  rw [w_N]
  refine ⟨_, _, reprE_same (nlot h1 62) slot (by decide) (by decide), ?_⟩
  rw [w_V]
  exact ⟨_, rfl, _, same_eq, q h1 k1 o1 d1 hk1⟩
end L4
set_option Elab.async false
set_option linter.all false
set_option maxRecDepth 100000
set_option maxHeartbeats 2000000
namespace Lg
open PySem PySem.Spec PyProof.Rows L2
theorem ch_joinS {sep : Str} (hs : Ch sep) : ∀ (ts : List Str), (∀ t ∈ ts, Ch t) → Ch (Str.join sep ts)
  | [], _ => Ch.of ""
  | [x], h => h x List.mem_cons_self
  | x :: y :: r, h => by
    show Ch (x ++ sep ++ Str.join sep (y :: r))
    exact ((h x List.mem_cons_self).app hs).app (ch_joinS hs (y :: r) fun t ht => h t (List.mem_cons_of_mem _ ht))
theorem bls_map : ∀ bs : List Bool, bls (bs.map D.bl) = some bs
  | [] => rfl
  | b :: bs => by
    unfold bls
    rw [List.map_cons, List.mapM_cons]
    show (do let cs ← bls (bs.map D.bl); some (b :: cs)) = _
    rw [bls_map bs]
    rfl
theorem all_bls {h : Hh} {bs : List Bool} : bAll [.lst (bs.map D.bl)] h = some (.bl (bs.all id), h) := by
  show ((asF h (.lst (bs.map D.bl))).bind bls).map (fun bs => (D.bl (bs.all id), h)) = _
  rw [show asF h (.lst (bs.map D.bl)) = some (bs.map D.bl) from rfl, Option.bind_some, bls_map]
  rfl
/-- an entry of a thing: how it is told and shown -/
structure El (e : D) : Prop where
  pl : plain e = true
  py : ∃ p, (∀ h n, py h (n + 3) e = some p) ∧ Fine 3 p ∧ Sh 3 2000 p
theorem els_py : ∀ {ds : List D}, (∀ e ∈ ds, El e) → ∃ ps, (∀ h n, ds.mapM (Lg.py h (n + 3)) = some ps) ∧ ps.length = ds.length ∧ ∀ p ∈ ps, Fine 3 p ∧ Sh 3 2000 p
  | [], _ => ⟨[], fun _ _ => rfl, rfl, by simp⟩
  | d :: ds, h => by
    obtain ⟨ps, e, l, a⟩ := els_py fun e he => h e (List.mem_cons_of_mem _ he)
    obtain ⟨p, e1, f, s⟩ := (h d List.mem_cons_self).py
    refine ⟨p :: ps, fun hh n => ?_, by simp [l], fun q hq => ?_⟩
    · rw [List.mapM_cons, e1]
      show (do let ys ← ds.mapM (Lg.py hh (n + 3)); some (p :: ys)) = _
      rw [e]
      rfl
    · rcases List.mem_cons.mp hq with rfl | hq
      · exact ⟨f, s⟩
      · exact a q hq
theorem eq_nilD {h : Hh} {l : List D} (a : ∀ e ∈ l, El e) : opEq h (.lst l) (.lst []) = some (.bl l.isEmpty) := by
  obtain ⟨ps, e, ll, f⟩ := els_py a
  unfold opEq
  rw [eqP_of (p := .list ps) (q := .list []) (by show (l.mapM (Lg.py h (62 + 3))).map PyData.list = _; rw [e]; rfl) (rfl : Lg.py h 66 (.lst []) = some (.list [])) ((Fine.lst (k := 3) fun d hd => (f d hd).1).shaped (by decide)) (by decide +kernel)]
  have z : PyData.eqv (.list ps) (.list []) = ps.isEmpty := by
    cases ps <;> simp [PyData.eqv, PyData.eqvAll]
  rw [z]
  have : ps.isEmpty = l.isEmpty := by
    cases ps with
    | nil => cases l with
      | nil => rfl
      | cons _ _ => simp at ll
    | cons _ _ => cases l with
      | nil => simp at ll
      | cons _ _ => rfl
  rw [this]
  rfl
/-- a thing that may be asked for -/
structure It (d : D) (p : PyData) : Prop where
  pl : plain d = true
  nc : Nice d p
  sh : Sh 4 61000 p
  el : ∀ ds, d = .tup ds → ds.length ≤ 30 ∧ ∀ e ∈ ds, El e
theorem it_seq {ds : List D} (hl : ds.length ≤ 30) (h : ∀ e ∈ ds, El e) : (∃ p, It (.tup ds) p) ∧ ∃ p, It (.lst ds) p := by
  obtain ⟨ps, e, l, a⟩ := els_py h
  have m : ∀ hh n, ds.mapM (pyE hh (n + 3)) = some ps := fun hh n => by
    have := py_pyE (h := hh) (n + 3 + 1) (.lst ds) (.list ps) (by show (ds.mapM (Lg.py hh (n + 3))).map PyData.list = _; rw [e]; rfl)
    have : (ds.mapM (pyE hh (n + 3))).map PyData.list = some (.list ps) := this
    obtain ⟨qs, e1, e2⟩ := Option.map_eq_some_iff.mp this
    injection e2 with e2
    rw [e1, e2]
  refine ⟨⟨.tuple ps, rfl, fun hh n => ?_, (Sh.tup (k := 3) (B := 2000) fun d hd => (a d hd).2).mono (by decide) (by rw [l]; omega), fun es he => by cases he; exact ⟨hl, h⟩⟩, .list ps, rfl, fun hh n => ?_, (Sh.lst (k := 3) (B := 2000) fun d hd => (a d hd).2).mono (by decide) (by rw [l]; omega), fun es he => by cases he⟩
  · show (ds.mapM (pyE hh (n + 3))).map PyData.tuple = _
    rw [m]
    rfl
  · show (ds.mapM (pyE hh (n + 3))).map PyData.list = _
    rw [m]
    rfl
theorem strsD_map : ∀ l : List Str, strsD (l.map D.str) = some l
  | [] => rfl
  | x :: l => by
    unfold strsD
    rw [List.map_cons, List.mapM_cons]
    show (do let ys ← strsD (l.map D.str); some (x :: ys)) = _
    rw [strsD_map l]
    rfl
end Lg
namespace L4
open PySem PySem.Spec PyProof.Rows L2 Lg
open Lf (EndsOf Small Closed clashL isClash Fd Fds Net)
theorem el_str {x : Str} (h : okN x) : El (.str x) := ⟨rfl, .str x, fun _ _ => rfl, (Fine.str (k := 0) h.1).mono (by decide), (Sh.str (n := 8) (okN_ch h) h.2).mono (by decide) (by decide)⟩
theorem el_row {r : List Str} (h : ∀ x ∈ r, okN x) (hl : r.length ≤ 20) : El (rowD r) := ⟨rfl, rowP r, fun _ n => py_row r, (fine_row fun x hx => (h x hx).1).mono (by decide), (sh_row h hl).mono (by decide) (by decide)⟩
theorem el_row0 {r : List Str} (h : ∀ x ∈ r, okN x) (hl : r.length ≤ 20) : ∀ e ∈ r.map D.str, El e := fun e he => by
  obtain ⟨x, hx, rfl⟩ := List.mem_map.mp he
  exact el_str (h x hx)
/-! ### the things that are asked for -/
def goodB (ns : List Str) : D → Bool
  | .str x => decide (x ∈ ns)
  | _ => false
def strL (ds : List D) : List Str := ds.filterMap fun d => match d with
  | .str x => some x
  | _ => none
def isNetB (ns : List Str) (T : Tab) : D → Bool
  | .tup ds => ds.all (goodB ns) && (spotsL T (strL ds)).isEmpty
  | _ => false
theorem good_row {ns : List Str} : ∀ {ds : List D}, ds.all (goodB ns) = true → ds = (strL ds).map D.str ∧ ∀ x ∈ strL ds, x ∈ ns
  | [], _ => ⟨rfl, by simp [strL]⟩
  | d :: ds, h => by
    rw [List.all_cons, Bool.and_eq_true] at h
    obtain ⟨a, b⟩ := good_row h.2
    cases d with
    | str x =>
      have e : strL (.str x :: ds) = x :: strL ds := rfl
      rw [e]
      refine ⟨by rw [List.map_cons, ← a], fun y hy => ?_⟩
      rcases List.mem_cons.mp hy with rfl | hy
      · exact of_decide_eq_true h.1
      · exact b y hy
    | _ => cases h.1
theorem isEntry_all {h : Hh} {b : Nat} {ns : List Str} {T : Tab} {e : D} {Q : D → Hh → Prop} (bk : BookAt h b ns T) (p : plain e = true) (q : Q (.bl (goodB ns e)) h) : Ok (F_Book_is_entry [.ref b, e] h) Q := by
  obtain ⟨fl, K, i1, i2, i3⟩ := bk.known
  unfold F_Book_is_entry f_Book_is_entry
  rw [w_callB]
  refine ⟨rfl, ?_⟩
  show OkS (gRt _ [some (.ref b), some e] h) _
  rw [s_rt, w_call, w_Co, w_V]
  refine ⟨_, rfl, ?_⟩
  rw [w_Co]
  refine w_fld ?_
  rw [w_V]
  refine ⟨_, rfl, fl, _, i1, i2, ?_⟩
  rw [w_N]
  unfold F_is_known f_is_known
  rw [w_callB]
  refine ⟨rfl, ?_⟩
  show OkS (gRt _ [some e, some (.dic false K)] h) _
  rw [s_rt]
  refine w_andV ?_
  refine w_isi ?_
  rw [w_V]
  refine ⟨_, rfl, ?_⟩
  have no : ∀ t, tyD h e = some t → isT t "str" = false → goodB ns e = false → ∃ t, tyD h e = some t ∧ ∃ b, D.bl (isT t "str") = .bl b ∧ if b = true then Ok (fOp opInS (fV 0) (fV 1) [some e, some (.dic false K)] h) (fun d h => Q d h) else Q (.bl false) h := fun t e1 e2 e3 => by
    refine ⟨t, e1, _, rfl, ?_⟩
    rw [e2, if_neg Bool.false_ne_true]
    rw [e3] at q
    exact q
  cases e with
  | str x =>
    refine ⟨"str", rfl, true, rfl, ?_⟩
    rw [if_pos rfl]
    simp only [Lg.w_ok, Lg.w_V, Lg.w_C, Lg.w_N, Lg.w_Co, Lg.w_op, Lg.w_B, Lg.w_CB, Lg.w_call, Lg.w_tup, Lg.w_lst, Lg.w_lstN, Lg.w_if, Lg.w_not, Lg.w_and, Lg.w_or, Lg.w_tru, Lg.w_pop, Lg.w_app, Lg.s_seq, Lg.s_nx, Lg.s_set, Lg.s_par, Lg.s_rt, Lg.s_rtN, Lg.s_ex, Lg.s_if, Lg.s_asg, Lg.w_sub, Lg.w_gN, Lg.w_callB, Lg.w_lc, Lg.w_lcN, Lg.w_sl, Lg.w_O0, Lg.w_O, Lg.w_revN, Lg.s_par3]
    refine ⟨_, rfl, _, rfl, .bl (decide (x ∈ ns)), ?_, q⟩
    show (isIn h (.str x) (.dic false K)).map D.bl = _
    have : isIn h (.str x) (.dic false K) = some (look K (.str x)).isSome := rfl
    rw [this, i3 x]
    rfl
  | int i => exact no "int" rfl rfl rfl
  | bl b => exact no "bool" rfl rfl rfl
  | non => exact no "NoneType" rfl rfl rfl
  | tup l => exact no "tuple" rfl rfl rfl
  | lst l => exact no "list" rfl rfl rfl
  | dic t l => exact no "dict" rfl rfl rfl
  | _ => cases p
def isTupD : D → Bool
  | .tup _ => true
  | _ => false
def isStrD : D → Bool
  | .str _ => true
  | _ => false
theorem ty_tup {h : Hh} {d : D} (p : plain d = true) : ∃ t, tyD h d = some t ∧ isT t "tuple" = isTupD d := by
  cases d with
  | str x => exact ⟨"str", rfl, rfl⟩
  | int i => exact ⟨"int", rfl, rfl⟩
  | bl b => exact ⟨"bool", rfl, rfl⟩
  | non => exact ⟨"NoneType", rfl, rfl⟩
  | tup l => exact ⟨"tuple", rfl, rfl⟩
  | lst l => exact ⟨"list", rfl, rfl⟩
  | dic t l => exact ⟨"dict", rfl, rfl⟩
  | _ => cases p
theorem ty_str {h : Hh} {d : D} (p : plain d = true) : ∃ t, tyD h d = some t ∧ isT t "str" = isStrD d := by
  cases d with
  | str x => exact ⟨"str", rfl, rfl⟩
  | int i => exact ⟨"int", rfl, rfl⟩
  | bl b => exact ⟨"bool", rfl, rfl⟩
  | non => exact ⟨"NoneType", rfl, rfl⟩
  | tup l => exact ⟨"tuple", rfl, rfl⟩
  | lst l => exact ⟨"list", rfl, rfl⟩
  | dic t l => exact ⟨"dict", rfl, rfl⟩
  | _ => cases p
theorem isNet_all {h : Hh} {b : Nat} {ns : List Str} {T : Tab} {d : D} {Q : D → Hh → Prop} (bk : BookAt h b ns T) (p : plain d = true) (el : ∀ ds, d = .tup ds → ds.length ≤ 30 ∧ ∀ e ∈ ds, plain e = true) (q : Q (.bl (isNetB ns T d)) h) : Ok (F_Book_is_net [.ref b, d] h) Q := by
  obtain ⟨fl, i1, i2, i3, i4, i5, i6, i7, i8⟩ := bk.meth
  unfold F_Book_is_net f_Book_is_net
  rw [w_callB]
  refine ⟨rfl, ?_⟩
  show OkS (gSeq _ _ [some (.ref b), some d, none] h) _
  obtain ⟨t, et, ei⟩ := ty_tup (h := h) p
  rw [s_seq, s_if, w_not, w_B]
  refine w_isi ?_
  rw [w_V]
  refine ⟨_, rfl, t, et, _, rfl, ?_⟩
  rw [ei]
  by_cases c : ∃ ds, d = .tup ds
  · obtain ⟨ds, rfl⟩ := c
    obtain ⟨l30, pe⟩ := el ds rfl
    rw [if_neg (by show ¬ (!true) = true; decide), s_nx]
    show OkS (gRt _ [some (.ref b), some (.tup ds), none] h) _
    rw [s_rt]
    refine w_andV ?_
    rw [w_CB, w_Co, w_lc]
    refine w_lcL (fun j acc h' => h' = h ∧ acc = ((ds.take j).map (goodB ns)).map D.bl) ?_
    unfold fWalk
    rw [w_bind, w_V]
    refine ⟨_, rfl, ?_⟩
    rw [w_ofO]
    refine ⟨wkL ds, rfl, ⟨rfl, rfl⟩, ?_, ?_⟩
    · rintro j acc h' hj ⟨rfl, rfl⟩
      have hj : j < ds.length := hj
      have ej := List.getElem?_eq_getElem hj
      have mz : ds[j] ∈ ds := List.getElem_mem hj
      generalize ds[j] = z at ej mz
      refine ⟨decide_eq_true (by rw [List.length_map, List.length_map, List.length_take]; omega), z, ej, ?_⟩
      rw [w_gN]
      rw [show ∀ s, fYes s h' = .ok true h' from fun _ => rfl, w_ok, if_pos rfl]
      show Ok (fMeth _ _ _ _ _ [some (.ref b), some (.tup ds), some z] h') _
      refine w_meth ?_
      rw [w_V]
      refine ⟨_, rfl, fl, i1, i7, ?_⟩
      rw [w_Co, w_V]
      refine ⟨_, rfl, ?_⟩
      rw [w_N]
      refine isEntry_all bk (pe z mz) ⟨rfl, ?_⟩
      rw [List.take_add_one, ej]
      simp
    · rintro acc h' ⟨rfl, rfl⟩
      refine ⟨rfl, ?_⟩
      rw [show (wkL ds).n = ds.length from rfl, List.take_length, w_N]
      refine ⟨_, _, all_bls, _, rfl, ?_⟩
      rw [List.all_map, show (id ∘ goodB ns) = goodB ns from rfl]
      cases g : ds.all (goodB ns) with
      | false =>
        rw [if_neg Bool.false_ne_true]
        have : isNetB ns T (.tup ds) = false := by simp [isNetB, g]
        rw [this] at q
        exact q
      | true =>
        obtain ⟨e1, e2⟩ := good_row g
        have lr : (strL ds).length ≤ 30 := by
          have := congrArg List.length e1
          rw [List.length_map] at this
          omega
        rw [if_pos rfl, w_op]
        refine w_meth ?_
        rw [w_V]
        refine ⟨_, rfl, fl, i1, i5, ?_⟩
        rw [w_Co, w_V]
        refine ⟨_, rfl, ?_⟩
        rw [w_N]
        have er : D.tup ds = rowD (strL ds) := congrArg D.tup e1
        rw [er]
        refine folds_ok bk (by omega) ?_
        rw [show ∀ s h, fTup fN s h = .ok (mapD []) h from fun _ _ => rfl, w_ok]
        refine ⟨_, eq_map, ?_⟩
        have : isNetB ns T (.tup ds) = decide (spotsL T (strL ds) = []) := by
          simp [isNetB, g]
          cases spotsL T (strL ds) <;> simp
        rw [this] at q
        exact q
  · have e : isTupD d = false := by
      cases d with
      | tup ds => exact absurd ⟨ds, rfl⟩ c
      | _ => rfl
    have f : isNetB ns T d = false := by
      cases d with
      | tup ds => exact absurd ⟨ds, rfl⟩ c
      | _ => rfl
    rw [e, if_pos (by decide), s_rt, w_C]
    rw [f] at q
    exact q
theorem niS_str {h : Hh} {ns : List Str} {x : Str} : opNiS h (.str x) (rowD ns) = some (.bl (!decide (x ∈ ns))) := by
  have fl : (ns.map D.str).all flatD = true := by
    rw [List.all_eq_true]
    intro d hd
    obtain ⟨j, _, rfl⟩ := List.mem_map.mp hd
    rfl
  have an : ((ns.map D.str).any fun e => eqF e (.str x)) = decide (x ∈ ns) := by
    rw [List.any_map]
    rw [Bool.eq_iff_iff, List.any_eq_true, decide_eq_true_eq]
    constructor
    · rintro ⟨y, hy, e⟩
      have : y = x := by simpa [eqF] using e
      rw [← this]
      exact hy
    · intro hx
      exact ⟨x, hx, by simp [eqF]⟩
  unfold opNiS isInS isIn
  rw [show setAt h (rowD ns) = none from rfl]
  dsimp only
  rw [show Lg.asD h (rowD ns) = none from rfl]
  dsimp only
  rw [show Lg.asS h (rowD ns) = some (ns.map D.str) from rfl]
  dsimp only
  rw [fl, an]
  rfl
theorem lisNet_ok {h : Hh} {t : Nat} {ns : List Str} {T : Tab} {d : D} {Q : D → Hh → Prop} (tb : TabAt h t T) (p : plain d = true) (el : ∀ ds, d = .tup ds → ds.length ≤ 30 ∧ ∀ e ∈ ds, El e) (q : Q (.bl (isNetB ns T d)) h) : Ok (F__law_is_net [rowD ns, .ref t, d] h) Q := by
  unfold F__law_is_net f__law_is_net
  rw [w_callB]
  refine ⟨rfl, ?_⟩
  show OkS (gSeq _ _ [some (rowD ns), some (.ref t), some d, none, none] h) _
  obtain ⟨ty, et, ei⟩ := ty_tup (h := h) p
  rw [s_seq, s_if, w_not, w_B]
  refine w_isi ?_
  rw [w_V]
  refine ⟨_, rfl, ty, et, _, rfl, ?_⟩
  rw [ei]
  by_cases c : ∃ ds, d = .tup ds
  · obtain ⟨ds, rfl⟩ := c
    obtain ⟨l30, pe⟩ := el ds rfl
    rw [if_neg (by show ¬ (!true) = true; decide), s_nx]
    show OkS (gSeq _ _ [some (rowD ns), some (.ref t), some (.tup ds), none, none] h) _
    refine s_det (s1 := [some (rowD ns), some (.ref t), some (.tup ds), some (.lst (ds.filter fun e => !goodB ns e)), none]) (h1 := h) ?_ ?_
    · rw [s_set, w_lc]
      refine w_lcL (fun j acc h' => h' = h ∧ acc = (ds.take j).filter fun e => !goodB ns e) ?_
      unfold fWalk
      rw [w_bind, w_V]
      refine ⟨_, rfl, ?_⟩
      rw [w_ofO]
      refine ⟨wkL ds, rfl, ⟨rfl, rfl⟩, ?_, ?_⟩
      · rintro j acc h' hj ⟨rfl, rfl⟩
        have hj : j < ds.length := hj
        have ej := List.getElem?_eq_getElem hj
        have mz : ds[j] ∈ ds := List.getElem_mem hj
        generalize ds[j] = z at ej mz
        refine ⟨decide_eq_true (by have := List.length_filter_le (fun e => !goodB ns e) (ds.take j); rw [List.length_take] at this; omega), z, ej, ?_⟩
        rw [w_gN]
        have st : ∀ (cc : Bool) (z : D), cc = (!goodB ns z) → ds[j]? = some z → (if cc = true then Ok (fV 4 [some (rowD ns), some (.ref t), some (.tup ds), none, some z] h') (fun e h3 => h3 = h' ∧ (ds.take j).filter (fun e => !goodB ns e) ++ [e] = (ds.take (j + 1)).filter fun e => !goodB ns e) else h' = h' ∧ (ds.take j).filter (fun e => !goodB ns e) = (ds.take (j + 1)).filter fun e => !goodB ns e) := fun cc z ec ej => by
          rw [List.take_add_one, ej, List.filter_append]
          subst ec
          cases g : goodB ns z with
          | true =>
            rw [if_neg (by decide)]
            exact ⟨rfl, by simp [g]⟩
          | false =>
            rw [if_pos (by rfl), w_V]
            exact ⟨_, rfl, rfl, by simp [g]⟩
        show Ok (fOr _ _ [some (rowD ns), some (.ref t), some (.tup ds), none, some z] h') _
        rw [w_or, w_not, w_B]
        refine w_isi ?_
        rw [w_V]
        obtain ⟨tz, etz, eiz⟩ := ty_str (h := h') (pe z mz).pl
        refine ⟨_, rfl, tz, etz, _, rfl, ?_⟩
        rw [eiz]
        by_cases cz : ∃ x, z = .str x
        · obtain ⟨x, rfl⟩ := cz
          rw [if_neg (by show ¬ (!true) = true; decide), w_B, w_op, w_V]
          refine ⟨_, rfl, ?_⟩
          rw [w_V]
          exact ⟨_, rfl, _, niS_str, _, rfl, st _ _ rfl ej⟩
        · have e : isStrD z = false := by
            cases z with
            | str ds => exact absurd ⟨ds, rfl⟩ cz
            | _ => rfl
          have f : goodB ns z = false := by
            cases z with
            | str ds => exact absurd ⟨ds, rfl⟩ cz
            | _ => rfl
          rw [e, if_pos (by rfl)]
          exact st _ _ (by rw [f]; rfl) ej
      · rintro acc h' ⟨rfl, rfl⟩
        refine ⟨rfl, ?_⟩
        rw [show (wkL ds).n = ds.length from rfl, List.take_length]
        exact ⟨rfl, rfl⟩
    rw [s_rt]
    refine w_andV ?_
    rw [w_op, w_V]
    refine ⟨_, rfl, ?_⟩
    rw [show ∀ s h, fLst fN s h = .ok (.lst []) h from fun _ _ => rfl, w_ok]
    refine ⟨_, eq_nilD (fun e he => pe e (List.mem_filter.mp he).1), _, rfl, ?_⟩
    have em : (ds.filter fun e => !goodB ns e).isEmpty = ds.all (goodB ns) := by
      rw [Bool.eq_iff_iff, List.isEmpty_iff, List.filter_eq_nil_iff, List.all_eq_true]
      constructor
      · intro a x hx
        have := a x hx
        simpa using this
      · intro a x hx
        simp [a x hx]
    rw [em]
    cases g : ds.all (goodB ns) with
    | false =>
      rw [if_neg Bool.false_ne_true]
      have : isNetB ns T (.tup ds) = false := by simp [isNetB, g]
      rw [this] at q
      exact q
    | true =>
      obtain ⟨e1, e2⟩ := good_row g
      have lr : (strL ds).length ≤ 30 := by
        have := congrArg List.length e1
        rw [List.length_map] at this
        omega
      rw [if_pos rfl, w_op, w_call, w_Co, w_V]
      refine ⟨_, rfl, ?_⟩
      rw [w_Co, w_V]
      refine ⟨_, rfl, ?_⟩
      rw [w_N]
      have er : D.tup ds = rowD (strL ds) := congrArg D.tup e1
      rw [er]
      refine spots_ok tb (by omega) ?_
      rw [show ∀ s h, fLst fN s h = .ok (.lst []) h from fun _ _ => rfl, w_ok]
      have em : ((spotsL T (strL ds)).map fun i => D.int (i : Nat)) = ((spotsL T (strL ds)).map fun i : Nat => (i : Int)).map D.int := by rw [List.map_map]; rfl
      rw [em]
      refine ⟨_, eq_ints, ?_⟩
      have : isNetB ns T (.tup ds) = ((spotsL T (strL ds)).map fun i : Nat => (i : Int)).isEmpty := by
        simp [isNetB, g]
      rw [this] at q
      exact q
  · have e : isTupD d = false := by
      cases d with
      | tup ds => exact absurd ⟨ds, rfl⟩ c
      | _ => rfl
    have f : isNetB ns T d = false := by
      cases d with
      | tup ds => exact absurd ⟨ds, rfl⟩ c
      | _ => rfl
    rw [e, if_pos (by decide), s_rt, w_C]
    rw [f] at q
    exact q
end L4
set_option Elab.async false
set_option linter.all false
set_option maxRecDepth 100000
set_option maxHeartbeats 2000000
namespace L4
open PySem PySem.Spec PyProof.Rows L2 Lg
open Lf (EndsOf Small Closed clashL isClash Fd Fds Net)
theorem strL_row : ∀ r : List Str, strL (r.map D.str) = r
  | [] => rfl
  | x :: r => by
    have e : strL (.str x :: r.map D.str) = x :: strL (r.map D.str) := rfl
    rw [List.map_cons, e, strL_row r]
theorem isNetB_row {ns r : List Str} {T : Tab} (h : ∀ x ∈ r, x ∈ ns) : isNetB ns T (rowD r) = (spotsL T r).isEmpty := by
  show ((r.map D.str).all (goodB ns) && (spotsL T (strL (r.map D.str))).isEmpty) = _
  rw [strL_row]
  have : (r.map D.str).all (goodB ns) = true := by
    rw [List.all_eq_true]
    intro d hd
    obtain ⟨x, hx, rfl⟩ := List.mem_map.mp hd
    exact decide_eq_true (h x hx)
  rw [this, Bool.true_and]
theorem net_spots_nil {T : Tab} {r : List Str} : Net (lookT T) r ↔ spotsL T r = [] := by
  rw [← spots_M]
  exact Lf.net_spots
theorem plain_row (r : List Str) : ∀ e ∈ r.map D.str, plain e = true := fun e he => by
  obtain ⟨x, hx, rfl⟩ := List.mem_map.mp he
  rfl
theorem nice_lst4 {d : D} {p : PyData} (a : Nice d p) (h : Hh) : pyE h 66 (.lst [d, d, d, d]) = some (.list [p, p, p, p]) := by
  show ([d, d, d, d].mapM (pyE h 65)).map PyData.list = _
  rw [pyE_cons (a h 61) (pyE_cons (a h 61) (pyE_cons (a h 61) (pyE_cons (a h 61) rfl)))]
  rfl
theorem nice_bl (b : Bool) : Nice (.bl b) (.bool b) := fun _ _ => rfl
theorem netRight_ok {n m b t : Nat} {k : Int} {h : Hh} {ns lot : List Str} {T : Tab} {Q : D → Hh → Prop} (dk : Deck n m k h) (hk : k + 1000 ≤ 1000000) (bk : BookAt h b ns T) (tb : TabAt h t T)
    (bn : b ≠ n) (bm : b ≠ m) (hl : lot.length ≤ 20) (lo : ∀ x ∈ lot, x ∈ ns) (tok : TabOk ns T) (ok : ∀ x ∈ ns, okN x) (hc : clashL ns (lookT T) = none)
    (q : ∀ h' k', Off n m h h' → Deck n m k' h' → k' ≤ k + 50 → Q (.bl true) h') : Ok (F__law_net_right [.ref n, .ref b, .ref t, rowD lot] h) Q := by
  have okt : ∀ x ∈ ns, okT x := fun x hx => (ok x hx).1
  unfold F__law_net_right f__law_net_right
  rw [w_callB]
  refine ⟨rfl, ?_⟩
  show OkS (gSeq _ _ [some (.ref n), some (.ref b), some (.ref t), some (rowD lot), none, none, none] h) _
  rw [s_seq, s_par, w_call, w_Co, w_V]
  refine ⟨_, rfl, ?_⟩
  rw [w_Co, w_V]
  refine ⟨_, rfl, ?_⟩
  rw [w_N]
  refine net_ok tb tok.small (by omega) fun due fdue ndue => ?_
  rw [w_V]
  refine ⟨_, rfl, ?_⟩
  have one : ∀ {r}, Fds (lookT T) lot r → Net (lookT T) r → r = due := fun a b => one_due tok hc lo a b fdue ndue
  have dle := fdue.le tok.small
  have dns : ∀ x ∈ due, x ∈ ns := fdue.over (P := fun x => x ∈ ns) (fun x y w e z hz => (tok.ok x y w e).2.2.2 z hz) lo
  show OkS (gSeq _ _ [some (.ref n), some (.ref b), some (.ref t), some (rowD lot), some (rowD due), some (rowD lot), none] h) _
  refine s_cut (fun s' h' => ∃ v6 k', s' = [some (.ref n), some (.ref b), some (.ref t), some (rowD lot), some (rowD due), some (rowD due), v6] ∧ Off n m h h' ∧ Deck n m k' h' ∧ k' ≤ k + lot.length) ?_ ?_
  · refine s_forR lot.length (fun i s' h' => ∃ (v6 : Option Lg.D) (r : List Str) (k' : Int), s' = [some (.ref n), some (.ref b), some (.ref t), some (rowD lot), some (rowD due), some (rowD r), v6] ∧ Off n m h h' ∧ Deck n m k' h' ∧ k' ≤ k + i ∧ Fds (lookT T) lot r ∧ (Net (lookT T) r ∨ r.length + i ≤ lot.length)) ?_ ?_ ?_
    · simp only [Lg.w_ok, Lg.w_V, Lg.w_C, Lg.w_N, Lg.w_Co, Lg.w_op, Lg.w_B, Lg.w_CB, Lg.w_call, Lg.w_tup, Lg.w_lst, Lg.w_lstN, Lg.w_if, Lg.w_not, Lg.w_and, Lg.w_or, Lg.w_tru, Lg.w_pop, Lg.w_app, Lg.s_seq, Lg.s_nx, Lg.s_set, Lg.s_par, Lg.s_rt, Lg.s_rtN, Lg.s_ex, Lg.s_if, Lg.s_asg, Lg.w_sub, Lg.w_gN, Lg.w_callB, Lg.w_lc, Lg.w_lcN, Lg.w_sl, Lg.w_O0, Lg.w_O, Lg.w_revN, Lg.s_par3]
      refine ⟨_, rfl, .int lot.length, h, ?_, ⟨_, rfl, by omega, by omega, by omega⟩, none, lot, k, rfl, Off.refl, dk, by omega, .refl _, .inr (by omega)⟩
      have := SeqD.len (h := h) (l := lot.map D.str) (x := rowD lot) (.inl rfl)
      rw [List.length_map] at this
      exact this
    · rintro i s1 h1 hi ⟨v6, r, k', rfl, o1, d1, hk1, fd, nr⟩
      have bk1 := bk.off o1 bn bm
      have lr := fd.le tok.small
      obtain ⟨fl, i1, i2, i3, i4, i5, i6, i7, i8⟩ := bk1.meth
      rw [w_gN]
      show OkS (gIf _ _ _ [some (.ref n), some (.ref b), some (.ref t), some (rowD lot), some (rowD due), some (rowD r), some (.int i)] h1) _
      rw [s_if, w_B, w_op]
      refine w_meth ?_
      rw [w_V]
      refine ⟨_, rfl, fl, i1, i5, ?_⟩
      rw [w_Co, w_V]
      refine ⟨_, rfl, ?_⟩
      rw [w_N]
      refine folds_ok bk1 (by omega) ?_
      rw [show ∀ s h, fTup fN s h = .ok (mapD []) h from fun _ _ => rfl, w_ok]
      refine ⟨_, ne_map, _, rfl, ?_⟩
      by_cases c : spotsL T r = []
      · rw [decide_eq_true c, if_neg (by decide), s_nx]
        exact ⟨_, r, k', rfl, o1, d1, by omega, fd, .inl (net_spots_nil.mpr c)⟩
      · rw [decide_eq_false c, if_pos (by decide), s_set]
        refine w_meth ?_
        rw [w_V]
        refine ⟨_, rfl, fl, i1, i6, ?_⟩
        rw [w_Co, w_V]
        refine ⟨_, rfl, ?_⟩
        rw [w_Co, w_call, w_Co, w_V]
        refine ⟨_, rfl, ?_⟩
        rw [w_Co]
        refine w_meth ?_
        rw [w_V]
        refine ⟨_, rfl, fl, i1, i5, ?_⟩
        rw [w_Co, w_V]
        refine ⟨_, rfl, ?_⟩
        rw [w_N]
        refine folds_ok bk1 (by omega) ?_
        rw [w_N]
        have ls := spots_len T r
        refine pick_ok (l := (spotsL T r).map fun k => D.int (k : Nat)) d1 (by omega) (.inl rfl) (by rw [List.length_map]; exact List.length_pos_iff.mpr c) (by rw [List.length_map]; omega) fun j d5 h5 e5 o5 dk5 => ?_
        obtain ⟨z, mz, rfl⟩ := List.mem_map.mp (List.mem_of_getElem? e5)
        rw [w_N]
        have rns : ∀ x ∈ r, x ∈ ns := fd.over (P := fun x => x ∈ ns) (fun x y w e z hz => (tok.ok x y w e).2.2.2 z hz) lo
        obtain ⟨fo, f1, f2⟩ := once_facts tok rns mz
        have nn : ¬ Net (lookT T) r := fun w => c (net_spots_nil.mp w)
        refine folded_ok (bk1.off o5 bn bm) (by omega) (List.mem_filter.mp mz).2 tok ?_
        refine ⟨_, onceL T r z, k' + 1, rfl, o1.trans o5, dk5, by omega, fd.trans (.one fo), .inr ?_⟩
        rcases nr with w | w
        · exact absurd w nn
        · omega
    · rintro s1 h1 ⟨v6, r, k', rfl, o1, d1, hk1, fd, nr⟩
      have : Net (lookT T) r := by
        rcases nr with w | w
        · exact w
        · rw [List.length_eq_zero_iff.mp (show r.length = 0 by omega)]
          trivial
      obtain rfl := one fd this
      exact ⟨v6, k', rfl, o1, d1, hk1⟩
  rintro s1 h1 ⟨v6, k1, rfl, o1, d1, hk1⟩
  have bk1 := bk.off o1 bn bm
  have nd := nice_row due
  have sd : Sh 1 (20 * 84 + 3) (rowP due) := sh_row (fun x hx => ok x (dns x hx)) (by omega)
  have s4 : Sh 2 (4 * (20 * 84 + 3 + 2) + 3) (.list [rowP due, rowP due, rowP due, rowP due]) := Sh.lst (ds := [rowP due, rowP due, rowP due, rowP due]) fun d hd => by
    have : d = rowP due := by simpa using hd
    rw [this]
    exact sd
  refine s_cut (fun s' h' => s' = [some (.ref n), some (.ref b), some (.ref t), some (rowD lot), some (rowD due), some (rowD due), v6] ∧ Kp h1 h') ?_ ?_
  · obtain ⟨fl, i1, i2, i3, i4, i5, i6, i7, i8⟩ := bk1.meth
    rw [s_if, w_B, w_op, w_CB, w_Co, w_lst, w_Co]
    refine w_meth ?_
    rw [w_V]
    refine ⟨_, rfl, fl, i1, i4, ?_⟩
    rw [w_Co, w_V]
    refine ⟨_, rfl, ?_⟩
    rw [w_N]
    refine netB_ok bk1 (by omega) tok okt fun r2 h2 kp2 f2 e2 => ?_
    obtain rfl := one f2 e2
    have bk2 := bk1.kp kp2
    obtain ⟨fl2, j1, j2, j3, j4, j5, j6, j7, j8⟩ := bk2.meth
    rw [w_Co]
    refine w_methK ?_
    rw [w_V]
    refine ⟨_, rfl, fl2, j1, j4, ?_⟩
    rw [w_N, w_Co, w_V]
    refine ⟨_, rfl, ?_⟩
    rw [w_N]
    refine ⟨rfl, ?_⟩
    show Ok (F_Book_net [.ref b, rowD lot] h2) _
    refine netB_ok bk2 (by omega) tok okt fun r3 h3 kp3 f3 e3 => ?_
    obtain rfl := one f3 e3
    have bk3 := bk2.kp kp3
    obtain ⟨fl3, l1, l2, l3, l4, l5, l6, l7, l8⟩ := bk3.meth
    rw [w_Co]
    refine w_meth ?_
    rw [w_V]
    refine ⟨_, rfl, fl3, l1, l4, ?_⟩
    rw [w_Co, w_V]
    refine ⟨_, rfl, ?_⟩
    rw [w_N]
    refine netB_ok bk3 (by omega) tok okt fun r4 h4 kp4 f4 e4 => ?_
    obtain rfl := one (fdue.trans f4) e4
    rw [w_Co, w_V]
    refine ⟨_, rfl, ?_⟩
    rw [w_N]
    refine ⟨rfl, ?_⟩
    rw [w_N]
    refine ⟨_, _, reprE_same (nice_lst4 (nice_row _) h4) s4 (by decide) (by decide), ?_⟩
    rw [w_CB, w_Co, w_op, w_lst, w_Co, w_V]
    refine ⟨_, rfl, ?_⟩
    rw [w_N]
    refine ⟨rfl, ?_⟩
    rw [w_C]
    refine ⟨.lst [rowD _, rowD _, rowD _, rowD _], rfl, ?_⟩
    rw [w_N]
    refine ⟨_, _, reprE_same (nice_lst4 (nice_row _) h4) s4 (by decide) (by decide), .bl false, same_ne, false, rfl, ?_⟩
    rw [if_neg Bool.false_ne_true, s_nx]
    exact ⟨rfl, (kp2.trans kp3).trans kp4⟩
  rintro s2 h2 ⟨rfl, kp⟩
  have bk2 := bk1.kp kp
  obtain ⟨fl, i1, i2, i3, i4, i5, i6, i7, i8⟩ := bk2.meth
  have b1 : isNetB ns T (rowD due) = true := by
    rw [isNetB_row dns, net_spots_nil.mp ndue]
    rfl
  have b2 : isNetB ns T (rowD lot) = decide (lot = due) := by
    rw [isNetB_row lo]
    by_cases c : lot = due
    · rw [decide_eq_true c, c, net_spots_nil.mp ndue]
      rfl
    · rw [decide_eq_false c]
      cases e : spotsL T lot with
      | nil => exact absurd (one (.refl _) (net_spots_nil.mpr e)) c
      | cons _ _ => rfl
  have el : ∀ {r : List Str}, r.length ≤ 30 → ∀ ds, rowD r = .tup ds → ds.length ≤ 30 ∧ ∀ e ∈ ds, plain e = true := fun {r} hr ds e => by
    cases e
    exact ⟨by rw [List.length_map]; exact hr, plain_row r⟩
  rw [s_rt, w_op, w_CB, w_Co, w_lst, w_Co]
  refine w_meth ?_
  rw [w_V]
  refine ⟨_, rfl, fl, i1, i8, ?_⟩
  rw [w_Co, w_V]
  refine ⟨_, rfl, ?_⟩
  rw [w_N]
  refine isNet_all bk2 rfl (el (by omega)) ?_
  rw [b1, w_Co]
  refine w_meth ?_
  rw [w_V]
  refine ⟨_, rfl, fl, i1, i8, ?_⟩
  rw [w_Co, w_V]
  refine ⟨_, rfl, ?_⟩
  rw [w_N]
  refine isNet_all bk2 rfl (el (by omega)) ?_
  rw [b2, w_N]
  refine ⟨rfl, ?_⟩
  rw [w_N]
  refine ⟨_, _, repr2 (nice_bl true) (nice_bl _) (Sh.bl true) (Sh.bl _) (by decide) (by decide), ?_⟩
  rw [w_CB, w_Co, w_lst, w_Co, w_C, w_Co, w_op, w_V]
  refine ⟨_, rfl, ?_⟩
  rw [w_V]
  refine ⟨_, rfl, .bl (decide (lot = due)), eq_row (fun x hx => okt x (lo x hx)) (fun x hx => okt x (dns x hx)), ?_⟩
  rw [w_N]
  refine ⟨rfl, ?_⟩
  rw [w_N]
  refine ⟨_, _, repr2 (nice_bl true) (nice_bl _) (Sh.bl true) (Sh.bl _) (by decide) (by decide), _, same_eq, q h2 k1 (o1.trans kp.off) (kp.deck d1) (by omega)⟩
end L4
set_option Elab.async false
set_option linter.all false
set_option maxRecDepth 100000
set_option maxHeartbeats 2000000
namespace L4
open PySem PySem.Spec PyProof.Rows L2 Lg
open Lf (EndsOf Small Closed clashL isClash Fd Fds Net)
theorem w_upr {s : S} {h : Hh} {fo : FE} {P : D → Hh → Prop} (k : Ok (fo s h) fun d h1 => ∃ a, d = .str a ∧ a.length ≤ 5000000 ∧ P (.str (Txt.upper a)) h1) : Ok (fUpr fo s h) P := by
  unfold fUpr
  rw [w_bind]
  refine k.mono fun d h1 ⟨a, e, l, z⟩ => ?_
  subst e
  dsimp only
  rw [if_pos l, w_ok]
  exact z
theorem w_join {s : S} {h : Hh} {fo fe : FE} {P : D → Hh → Prop} (k : Ok (fo s h) fun d h1 => ∃ a, d = .str a ∧ Ok (fe s h1) fun e h2 => ∃ ys, (Lg.asS h2 e).bind strsD = some ys ∧ (ys.map (·.length)).sum + ys.length * a.length ≤ 16000000 ∧ P (.str (Txt.join a ys)) h2) : Ok (fJoin fo fe s h) P := by
  unfold fJoin
  rw [w_bind]
  refine k.mono fun d h1 ⟨a, e, z⟩ => ?_
  subst e
  dsimp only
  rw [w_bind]
  refine z.mono fun e h2 ⟨ys, e1, l, z⟩ => ?_
  rw [e1]
  dsimp only
  rw [if_pos l, w_ok]
  exact z
theorem add1 {h : Hh} {l m : List D} (hl : l.length ≤ 30) (hm : m.length ≤ 30) : opAdd h (.tup l) (.tup m) = some (.tup (l ++ m)) := by
  show (if line (l.length + m.length) then some (D.tup (l ++ m)) else none) = _
  rw [show line (l.length + m.length) = true from decide_eq_true (by omega), if_pos rfl]
theorem addL {h : Hh} {l m : List D} (hl : l.length ≤ 30) (hm : m.length ≤ 30) : opAdd h (.lst l) (.lst m) = some (.lst (l ++ m)) := by
  show (if line (l.length + m.length) then some (D.lst (l ++ m)) else none) = _
  rw [show line (l.length + m.length) = true from decide_eq_true (by omega), if_pos rfl]
def ODD (ns lot : List Str) (x : Str) : List D := [.non, .int 0, .str "", .str "a", .str x, .lst [], .dic false [], .lst (lot.map D.str), .tup (lot.map D.str ++ [.non]), .tup (lot.map D.str ++ [.str "zq"]), .tup [rowD lot], .tup (lot.map D.str ++ [.tup []]), .lst [rowD lot]] ++
  [.bl true, .tup (lot.map D.str ++ [.str (Txt.upper x)]), .tup ([.int 1] ++ lot.map D.str), .str (Txt.join "" lot), .tup (lot.map D.str ++ [.lst []]), .tup [rowD ns], rowD lot]
theorem up_okN : ∀ x ∈ POOL, okN (Txt.upper x) := by
  have : ∀ x ∈ POOL, PyData.strOk (Txt.upper x) = true ∧ (Txt.upper x).cps.size ≤ 8 := by decide +kernel
  exact this
theorem it_leaf {d : D} {p : PyData} {k B : Nat} (a : plain d = true) (n : Nice d p) (s : Sh k B p) (hk : k ≤ 4) (hB : B ≤ 61000) (ne : ∀ ds, d ≠ .tup ds) : ∃ p, It d p := ⟨p, a, n, s.mono hk hB, fun ds e => absurd e (ne ds)⟩
theorem okN_lit {s : Str} (h : PyData.strOk s = true ∧ s.cps.size ≤ 8) : okN s := h
theorem sum_len : ∀ {l : List Str}, (∀ x ∈ l, okN x) → (l.map (·.length)).sum ≤ 8 * l.length
  | [], _ => Nat.zero_le _
  | x :: l, h => by
    have a : x.length ≤ 8 := (h x List.mem_cons_self).2
    have b := sum_len (l := l) fun y hy => h y (List.mem_cons_of_mem _ hy)
    simp only [List.map_cons, List.sum_cons, List.length_cons]
    omega
theorem odd_it {ns lot : List Str} {x : Str} (ok : ∀ y ∈ ns, okN y) (hn : ns.length ≤ 20) (lo : ∀ y ∈ lot, okN y) (hl : lot.length ≤ 20) (hx : x ∈ ns) (px : x ∈ POOL) : ∀ d ∈ ODD ns lot x, ∃ p, It d p := by
  have el0 : ∀ e ∈ lot.map D.str, El e := el_row0 lo hl
  have el1 : ∀ {e : D}, El e → ∀ d ∈ lot.map D.str ++ [e], El d := fun {e} h d hd => by
    rcases List.mem_append.mp hd with hd | hd
    · exact el0 d hd
    · rw [List.mem_singleton.mp hd]; exact h
  have l1 : ∀ e : D, (lot.map D.str ++ [e]).length ≤ 30 := fun e => by rw [List.length_append, List.length_map]; simp; omega
  have one : ∀ {e : D}, El e → ∀ d ∈ [e], El d := fun {e} h d hd => by rw [List.mem_singleton.mp hd]; exact h
  have et : El (.tup []) := ⟨rfl, .tuple [], fun _ _ => rfl, Fine.mono (k := 3) (j := 1) (Fine.tup (k := 0) (ds := []) (by simp)) (by decide), (Sh.tup (k := 0) (B := 0) (ds := []) (by simp)).mono (by decide) (by decide)⟩
  have ell : El (.lst []) := ⟨rfl, .list [], fun _ _ => rfl, Fine.mono (k := 3) (j := 1) (Fine.lst (k := 0) (ds := []) (by simp)) (by decide), (Sh.lst (k := 0) (B := 0) (ds := []) (by simp)).mono (by decide) (by decide)⟩
  have en : El .non := ⟨rfl, .none, fun _ _ => rfl, Fine.non, Sh.non.mono (by decide) (by decide)⟩
  have ei : El (.int 1) := ⟨rfl, .int 1, fun _ _ => rfl, Fine.int 1, (Sh.ints (by decide)).mono (by decide) (by decide)⟩
  intro d hd
  simp only [ODD, List.mem_append, List.mem_cons, List.not_mem_nil, or_false] at hd
  rcases hd with (rfl | rfl | rfl | rfl | rfl | rfl | rfl | rfl | rfl | rfl | rfl | rfl | rfl) | (rfl | rfl | rfl | rfl | rfl | rfl | rfl)
  · exact it_leaf (p := .none) rfl (fun _ _ => rfl) Sh.non (by decide) (by decide) (fun _ => nofun)
  · exact it_leaf (p := .int 0) rfl (fun _ _ => rfl) (Sh.ints (by decide)) (by decide) (by decide) (fun _ => nofun)
  · exact it_leaf (p := .str "") rfl (fun _ _ => rfl) (Sh.str (n := 0) (Ch.of "") (by decide)) (by decide) (by decide) (fun _ => nofun)
  · exact it_leaf (p := .str "a") rfl (fun _ _ => rfl) (Sh.str (n := 1) (Ch.of "a") (by decide)) (by decide) (by decide) (fun _ => nofun)
  · exact it_leaf (p := .str x) rfl (fun _ _ => rfl) (Sh.str (n := 8) (okN_ch (ok x hx)) (ok x hx).2) (by decide) (by decide) (fun _ => nofun)
  · exact (it_seq (ds := []) (by simp) (by simp)).2
  · exact it_leaf (p := .dict []) rfl (fun _ _ => rfl) Sh.dic0 (by decide) (by decide) (fun _ => nofun)
  · exact (it_seq (by rw [List.length_map]; omega) el0).2
  · exact (it_seq (l1 _) (el1 en)).1
  · exact (it_seq (l1 _) (el1 (el_str (okN_lit (by decide +kernel))))).1
  · exact (it_seq (by simp) (one (el_row lo hl))).1
  · exact (it_seq (l1 _) (el1 et)).1
  · exact (it_seq (by simp) (one (el_row lo hl))).2
  · exact it_leaf (p := .bool true) rfl (fun _ _ => rfl) (Sh.bl true) (by decide) (by decide) (fun _ => nofun)
  · exact (it_seq (l1 _) (el1 (el_str (up_okN x px)))).1
  · refine (it_seq (by simp; omega) fun d hd => ?_).1
    rcases List.mem_append.mp hd with hd | hd
    · rw [List.mem_singleton.mp hd]; exact ei
    · exact el0 d hd
  · refine it_leaf (p := .str (Txt.join "" lot)) (B := 10 * 200 + 2) rfl (fun _ _ => rfl) (Sh.str (n := 200) ?_ ?_) (by decide) (by decide) (fun _ => nofun)
    · rw [TL.join_eq]
      exact ch_joinS (Ch.of "") lot fun y hy => okN_ch (lo y hy)
    · rw [TL.join_eq]
      have := StrLaws.join_length_le "" lot
      have s := sum_len lo
      have z : (("" : Str)).length = 0 := by decide
      rw [z] at this
      omega
  · exact (it_seq (l1 _) (el1 ell)).1
  · exact (it_seq (by simp) (one (el_row ok hn))).1
  · exact (it_seq (by rw [List.length_map]; omega) el0).1
theorem odd_ok {n m : Nat} {k : Int} {h : Hh} {ns lot : List Str} {Q : D → Hh → Prop} (dk : Deck n m k h) (hk : k ≤ 1000000) (ok : ∀ y ∈ ns, okN y) (pl : ∀ y ∈ ns, y ∈ POOL) (n0 : 0 < ns.length) (hn : ns.length ≤ 20) (lo : ∀ y ∈ lot, y ∈ ns) (hl : lot.length ≤ 20)
    (q : ∀ d p h', It d p → Off n m h h' → Deck n m (k + 1) h' → Q d h') : Ok (F__law_odd [.ref n, rowD ns, rowD lot] h) Q := by
  obtain ⟨x, r, rfl⟩ : ∃ x r, ns = x :: r := by
    cases ns with
    | nil => simp at n0
    | cons x r => exact ⟨x, r, rfl⟩
  have lm : (lot.map D.str).length ≤ 20 := by rw [List.length_map]; exact hl
  unfold F__law_odd f__law_odd
  rw [w_callB]
  refine ⟨rfl, ?_⟩
  show OkS (gSeq _ _ [some (.ref n), some (rowD (x :: r)), some (rowD lot), none] h) _
  have x0 : opIx h (rowD (x :: r)) (.int 0) = some (.str x) := row_ix (i := 0) rfl
  refine s_det (s1 := [some (.ref n), some (rowD (x :: r)), some (rowD lot), some (.lst [.non, .int 0, .str "", .str "a", .str x, .lst [], .dic false [], .lst (lot.map D.str), .tup (lot.map D.str ++ [.non]), .tup (lot.map D.str ++ [.str "zq"]), .tup [rowD lot], .tup (lot.map D.str ++ [.tup []]), .lst [rowD lot]])]) (h1 := h) ?_ ?_
  · rw [s_set, w_lst, w_Co, w_C, w_Co, w_C, w_Co, w_C, w_Co, w_C, w_Co, w_op, w_V]
    refine ⟨_, rfl, ?_⟩
    rw [w_C]
    refine ⟨_, x0, ?_⟩
    rw [w_Co, show ∀ s h, fLst fN s h = .ok (.lst []) h from fun _ _ => rfl, w_ok, w_Co, w_C, w_Co, w_CB, w_Co, w_V]
    refine ⟨_, rfl, ?_⟩
    rw [w_N]
    refine ⟨.lst (lot.map D.str), h, rfl, ?_⟩
    rw [w_Co, w_op, w_V]
    refine ⟨_, rfl, ?_⟩
    rw [w_tup, w_Co, w_C, w_N]
    refine ⟨rfl, _, add1 (by omega) (by simp), ?_⟩
    rw [w_Co, w_op, w_V]
    refine ⟨_, rfl, ?_⟩
    rw [w_tup, w_Co, w_C, w_N]
    refine ⟨rfl, _, add1 (by omega) (by simp), ?_⟩
    rw [w_Co, w_tup, w_Co, w_V]
    refine ⟨_, rfl, ?_⟩
    rw [w_N]
    refine ⟨rfl, ?_⟩
    rw [w_Co, w_op, w_V]
    refine ⟨_, rfl, ?_⟩
    rw [w_tup, w_Co, show ∀ s h, fTup fN s h = .ok (.tup []) h from fun _ _ => rfl, w_ok, w_N]
    refine ⟨rfl, _, add1 (by omega) (by simp), ?_⟩
    rw [w_Co, w_lst, w_Co, w_V]
    refine ⟨_, rfl, ?_⟩
    rw [w_N]
    refine ⟨rfl, ?_⟩
    rw [w_N]
    exact ⟨rfl, rfl, rfl⟩
  refine s_det (s1 := [some (.ref n), some (rowD (x :: r)), some (rowD lot), some (.lst (ODD (x :: r) lot x))]) (h1 := h) ?_ ?_
  · rw [s_set, w_op, w_V]
    refine ⟨_, rfl, ?_⟩
    rw [w_lst, w_Co, w_C, w_Co, w_op, w_V]
    refine ⟨_, rfl, ?_⟩
    rw [w_tup, w_Co]
    refine w_upr ?_
    rw [w_op, w_V]
    refine ⟨_, rfl, ?_⟩
    rw [w_C]
    refine ⟨_, x0, x, rfl, Nat.le_trans (ok x List.mem_cons_self).2 (by decide), ?_⟩
    rw [w_N]
    refine ⟨rfl, _, add1 (by omega) (by simp), ?_⟩
    rw [w_Co, w_op, w_tup, w_Co, w_C, w_N]
    refine ⟨rfl, ?_⟩
    rw [w_V]
    refine ⟨_, rfl, _, add1 (by simp) (by omega), ?_⟩
    rw [w_Co]
    refine w_join ?_
    rw [w_C]
    refine ⟨"", rfl, ?_⟩
    rw [w_V]
    refine ⟨_, rfl, lot, ?_, ?_, ?_⟩
    · show strsD (lot.map D.str) = _
      exact strsD_map lot
    · have s := sum_len fun y hy => ok y (lo y hy)
      have z : (("" : Str)).length = 0 := by decide
      rw [z]
      omega
    rw [w_Co, w_op, w_V]
    refine ⟨_, rfl, ?_⟩
    rw [w_tup, w_Co, show ∀ s h, fLst fN s h = .ok (.lst []) h from fun _ _ => rfl, w_ok, w_N]
    refine ⟨rfl, _, add1 (by omega) (by simp), ?_⟩
    rw [w_Co, w_tup, w_Co, w_V]
    refine ⟨_, rfl, ?_⟩
    rw [w_N]
    refine ⟨rfl, ?_⟩
    rw [w_Co, w_V]
    refine ⟨_, rfl, ?_⟩
    rw [w_N]
    refine ⟨rfl, _, addL (by simp) (by simp), ?_⟩
    exact ⟨rfl, rfl⟩
  rw [s_rt, w_call, w_Co, w_V]
  refine ⟨_, rfl, ?_⟩
  rw [w_Co, w_V]
  refine ⟨_, rfl, ?_⟩
  rw [w_N]
  refine pick_ok (l := ODD (x :: r) lot x) dk hk (.inr (.inl rfl)) (by show 0 < 20; decide) (by show 20 < 1000000; decide) fun i d h' e o d' => ?_
  obtain ⟨p, it⟩ := odd_it ok hn (fun y hy => ok y (lo y hy)) hl List.mem_cons_self (pl x List.mem_cons_self) d (List.mem_of_getElem? e)
  exact q d p h' it o d'
end L4
set_option Elab.async false
set_option linter.all false
set_option maxRecDepth 100000
set_option maxHeartbeats 2000000
namespace L4
open PySem PySem.Spec PyProof.Rows L2 Lg
open Lf (EndsOf Small Closed clashL isClash Fd Fds Net nf2)
theorem ok_some {α : Type} {o : Oc α} {Q : α → Hh → Prop} (x : Ok o Q) : ∃ d h1, o = .ok d h1 ∧ Q d h1 := by
  unfold Ok at x
  cases o with
  | ok d h1 => exact ⟨d, h1, rfl, x⟩
  | _ => exact x.elim
theorem s_forE {s : S} {h : Hh} {G : Gs} {fa : FE} {fg : FG} {g : FS}
    (x : Ok (fa s h) fun d h1 => ∃ l, SeqD d l ∧ ∃ I : Nat → S → Hh → Prop, I 0 s h1 ∧ (∀ (i : Nat) d s h, l[i]? = some d → I i s h → Ok (fg d s h) fun s1 h1 => OkS (g s1 h1) { nx := I (i + 1), ct := I (i + 1), bk := G.nx, rt := G.rt }) ∧ ∀ s h, I l.length s h → G.nx s h) : OkS (gFor (fWalk fa) fg g s h) G := by
  obtain ⟨d, h1, q, l, sq, I, i0, turn, fin⟩ := ok_some x
  have e : gFor (fWalk fa) fg g s h = gFor (fWalk (fC d)) fg g s h1 := by
    unfold gFor fWalk
    rw [q]
    rfl
  rw [e]
  exact s_forL (l := l) I (by rw [w_C]; exact ⟨sq, i0⟩) turn fin
theorem nice_lst3 {c : Bool} {z : Str} (h : Hh) : pyE h 66 (.lst [.bl c, .bl c, .str z]) = some (.list [.bool c, .bool c, .str z]) := by
  show ([D.bl c, .bl c, .str z].mapM (pyE h 65)).map PyData.list = _
  rw [pyE_cons (nice_bl c h 61) (pyE_cons (nice_bl c h 61) (pyE_cons (nice_str z h 61) rfl))]
  rfl
theorem sh_lst3 {c : Bool} {z : Str} {B : Nat} (h : Sh 0 B (.str z)) (hB : 5 ≤ B) : Sh 1 (3 * (B + 2) + 3) (.list [.bool c, .bool c, .str z]) := Sh.lst (ds := [.bool c, .bool c, .str z]) fun d hd => by
  simp only [List.mem_cons, List.not_mem_nil, or_false] at hd
  rcases hd with rfl | rfl | rfl
  · exact (Sh.bl c).mono (Nat.le_refl _) hB
  · exact (Sh.bl c).mono (Nat.le_refl _) hB
  · exact h
theorem clash_shown {o : Option (List Str)} (h : ∀ r, o = some r → r.length ≤ 20 ∧ ∀ x ∈ r, okN x) : ∃ p, Nice (clashD o) p ∧ Sh 1 (20 * 84 + 3) p := by
  cases o with
  | none => exact ⟨.none, fun _ _ => rfl, Sh.non.mono (by decide) (by decide)⟩
  | some r => exact ⟨rowP r, nice_row r, sh_row (h r rfl).2 (h r rfl).1⟩
theorem law_ok {a : Addr} {h : Hh} {x : D} {ns0 : List Int} (hx : asF h x = some (ns0.map D.int)) (nt : ∀ l, x ≠ .tup l) (hl : ns0.length ≤ 63) : Ok (F_law a [x] h) fun d _ => d = .bl true := by
  unfold F_law f_law
  rw [w_callB]
  refine ⟨rfl, ?_⟩
  show OkS (gSeq _ _ [some x, none, none, none, none, none, none, none, none, none, none, none, none] h) _
  refine s_cut (fun s' h' => ∃ n m, s' = [some x, some (.ref n), none, none, none, none, none, none, none, none, none, none, none] ∧ Deck n m 0 h') ?_ ?_
  · rw [s_set, w_call, w_Co, w_V]
    refine ⟨_, rfl, ?_⟩
    rw [w_N]
    exact deck_ok hx nt hl fun n m h' d _ _ _ _ => ⟨n, m, rfl, d⟩
  rintro s0 h0 ⟨n, m, rfl, dk0⟩
  let st : Option D → Option D → Option D → Option D → Option D → Option D → Option D → Option D → Option D → Option D → Option D → S := fun v2 v3 v4 v5 v6 v7 v8 v9 v10 v11 v12 => [some x, some (.ref n), v2, v3, v4, v5, v6, v7, v8, v9, v10, v11, v12]
  refine s_cut (fun s' h' => True) ?_ ?_
  · refine s_forR 5 (fun i s' h' => ∃ v2 v3 v4 v5 v6 v7 v8 v9 v10 v11 v12 k, s' = st v2 v3 v4 v5 v6 v7 v8 v9 v10 v11 v12 ∧ Deck n m k h' ∧ k ≤ 20000 * i ∧ i ≤ 5) ?_ ?_ ?_
    · rw [w_C]
      exact ⟨⟨_, rfl, by decide, by decide, rfl⟩, none, none, none, none, none, none, none, none, none, none, none, 0, rfl, dk0, by omega, by omega⟩
    · rintro i s1 h1 hi ⟨v2, v3, v4, v5, v6, v7, v8, v9, v10, v11, v12, k, rfl, dk, hk, _⟩
      obtain ⟨ln, lm⟩ := dk_lt dk
      rw [w_gN]
      show OkS (gSeq _ _ (st (some (.int i)) v3 v4 v5 v6 v7 v8 v9 v10 v11 v12) h1) _
      -- names
      refine s_cut (fun s' h' => ∃ ns k', s' = st (some (.int i)) (some (rowD ns)) v4 v5 v6 v7 v8 v9 v10 v11 v12 ∧ Off n m h1 h' ∧ Deck n m k' h' ∧ k' ≤ k + 7 ∧ NamesOk ns ∧ 0 < ns.length ∧ ns.length ≤ 6) ?_ ?_
      · rw [s_set, w_call, w_Co, w_V]
        refine ⟨_, rfl, ?_⟩
        rw [w_Co, w_op, w_C, w_call, w_Co, w_V]
        refine ⟨_, rfl, ?_⟩
        rw [w_Co, w_C, w_N]
        refine draw_ok dk (by omega) (by decide) (by decide) fun r h2 o2 d2 r0 r1 => ?_
        refine ⟨.int (1 + r), rfl, ?_⟩
        rw [w_N]
        obtain ⟨j, hj⟩ : ∃ j : Nat, 1 + r = j := ⟨(1 + r).toNat, by omega⟩
        rw [hj]
        exact names_ok d2 (by omega) (by omega) fun ns h3 o3 d3 nok nl => ⟨ns, k + 1 + j, rfl, o2.trans o3, d3, by omega, nok, by omega, by omega⟩
      rintro s2 h2 ⟨ns, k2, rfl, o2, dk2, hk2, nok, n0, n6⟩
      have okN_ : ∀ x ∈ ns, okN x := fun x hx => pool_okN x (nok.pool x hx)
      have okt : ∀ x ∈ ns, okT x := fun x hx => (okN_ x hx).1
      -- the table
      refine s_cut (fun s' h' => ∃ t T k', s' = st (some (.int i)) (some (rowD ns)) (some (.ref t)) v5 v6 v7 v8 v9 v10 v11 v12 ∧ Deck n m k' h' ∧ k' ≤ k + 1100 ∧ TabAt h' t T ∧ t ≠ n ∧ t ≠ m ∧ TabOk ns T ∧ clashL ns (lookT T) = none) ?_ ?_
      · rw [s_set, w_call, w_Co, w_V]
        refine ⟨_, rfl, ?_⟩
        rw [w_Co, w_V]
        refine ⟨_, rfl, ?_⟩
        rw [w_Co, w_call, w_Co, w_V]
        refine ⟨_, rfl, ?_⟩
        simp only [Lg.w_ok, Lg.w_V, Lg.w_C, Lg.w_N, Lg.w_Co, Lg.w_op, Lg.w_B, Lg.w_CB, Lg.w_call, Lg.w_tup, Lg.w_lst, Lg.w_lstN, Lg.w_if, Lg.w_not, Lg.w_and, Lg.w_or, Lg.w_tru, Lg.w_pop, Lg.w_app, Lg.s_seq, Lg.s_nx, Lg.s_set, Lg.s_par, Lg.s_rt, Lg.s_rtN, Lg.s_ex, Lg.s_if, Lg.s_asg, Lg.w_sub, Lg.w_gN, Lg.w_callB, Lg.w_lc, Lg.w_lcN, Lg.w_sl, Lg.w_O0, Lg.w_O, Lg.w_revN, Lg.s_par3]
        refine ⟨rfl, ?_⟩
        refine pick_ok (l := [.int 2, .int 3, .int 9]) dk2 (by omega) (.inr (.inl rfl)) (by decide) (by decide) fun j d3 h3 e3 o3 dk3 => ?_
        obtain ⟨p, rfl, p0, p1⟩ : ∃ p : Int, d3 = .int p ∧ 0 < p ∧ p < 1000000 := by
          have := List.mem_of_getElem? e3
          simp only [List.mem_cons, List.not_mem_nil, or_false] at this
          rcases this with e | e | e
          · exact ⟨2, e, by decide, by decide⟩
          · exact ⟨3, e, by decide, by decide⟩
          · exact ⟨9, e, by decide, by decide⟩
        refine clear_ok dk3 (by omega) (by omega) n0 p0 p1 okt fun t T h4 k4 ht o4 dk4 hk4 tb4 tok4 _ hc4 => ?_
        have l3 := o3.len
        have l1 := o2.len
        exact ⟨t, T, k4, rfl, dk4, by omega, tb4, by omega, by omega, tok4, hc4⟩
      rintro s3 h3 ⟨t, T, k3, rfl, dk3, hk3, tb3, tn, tm, tok, hc⟩
      obtain ⟨ln3, lm3⟩ := dk_lt dk3
      -- the book
      refine s_cut (fun s' h' => ∃ b, s' = st (some (.int i)) (some (rowD ns)) (some (.ref t)) (some (.ref b)) v6 v7 v8 v9 v10 v11 v12 ∧ Kp h3 h' ∧ BookAt h' b ns T ∧ b ≠ n ∧ b ≠ m) ?_ ?_
      · rw [s_set, w_call, w_Co, w_V]
        refine ⟨_, rfl, ?_⟩
        rw [w_Co, w_call, w_Co, w_V]
        refine ⟨_, rfl, ?_⟩
        rw [w_Co, w_V]
        refine ⟨_, rfl, ?_⟩
        rw [w_N]
        refine rules_ok tb3 (by omega) ?_
        rw [w_N]
        exact of_ok nok n6 n0 tok hc fun b h4 hb kp bk => ⟨b, rfl, kp, bk, by omega, by omega⟩
      rintro s4 h4 ⟨b, rfl, kp, bk, bn, bm⟩
      have dk4 := kp.deck dk3
      have tb4 := kp.tab tb3
      have lt : t < h4.length := (List.getElem?_eq_some_iff.mp tb4).1
      obtain ⟨fl, i1, i2, _⟩ := bk.meth
      -- the results
      refine s_cut (fun s' h' => ∃ v6 v7 v8, s' = st (some (.int i)) (some (rowD ns)) (some (.ref t)) (some (.ref b)) v6 v7 v8 v9 v10 v11 v12 ∧ h' = h4) ?_ ?_
      · refine s_forL (l := ns.map D.str) (fun _ s' h' => ∃ v6 v7 v8, s' = st (some (.int i)) (some (rowD ns)) (some (.ref t)) (some (.ref b)) v6 v7 v8 v9 v10 v11 v12 ∧ h' = h4) ?_ ?_ ?_
        · rw [w_V]
          exact ⟨_, rfl, .inl rfl, v6, v7, v8, rfl, rfl⟩
        · rintro j1 d1 s5 h5 hj1 ⟨w6, w7, w8, rfl, rfl⟩
          obtain ⟨xa, _, rfl, ma⟩ := strItem hj1
          rw [w_gN]
          show OkS (gFor _ _ _ (st (some (.int i)) (some (rowD ns)) (some (.ref t)) (some (.ref b)) (some (.str xa)) w7 w8 v9 v10 v11 v12) h5) _
          refine s_forL (l := ns.map D.str) (fun _ s' h' => ∃ v7 v8, s' = st (some (.int i)) (some (rowD ns)) (some (.ref t)) (some (.ref b)) (some (.str xa)) v7 v8 v9 v10 v11 v12 ∧ h' = h5) ?_ ?_ ?_
          · rw [w_V]
            exact ⟨_, rfl, .inl rfl, w7, w8, rfl, rfl⟩
          · rintro j2 d2 s6 h6 hj2 ⟨u7, u8, rfl, rfl⟩
            obtain ⟨yb, _, rfl, mb⟩ := strItem hj2
            rw [w_gN]
            show OkS (gSeq _ _ (st (some (.int i)) (some (rowD ns)) (some (.ref t)) (some (.ref b)) (some (.str xa)) (some (.str yb)) u8 v9 v10 v11 v12) h6) _
            obtain ⟨p, np, sp⟩ := clash_shown (o := lookT T xa yb) fun r e => ⟨Nat.le_trans (tok.small _ _ _ e) (by decide), fun z hz => okN_ z ((tok.ok _ _ _ e).2.2.2 z hz)⟩
            refine s_det (s1 := st (some (.int i)) (some (rowD ns)) (some (.ref t)) (some (.ref b)) (some (.str xa)) (some (.str yb)) (some (clashD (lookT T xa yb))) v9 v10 v11 v12) (h1 := h6) ?_ ?_
            · rw [s_set, w_if, w_B, w_op, w_tup, w_Co, w_V]
              refine ⟨_, rfl, ?_⟩
              rw [w_Co, w_V]
              refine ⟨_, rfl, ?_⟩
              rw [w_N]
              refine ⟨rfl, ?_⟩
              rw [w_V]
              refine ⟨_, rfl, _, tb4.in_, _, rfl, ?_⟩
              cases e : lookT T xa yb with
              | none =>
                rw [if_neg (by decide), w_C]
                exact ⟨rfl, rfl⟩
              | some r =>
                rw [if_pos (by rfl), w_op, w_V]
                refine ⟨_, rfl, ?_⟩
                rw [w_tup, w_Co, w_V]
                refine ⟨_, rfl, ?_⟩
                rw [w_Co, w_V]
                refine ⟨_, rfl, ?_⟩
                rw [w_N]
                exact ⟨rfl, _, tb4.ix e, rfl, rfl⟩
            rw [s_if, w_B, w_op, w_CB, w_Co, w_lst, w_Co]
            refine w_meth ?_
            rw [w_V]
            refine ⟨_, rfl, fl, i1, i2, ?_⟩
            rw [w_Co, w_V]
            refine ⟨_, rfl, ?_⟩
            rw [w_Co, w_V]
            refine ⟨_, rfl, ?_⟩
            rw [w_N]
            refine result_ok bk ?_
            rw [w_Co]
            refine w_methK ?_
            rw [w_V]
            refine ⟨_, rfl, fl, i1, i2, ?_⟩
            rw [w_N, w_Co, w_V]
            refine ⟨_, rfl, ?_⟩
            rw [w_Co, w_V]
            refine ⟨_, rfl, ?_⟩
            rw [w_N]
            refine ⟨rfl, ?_⟩
            show Ok (F_Book_result [.ref b, .str xa, .str yb] h6) _
            refine result_ok bk ?_
            rw [w_N]
            refine ⟨rfl, ?_⟩
            rw [w_N]
            refine ⟨_, _, repr2 np np sp sp (by decide) (by decide), ?_⟩
            rw [w_CB, w_Co, w_lst, w_Co, w_V]
            refine ⟨_, rfl, ?_⟩
            rw [w_Co, w_V]
            refine ⟨_, rfl, ?_⟩
            rw [w_N]
            refine ⟨rfl, ?_⟩
            rw [w_N]
            refine ⟨_, _, repr2 np np sp sp (by decide) (by decide), .bl false, same_ne, false, rfl, ?_⟩
            rw [if_neg Bool.false_ne_true, s_nx]
            exact ⟨_, _, rfl, rfl⟩
          · rintro s6 h6 ⟨u7, u8, rfl, rfl⟩
            exact ⟨_, _, _, rfl, rfl⟩
        · rintro s5 h5 ⟨w6, w7, w8, rfl, rfl⟩
          exact ⟨_, _, _, rfl, rfl⟩
      rintro s5 h5 ⟨w6, w7, w8, rfl, rfl⟩
      -- the rows
      refine s_forR 5 (fun j s' h' => ∃ v8 v9 v10 v11 v12 k', s' = st (some (.int i)) (some (rowD ns)) (some (.ref t)) (some (.ref b)) w6 w7 v8 v9 v10 v11 v12 ∧ Off n m h5 h' ∧ Deck n m k' h' ∧ k' ≤ k + 1100 + 200 * j) ?_ ?_ ?_
      · rw [w_C]
        exact ⟨⟨_, rfl, by decide, by decide, rfl⟩, w8, v9, v10, v11, v12, k3, rfl, Off.refl, dk4, by omega⟩
      · rintro j s6 h6 hj ⟨u8, u9, u10, u11, u12, k6, rfl, o6, d6, hk6⟩
        have bk6 := bk.off o6 bn bm
        have tb6 : TabAt h6 t T := (o6.st _ tn tm lt).trans tb4
        rw [w_gN]
        show OkS (gSeq _ _ (st (some (.int i)) (some (rowD ns)) (some (.ref t)) (some (.ref b)) w6 w7 u8 (some (.int j)) u10 u11 u12) h6) _
        refine s_cut (fun s' h' => ∃ lot k', s' = st (some (.int i)) (some (rowD ns)) (some (.ref t)) (some (.ref b)) w6 w7 u8 (some (.int j)) (some (rowD lot)) u11 u12 ∧ Off n m h5 h' ∧ Deck n m k' h' ∧ k' ≤ k6 + 31 ∧ lot.length ≤ 20 ∧ ∀ x ∈ lot, x ∈ ns) ?_ ?_
        · rw [s_set, w_call, w_Co, w_V]
          refine ⟨_, rfl, ?_⟩
          rw [w_Co, w_V]
          refine ⟨_, rfl, ?_⟩
          rw [w_Co, w_V]
          refine ⟨_, rfl, ?_⟩
          rw [w_Co, w_call, w_Co, w_V]
          refine ⟨_, rfl, ?_⟩
          rw [w_Co, w_C, w_N]
          refine draw_ok d6 (by omega) (by decide) (by decide) fun r h7 o7 d7 r0 r1 => ?_
          rw [w_N]
          obtain ⟨z, hz⟩ : ∃ z : Nat, r = z := ⟨r.toNat, by omega⟩
          subst hz
          have tb7 : TabAt h7 t T := ((o6.trans o7).st _ tn tm lt).trans tb4
          exact row_ok d7 (by omega) (by omega) n0 okt tb7 tn tm (by omega) fun lot h8 k8 o8 d8 hk8 ll lo => ⟨lot, k8, rfl, (o6.trans o7).trans o8, d8, by omega, by omega, lo⟩
        rintro s7 h7 ⟨lot, k7, rfl, o7, d7, hk7, ll, lo⟩
        have bk7 := bk.off o7 bn bm
        have tb7 : TabAt h7 t T := (o7.st _ tn tm lt).trans tb4
        refine s_cut (fun s' h' => ∃ k', s' = st (some (.int i)) (some (rowD ns)) (some (.ref t)) (some (.ref b)) w6 w7 u8 (some (.int j)) (some (rowD lot)) u11 u12 ∧ Off n m h5 h' ∧ Deck n m k' h' ∧ k' ≤ k6 + 131) ?_ ?_
        · rw [s_if, w_or, w_not, w_B, w_call, w_Co, w_V]
          refine ⟨_, rfl, ?_⟩
          rw [w_Co, w_V]
          refine ⟨_, rfl, ?_⟩
          rw [w_Co, w_V]
          refine ⟨_, rfl, ?_⟩
          rw [w_Co, w_V]
          refine ⟨_, rfl, ?_⟩
          rw [w_N]
          refine foldsRight_ok d7 (by omega) bk7 tb7 bn bm tn tm ll lo tok okN_ fun h8 k8 o8 d8 hk8 => ?_
          have o58 := o7.trans o8
          refine ⟨true, rfl, ?_⟩
          rw [if_neg (by decide), w_not, w_B, w_call, w_Co, w_V]
          refine ⟨_, rfl, ?_⟩
          rw [w_Co, w_V]
          refine ⟨_, rfl, ?_⟩
          rw [w_Co, w_V]
          refine ⟨_, rfl, ?_⟩
          rw [w_Co, w_V]
          refine ⟨_, rfl, ?_⟩
          rw [w_N]
          refine netRight_ok d8 (by omega) (bk.off o58 bn bm) ((o58.st _ tn tm lt).trans tb4) bn bm ll lo tok okN_ hc fun h9 k9 o9 d9 hk9 => ?_
          refine ⟨true, rfl, ?_⟩
          rw [if_neg (by decide), s_nx]
          exact ⟨k9, rfl, o58.trans o9, d9, by omega⟩
        rintro s8 h8 ⟨k8, rfl, o8, d8, hk8⟩
        have tb8 : TabAt h8 t T := (o8.st _ tn tm lt).trans tb4
        refine s_forE ?_
        rw [w_lst, w_Co, w_call, w_Co, w_V]
        refine ⟨_, rfl, ?_⟩
        rw [w_Co, w_V]
        refine ⟨_, rfl, ?_⟩
        rw [w_Co, w_V]
        refine ⟨_, rfl, ?_⟩
        rw [w_N]
        refine odd_ok d8 (by omega) okN_ nok.pool n0 (by omega) lo ll fun e1 p1 h9 it1 o9 d9 => ?_
        have o59 := o8.trans o9
        rw [w_Co, w_call, w_Co, w_V]
        refine ⟨_, rfl, ?_⟩
        rw [w_Co, w_V]
        refine ⟨_, rfl, ?_⟩
        rw [w_Co, w_call, w_Co, w_V]
        refine ⟨_, rfl, ?_⟩
        rw [w_Co, w_V]
        refine ⟨_, rfl, ?_⟩
        rw [w_N]
        refine net_ok ((o59.st _ tn tm lt).trans tb4) tok.small (by omega) fun due fdue ndue => ?_
        have dle := fdue.le tok.small
        have dns : ∀ x ∈ due, x ∈ ns := fdue.over (P := fun x => x ∈ ns) (fun x y w e z hz => (tok.ok x y w e).2.2.2 z hz) lo
        rw [w_N]
        refine odd_ok d9 (by omega) okN_ nok.pool n0 (by omega) dns (by omega) fun e2 p2 h10 it2 o10 d10 => ?_
        rw [w_N]
        refine ⟨rfl, [e1, e2], .inr (.inl rfl), fun _ s' h' => ∃ v8 v11 v12 k', s' = st (some (.int i)) (some (rowD ns)) (some (.ref t)) (some (.ref b)) w6 w7 v8 (some (.int j)) (some (rowD lot)) v11 v12 ∧ Off n m h5 h' ∧ Deck n m k' h' ∧ k' ≤ k6 + 140, ⟨u8, u11, u12, k8 + 1 + 1, rfl, o59.trans o10, d10, by omega⟩, ?_, ?_⟩
        · rintro q d s9 h11 hq ⟨y8, y11, y12, k11, rfl, o11, d11, hk11⟩
          obtain ⟨p, it⟩ : ∃ p, It d p := by
            have := List.mem_of_getElem? hq
            simp only [List.mem_cons, List.not_mem_nil, or_false] at this
            rcases this with e | e
            · exact ⟨p1, e ▸ it1⟩
            · exact ⟨p2, e ▸ it2⟩
          have bk11 := bk.off o11 bn bm
          have tb11 : TabAt h11 t T := (o11.st _ tn tm lt).trans tb4
          obtain ⟨gl, g1, g2, g3, g4, g5, g6, g7, g8⟩ := bk11.meth
          have elp : ∀ ds, d = .tup ds → ds.length ≤ 30 ∧ ∀ e ∈ ds, plain e = true := fun ds e => ⟨(it.el ds e).1, fun z hz => ((it.el ds e).2 z hz).pl⟩
          have rp := reprE_same (h := h11) (it.nc h11 62) it.sh (by decide) (by decide)
          have s0 : Sh 0 (10 * 61000 + 2) (.str p.shown) := Sh.str it.sh.ch it.sh.ln
          rw [w_gN]
          show OkS (gSeq _ _ (st (some (.int i)) (some (rowD ns)) (some (.ref t)) (some (.ref b)) w6 w7 y8 (some (.int j)) (some (rowD lot)) (some d) y12) h11) _
          refine s_det (s1 := st (some (.int i)) (some (rowD ns)) (some (.ref t)) (some (.ref b)) w6 w7 (some (.bl (isNetB ns T d))) (some (.int j)) (some (rowD lot)) (some d) (some (.str p.shown))) (h1 := h11) ?_ ?_
          · rw [s_par, w_call, w_Co, w_V]
            refine ⟨_, rfl, ?_⟩
            rw [w_Co, w_V]
            refine ⟨_, rfl, ?_⟩
            rw [w_Co, w_V]
            refine ⟨_, rfl, ?_⟩
            rw [w_N]
            refine lisNet_ok tb11 it.pl it.el ?_
            rw [w_CB, w_Co, w_V]
            refine ⟨_, rfl, ?_⟩
            rw [w_N]
            exact ⟨_, _, rp, rfl, rfl⟩
          rw [s_if, w_B, w_op, w_CB, w_Co, w_lst, w_Co]
          refine w_meth ?_
          rw [w_V]
          refine ⟨_, rfl, gl, g1, g8, ?_⟩
          rw [w_Co, w_V]
          refine ⟨_, rfl, ?_⟩
          rw [w_N]
          refine isNet_all bk11 it.pl elp ?_
          rw [w_Co]
          refine w_methK ?_
          rw [w_V]
          refine ⟨_, rfl, gl, g1, g8, ?_⟩
          rw [w_N, w_Co, w_V]
          refine ⟨_, rfl, ?_⟩
          rw [w_N]
          refine ⟨rfl, ?_⟩
          show Ok (F_Book_is_net [.ref b, d] h11) _
          refine isNet_all bk11 it.pl elp ?_
          rw [w_Co, w_CB, w_Co, w_V]
          refine ⟨_, rfl, ?_⟩
          rw [w_N]
          refine ⟨_, _, rp, ?_⟩
          rw [w_N]
          refine ⟨rfl, ?_⟩
          rw [w_N]
          refine ⟨_, _, reprE_same (nice_lst3 h11) (sh_lst3 s0 (by decide)) (by decide) (by decide), ?_⟩
          rw [w_CB, w_Co, w_lst, w_Co, w_V]
          refine ⟨_, rfl, ?_⟩
          rw [w_Co, w_V]
          refine ⟨_, rfl, ?_⟩
          rw [w_Co, w_V]
          refine ⟨_, rfl, ?_⟩
          rw [w_N]
          refine ⟨rfl, ?_⟩
          rw [w_N]
          refine ⟨_, _, reprE_same (nice_lst3 h11) (sh_lst3 s0 (by decide)) (by decide) (by decide), .bl false, same_ne, false, rfl, ?_⟩
          rw [if_neg Bool.false_ne_true, s_nx]
          exact ⟨_, _, _, k11, rfl, o11, d11, hk11⟩
        · rintro s9 h11 ⟨y8, y11, y12, k11, rfl, o11, d11, hk11⟩
          exact ⟨y8, _, _, y11, y12, k11, rfl, o11, d11, by omega⟩
      · rintro s6 h6 ⟨u8, u9, u10, u11, u12, k6, rfl, o6, d6, hk6⟩
        exact ⟨_, _, _, _, _, _, _, _, _, _, _, k6, rfl, d6, by omega, by omega⟩
    · rintro s5 h5 _
      trivial
  · rintro s5 h5 _
    rw [s_rt, w_C]
end L4
set_option Elab.async false
set_option linter.all false
set_option maxRecDepth 100000
set_option maxHeartbeats 1000000
namespace L4
open PySem PySem.Spec PyProof.Rows L2 Lg
open Lx (Err Keeps)
theorem keeps_NoFold : Keeps s_NoFold "index" := ⟨⟨_, _, _, _, rfl⟩, fun _ _ _ _ _ _ _ _ _ _ => .of_eq rfl, fun _ _ => rfl, fun _ _ _ _ _ _ => ⟨rfl, rfl, rfl, rfl⟩, by decide +kernel, rfl, rfl, rfl⟩
end L4
set_option Elab.async false
set_option linter.all false
set_option maxRecDepth 100000
set_option maxHeartbeats 4000000
namespace L4
open PySem PySem.Spec PyProof.Rows L2 Lg
/-! what the top has written, and the head -/
theorem all_mk {l : PySem.W.OpenLaw} {w : World} {K : PySem.W.Frag} {h : Heap} {mg : Str → Option Value} {fa : Addr} (X : K.In h) (G : h.Ns mainGlobals mg) (hfa : mg "law" = some (.ref fa))
    {t_LETTERS : Tok}
    {a_Book : Addr}
    {mc_Book : Value}
    {a_is_integer : Addr} {oc_is_integer kV_is_integer dc_is_integer pm_is_integer cd_is_integer ct_is_integer : Value} {od_is_integer an_is_integer : Option Addr} {sl_is_integer : Array (Option Value)}
    {a_is_ascending : Addr} {oc_is_ascending kV_is_ascending dc_is_ascending pm_is_ascending cd_is_ascending ct_is_ascending : Value} {od_is_ascending an_is_ascending : Option Addr} {sl_is_ascending : Array (Option Value)}
    {a_is_name : Addr} {oc_is_name kV_is_name dc_is_name pm_is_name cd_is_name ct_is_name : Value} {od_is_name an_is_name : Option Addr} {sl_is_name : Array (Option Value)}
    {a_are_entries : Addr} {oc_are_entries kV_are_entries dc_are_entries pm_are_entries cd_are_entries ct_are_entries : Value} {od_are_entries an_are_entries : Option Addr} {sl_are_entries : Array (Option Value)}
    {a_known_of : Addr} {oc_known_of kV_known_of dc_known_of pm_known_of cd_known_of ct_known_of : Value} {od_known_of an_known_of : Option Addr} {sl_known_of : Array (Option Value)}
    {a_is_known : Addr} {oc_is_known kV_is_known dc_is_known pm_is_known cd_is_known ct_is_known : Value} {od_is_known an_is_known : Option Addr} {sl_is_known : Array (Option Value)}
    {a_is_rule : Addr} {oc_is_rule kV_is_rule dc_is_rule pm_is_rule cd_is_rule ct_is_rule : Value} {od_is_rule an_is_rule : Option Addr} {sl_is_rule : Array (Option Value)}
    {a_check_rules : Addr} {oc_check_rules kV_check_rules dc_check_rules pm_check_rules cd_check_rules ct_check_rules : Value} {od_check_rules an_check_rules : Option Addr} {sl_check_rules : Array (Option Value)}
    {a_results_of : Addr} {oc_results_of kV_results_of dc_results_of pm_results_of cd_results_of ct_results_of : Value} {od_results_of an_results_of : Option Addr} {sl_results_of : Array (Option Value)}
    {a_seconds_of : Addr} {oc_seconds_of kV_seconds_of dc_seconds_of pm_seconds_of cd_seconds_of ct_seconds_of : Value} {od_seconds_of an_seconds_of : Option Addr} {sl_seconds_of : Array (Option Value)}
    {a_is_clash : Addr} {oc_is_clash kV_is_clash dc_is_clash pm_is_clash cd_is_clash ct_is_clash : Value} {od_is_clash an_is_clash : Option Addr} {sl_is_clash : Array (Option Value)}
    {a_clash_of : Addr} {oc_clash_of kV_clash_of dc_clash_of pm_clash_of cd_clash_of ct_clash_of : Value} {od_clash_of an_clash_of : Option Addr} {sl_clash_of : Array (Option Value)}
    {i_Book : Addr} {oc_Book___init__ kV_Book___init__ dc_Book___init__ pm_Book___init__ cd_Book___init__ ct_Book___init__ : Value} {od_Book___init__ an_Book___init__ : Option Addr} {sl_Book___init__ : Array (Option Value)}
    {m_Book_of : Addr} {oc_Book_of kV_Book_of dc_Book_of pm_Book_of cd_Book_of ct_Book_of : Value} {od_Book_of an_Book_of : Option Addr} {sl_Book_of : Array (Option Value)}
    {p_Book_of : Addr} {rest_Book_of : List Value}
    {m_is_entry : Addr} {oc_Book_is_entry kV_Book_is_entry dc_Book_is_entry pm_Book_is_entry cd_Book_is_entry ct_Book_is_entry : Value} {od_Book_is_entry an_Book_is_entry : Option Addr} {sl_Book_is_entry : Array (Option Value)}
    {m_result : Addr} {oc_Book_result kV_Book_result dc_Book_result pm_Book_result cd_Book_result ct_Book_result : Value} {od_Book_result an_Book_result : Option Addr} {sl_Book_result : Array (Option Value)}
    {m_push : Addr} {oc_Book_push kV_Book_push dc_Book_push pm_Book_push cd_Book_push ct_Book_push : Value} {od_Book_push an_Book_push : Option Addr} {sl_Book_push : Array (Option Value)}
    {m_net : Addr} {oc_Book_net kV_Book_net dc_Book_net pm_Book_net cd_Book_net ct_Book_net : Value} {od_Book_net an_Book_net : Option Addr} {sl_Book_net : Array (Option Value)}
    {m_folds : Addr} {oc_Book_folds kV_Book_folds dc_Book_folds pm_Book_folds cd_Book_folds ct_Book_folds : Value} {od_Book_folds an_Book_folds : Option Addr} {sl_Book_folds : Array (Option Value)}
    {m_is_net : Addr} {oc_Book_is_net kV_Book_is_net dc_Book_is_net pm_Book_is_net cd_Book_is_net ct_Book_is_net : Value} {od_Book_is_net an_Book_is_net : Option Addr} {sl_Book_is_net : Array (Option Value)}
    {m_folded : Addr} {oc_Book_folded kV_Book_folded dc_Book_folded pm_Book_folded cd_Book_folded ct_Book_folded : Value} {od_Book_folded an_Book_folded : Option Addr} {sl_Book_folded : Array (Option Value)}
    {a__law_deck : Addr} {oc__law_deck kV__law_deck dc__law_deck pm__law_deck cd__law_deck ct__law_deck : Value} {od__law_deck an__law_deck : Option Addr} {sl__law_deck : Array (Option Value)}
    {a__law_draw : Addr} {oc__law_draw kV__law_draw dc__law_draw pm__law_draw cd__law_draw ct__law_draw : Value} {od__law_draw an__law_draw : Option Addr} {sl__law_draw : Array (Option Value)}
    {a__law_pick : Addr} {oc__law_pick kV__law_pick dc__law_pick pm__law_pick cd__law_pick ct__law_pick : Value} {od__law_pick an__law_pick : Option Addr} {sl__law_pick : Array (Option Value)}
    {a__law_names : Addr} {oc__law_names kV__law_names dc__law_names pm__law_names cd__law_names ct__law_names : Value} {od__law_names an__law_names : Option Addr} {sl__law_names : Array (Option Value)}
    {a__law_table : Addr} {oc__law_table kV__law_table dc__law_table pm__law_table cd__law_table ct__law_table : Value} {od__law_table an__law_table : Option Addr} {sl__law_table : Array (Option Value)}
    {a__law_spots : Addr} {oc__law_spots kV__law_spots dc__law_spots pm__law_spots cd__law_spots ct__law_spots : Value} {od__law_spots an__law_spots : Option Addr} {sl__law_spots : Array (Option Value)}
    {a__law_once : Addr} {oc__law_once kV__law_once dc__law_once pm__law_once cd__law_once ct__law_once : Value} {od__law_once an__law_once : Option Addr} {sl__law_once : Array (Option Value)}
    {a__law_ends : Addr} {oc__law_ends kV__law_ends dc__law_ends pm__law_ends cd__law_ends ct__law_ends : Value} {od__law_ends an__law_ends : Option Addr} {sl__law_ends : Array (Option Value)}
    {a__law_clash : Addr} {oc__law_clash kV__law_clash dc__law_clash pm__law_clash cd__law_clash ct__law_clash : Value} {od__law_clash an__law_clash : Option Addr} {sl__law_clash : Array (Option Value)}
    {a__law_clear : Addr} {oc__law_clear kV__law_clear dc__law_clear pm__law_clear cd__law_clear ct__law_clear : Value} {od__law_clear an__law_clear : Option Addr} {sl__law_clear : Array (Option Value)}
    {a__law_pairs : Addr} {oc__law_pairs kV__law_pairs dc__law_pairs pm__law_pairs cd__law_pairs ct__law_pairs : Value} {od__law_pairs an__law_pairs : Option Addr} {sl__law_pairs : Array (Option Value)}
    {a__law_rules : Addr} {oc__law_rules kV__law_rules dc__law_rules pm__law_rules cd__law_rules ct__law_rules : Value} {od__law_rules an__law_rules : Option Addr} {sl__law_rules : Array (Option Value)}
    {a__law_net : Addr} {oc__law_net kV__law_net dc__law_net pm__law_net cd__law_net ct__law_net : Value} {od__law_net an__law_net : Option Addr} {sl__law_net : Array (Option Value)}
    {a__law_row : Addr} {oc__law_row kV__law_row dc__law_row pm__law_row cd__law_row ct__law_row : Value} {od__law_row an__law_row : Option Addr} {sl__law_row : Array (Option Value)}
    {a__law_folded : Addr} {oc__law_folded kV__law_folded dc__law_folded pm__law_folded cd__law_folded ct__law_folded : Value} {od__law_folded an__law_folded : Option Addr} {sl__law_folded : Array (Option Value)}
    {a__law_folds_right : Addr} {oc__law_folds_right kV__law_folds_right dc__law_folds_right pm__law_folds_right cd__law_folds_right ct__law_folds_right : Value} {od__law_folds_right an__law_folds_right : Option Addr} {sl__law_folds_right : Array (Option Value)}
    {a__law_net_right : Addr} {oc__law_net_right kV__law_net_right dc__law_net_right pm__law_net_right cd__law_net_right ct__law_net_right : Value} {od__law_net_right an__law_net_right : Option Addr} {sl__law_net_right : Array (Option Value)}
    {a__law_odd : Addr} {oc__law_odd kV__law_odd dc__law_odd pm__law_odd cd__law_odd ct__law_odd : Value} {od__law_odd an__law_odd : Option Addr} {sl__law_odd : Array (Option Value)}
    {a__law_is_net : Addr} {oc__law_is_net kV__law_is_net dc__law_is_net pm__law_is_net cd__law_is_net ct__law_is_net : Value} {od__law_is_net an__law_is_net : Option Addr} {sl__law_is_net : Array (Option Value)}
    {a_law : Addr} {oc_law kV_law dc_law pm_law cd_law ct_law : Value} {od_law an_law : Option Addr} {sl_law : Array (Option Value)}
    {e_NoFold i_NoFold : Addr} {oc_eNoFold kV_eNoFold dc_eNoFold pm_eNoFold cd_eNoFold ct_eNoFold : Value} {od_eNoFold an_eNoFold : Option Addr} {sl_eNoFold : Array (Option Value)} {nm_NoFold q_NoFold : Str} {N_NoFold b2_NoFold : Addr} {bs_NoFold : List Value} {sn_NoFold : List Str} {sub_NoFold : List Value} {ab_NoFold : Bool} {col_NoFold : Option Bool} {dd_NoFold : Option Addr} {k0_NoFold k1_NoFold k2_NoFold k3_NoFold k5_NoFold : Option Value}
    (m_LETTERS : PySem.W.nsIn K mainGlobals "LETTERS" = some (some (.str "abcdefghijklmnopqrstuvwxyz" t_LETTERS)))
    (zc_Book : PySem.W.nsIn K mainGlobals "Book" = some (some (.ref a_Book)))
    (pg_Book : PySem.W.plainGet K a_Book Str.empty = true)
    (hd_Book : PySem.W.hasDictIn K a_Book = true)
    (po_Book : PySem.W.plainOver K a_Book = true)
    (sa_Book : PySem.W.findIn K (.ref a_Book) "__setattr__" = some (some (.builtin "object.__setattr__")))
    (nBook__results : PySem.W.findIn K (.ref a_Book) "_results" = some none)
    (nBook__known : PySem.W.findIn K (.ref a_Book) "_known" = some none)
    (nBook__rules : PySem.W.findIn K (.ref a_Book) "_rules" = some none)
    (nBook__entries : PySem.W.findIn K (.ref a_Book) "_entries" = some none)
    (ty_Book : PySem.W.typeIn K (.ref a_Book) = some mc_Book)
    (rd_Book : PySem.W.readsIn K a_Book mc_Book = true)
    (ga_Book : PySem.W.specialIn K (.ref a_Book) "__getattribute__" = some (some (.builtin "type.__getattribute__")))
    (a__is_integer : PySem.W.nsIn K mainGlobals "is_integer" = some (some (.ref a_is_integer)))
    (l__is_integer : K.lookup a_is_integer = some ⟨oc_is_integer, od_is_integer, .func (PySem.W.fnOf "is_integer" "is_integer" (defArgs s_is_integer) (defBody s_is_integer) (defScope s_is_integer) .none kV_is_integer dc_is_integer pm_is_integer an_is_integer cd_is_integer ct_is_integer), sl_is_integer⟩)
    (c__is_integer : PySem.W.codeIn K cd_is_integer "is_integer" = true)
    (k__is_integer : PySem.W.keepIn K (.ref a_is_integer) = true)
    (a__is_ascending : PySem.W.nsIn K mainGlobals "is_ascending" = some (some (.ref a_is_ascending)))
    (l__is_ascending : K.lookup a_is_ascending = some ⟨oc_is_ascending, od_is_ascending, .func (PySem.W.fnOf "is_ascending" "is_ascending" (defArgs s_is_ascending) (defBody s_is_ascending) (defScope s_is_ascending) .none kV_is_ascending dc_is_ascending pm_is_ascending an_is_ascending cd_is_ascending ct_is_ascending), sl_is_ascending⟩)
    (c__is_ascending : PySem.W.codeIn K cd_is_ascending "is_ascending" = true)
    (k__is_ascending : PySem.W.keepIn K (.ref a_is_ascending) = true)
    (a__is_name : PySem.W.nsIn K mainGlobals "is_name" = some (some (.ref a_is_name)))
    (l__is_name : K.lookup a_is_name = some ⟨oc_is_name, od_is_name, .func (PySem.W.fnOf "is_name" "is_name" (defArgs s_is_name) (defBody s_is_name) (defScope s_is_name) .none kV_is_name dc_is_name pm_is_name an_is_name cd_is_name ct_is_name), sl_is_name⟩)
    (c__is_name : PySem.W.codeIn K cd_is_name "is_name" = true)
    (k__is_name : PySem.W.keepIn K (.ref a_is_name) = true)
    (a__are_entries : PySem.W.nsIn K mainGlobals "are_entries" = some (some (.ref a_are_entries)))
    (l__are_entries : K.lookup a_are_entries = some ⟨oc_are_entries, od_are_entries, .func (PySem.W.fnOf "are_entries" "are_entries" (defArgs s_are_entries) (defBody s_are_entries) (defScope s_are_entries) .none kV_are_entries dc_are_entries pm_are_entries an_are_entries cd_are_entries ct_are_entries), sl_are_entries⟩)
    (c__are_entries : PySem.W.codeIn K cd_are_entries "are_entries" = true)
    (k__are_entries : PySem.W.keepIn K (.ref a_are_entries) = true)
    (a__known_of : PySem.W.nsIn K mainGlobals "known_of" = some (some (.ref a_known_of)))
    (l__known_of : K.lookup a_known_of = some ⟨oc_known_of, od_known_of, .func (PySem.W.fnOf "known_of" "known_of" (defArgs s_known_of) (defBody s_known_of) (defScope s_known_of) .none kV_known_of dc_known_of pm_known_of an_known_of cd_known_of ct_known_of), sl_known_of⟩)
    (c__known_of : PySem.W.codeIn K cd_known_of "known_of" = true)
    (k__known_of : PySem.W.keepIn K (.ref a_known_of) = true)
    (a__is_known : PySem.W.nsIn K mainGlobals "is_known" = some (some (.ref a_is_known)))
    (l__is_known : K.lookup a_is_known = some ⟨oc_is_known, od_is_known, .func (PySem.W.fnOf "is_known" "is_known" (defArgs s_is_known) (defBody s_is_known) (defScope s_is_known) .none kV_is_known dc_is_known pm_is_known an_is_known cd_is_known ct_is_known), sl_is_known⟩)
    (c__is_known : PySem.W.codeIn K cd_is_known "is_known" = true)
    (k__is_known : PySem.W.keepIn K (.ref a_is_known) = true)
    (a__is_rule : PySem.W.nsIn K mainGlobals "is_rule" = some (some (.ref a_is_rule)))
    (l__is_rule : K.lookup a_is_rule = some ⟨oc_is_rule, od_is_rule, .func (PySem.W.fnOf "is_rule" "is_rule" (defArgs s_is_rule) (defBody s_is_rule) (defScope s_is_rule) .none kV_is_rule dc_is_rule pm_is_rule an_is_rule cd_is_rule ct_is_rule), sl_is_rule⟩)
    (c__is_rule : PySem.W.codeIn K cd_is_rule "is_rule" = true)
    (k__is_rule : PySem.W.keepIn K (.ref a_is_rule) = true)
    (a__check_rules : PySem.W.nsIn K mainGlobals "check_rules" = some (some (.ref a_check_rules)))
    (l__check_rules : K.lookup a_check_rules = some ⟨oc_check_rules, od_check_rules, .func (PySem.W.fnOf "check_rules" "check_rules" (defArgs s_check_rules) (defBody s_check_rules) (defScope s_check_rules) .none kV_check_rules dc_check_rules pm_check_rules an_check_rules cd_check_rules ct_check_rules), sl_check_rules⟩)
    (c__check_rules : PySem.W.codeIn K cd_check_rules "check_rules" = true)
    (k__check_rules : PySem.W.keepIn K (.ref a_check_rules) = true)
    (a__results_of : PySem.W.nsIn K mainGlobals "results_of" = some (some (.ref a_results_of)))
    (l__results_of : K.lookup a_results_of = some ⟨oc_results_of, od_results_of, .func (PySem.W.fnOf "results_of" "results_of" (defArgs s_results_of) (defBody s_results_of) (defScope s_results_of) .none kV_results_of dc_results_of pm_results_of an_results_of cd_results_of ct_results_of), sl_results_of⟩)
    (c__results_of : PySem.W.codeIn K cd_results_of "results_of" = true)
    (k__results_of : PySem.W.keepIn K (.ref a_results_of) = true)
    (a__seconds_of : PySem.W.nsIn K mainGlobals "seconds_of" = some (some (.ref a_seconds_of)))
    (l__seconds_of : K.lookup a_seconds_of = some ⟨oc_seconds_of, od_seconds_of, .func (PySem.W.fnOf "seconds_of" "seconds_of" (defArgs s_seconds_of) (defBody s_seconds_of) (defScope s_seconds_of) .none kV_seconds_of dc_seconds_of pm_seconds_of an_seconds_of cd_seconds_of ct_seconds_of), sl_seconds_of⟩)
    (c__seconds_of : PySem.W.codeIn K cd_seconds_of "seconds_of" = true)
    (k__seconds_of : PySem.W.keepIn K (.ref a_seconds_of) = true)
    (a__is_clash : PySem.W.nsIn K mainGlobals "is_clash" = some (some (.ref a_is_clash)))
    (l__is_clash : K.lookup a_is_clash = some ⟨oc_is_clash, od_is_clash, .func (PySem.W.fnOf "is_clash" "is_clash" (defArgs s_is_clash) (defBody s_is_clash) (defScope s_is_clash) .none kV_is_clash dc_is_clash pm_is_clash an_is_clash cd_is_clash ct_is_clash), sl_is_clash⟩)
    (c__is_clash : PySem.W.codeIn K cd_is_clash "is_clash" = true)
    (k__is_clash : PySem.W.keepIn K (.ref a_is_clash) = true)
    (a__clash_of : PySem.W.nsIn K mainGlobals "clash_of" = some (some (.ref a_clash_of)))
    (l__clash_of : K.lookup a_clash_of = some ⟨oc_clash_of, od_clash_of, .func (PySem.W.fnOf "clash_of" "clash_of" (defArgs s_clash_of) (defBody s_clash_of) (defScope s_clash_of) .none kV_clash_of dc_clash_of pm_clash_of an_clash_of cd_clash_of ct_clash_of), sl_clash_of⟩)
    (c__clash_of : PySem.W.codeIn K cd_clash_of "clash_of" = true)
    (k__clash_of : PySem.W.keepIn K (.ref a_clash_of) = true)
    (a__Book___init__ : PySem.W.findIn K (.ref a_Book) "__init__" = some (some (.ref i_Book)))
    (i__Book___init__ : PySem.W.isFn K (.ref i_Book) = true)
    (l__Book___init__ : K.lookup i_Book = some ⟨oc_Book___init__, od_Book___init__, .func (PySem.W.fnOf "__init__" "Book.__init__" (defArgs s_Book___init__) (defBody s_Book___init__) (defScope s_Book___init__) .none kV_Book___init__ dc_Book___init__ pm_Book___init__ an_Book___init__ cd_Book___init__ ct_Book___init__), sl_Book___init__⟩)
    (c__Book___init__ : PySem.W.codeIn K cd_Book___init__ "Book.__init__" = true)
    (k__Book___init__ : PySem.W.keepIn K (.ref i_Book) = true)
    (a__Book_of : PySem.W.findCls K (.ref a_Book) mc_Book "of" = some (PySem.W.CFound.get (.builtin "classmethod.__get__") (.ref p_Book_of) .none (.ref a_Book)))
    (r__Book_of : PySem.W.recIn K p_Book_of "classmethod" = some (.ref m_Book_of :: rest_Book_of))
    (i__Book_of : PySem.W.fnIn K m_Book_of = true)
    (l__Book_of : K.lookup m_Book_of = some ⟨oc_Book_of, od_Book_of, .func (PySem.W.fnOf "of" "Book.of" (defArgs s_Book_of) (defBody s_Book_of) (defScope s_Book_of) .none kV_Book_of dc_Book_of pm_Book_of an_Book_of cd_Book_of ct_Book_of), sl_Book_of⟩)
    (c__Book_of : PySem.W.codeIn K cd_Book_of "Book.of" = true)
    (k__Book_of : PySem.W.keepIn K (.ref m_Book_of) = true)
    (a__Book_is_entry : PySem.W.findIn K (.ref a_Book) "is_entry" = some (some (.ref m_is_entry)))
    (i__Book_is_entry : PySem.W.isFn K (.ref m_is_entry) = true)
    (l__Book_is_entry : K.lookup m_is_entry = some ⟨oc_Book_is_entry, od_Book_is_entry, .func (PySem.W.fnOf "is_entry" "Book.is_entry" (defArgs s_Book_is_entry) (defBody s_Book_is_entry) (defScope s_Book_is_entry) .none kV_Book_is_entry dc_Book_is_entry pm_Book_is_entry an_Book_is_entry cd_Book_is_entry ct_Book_is_entry), sl_Book_is_entry⟩)
    (c__Book_is_entry : PySem.W.codeIn K cd_Book_is_entry "Book.is_entry" = true)
    (k__Book_is_entry : PySem.W.keepIn K (.ref m_is_entry) = true)
    (a__Book_result : PySem.W.findIn K (.ref a_Book) "result" = some (some (.ref m_result)))
    (i__Book_result : PySem.W.isFn K (.ref m_result) = true)
    (l__Book_result : K.lookup m_result = some ⟨oc_Book_result, od_Book_result, .func (PySem.W.fnOf "result" "Book.result" (defArgs s_Book_result) (defBody s_Book_result) (defScope s_Book_result) .none kV_Book_result dc_Book_result pm_Book_result an_Book_result cd_Book_result ct_Book_result), sl_Book_result⟩)
    (c__Book_result : PySem.W.codeIn K cd_Book_result "Book.result" = true)
    (k__Book_result : PySem.W.keepIn K (.ref m_result) = true)
    (a__Book_push : PySem.W.findIn K (.ref a_Book) "push" = some (some (.ref m_push)))
    (i__Book_push : PySem.W.isFn K (.ref m_push) = true)
    (l__Book_push : K.lookup m_push = some ⟨oc_Book_push, od_Book_push, .func (PySem.W.fnOf "push" "Book.push" (defArgs s_Book_push) (defBody s_Book_push) (defScope s_Book_push) .none kV_Book_push dc_Book_push pm_Book_push an_Book_push cd_Book_push ct_Book_push), sl_Book_push⟩)
    (c__Book_push : PySem.W.codeIn K cd_Book_push "Book.push" = true)
    (k__Book_push : PySem.W.keepIn K (.ref m_push) = true)
    (a__Book_net : PySem.W.findIn K (.ref a_Book) "net" = some (some (.ref m_net)))
    (i__Book_net : PySem.W.isFn K (.ref m_net) = true)
    (l__Book_net : K.lookup m_net = some ⟨oc_Book_net, od_Book_net, .func (PySem.W.fnOf "net" "Book.net" (defArgs s_Book_net) (defBody s_Book_net) (defScope s_Book_net) .none kV_Book_net dc_Book_net pm_Book_net an_Book_net cd_Book_net ct_Book_net), sl_Book_net⟩)
    (c__Book_net : PySem.W.codeIn K cd_Book_net "Book.net" = true)
    (k__Book_net : PySem.W.keepIn K (.ref m_net) = true)
    (a__Book_folds : PySem.W.findIn K (.ref a_Book) "folds" = some (some (.ref m_folds)))
    (i__Book_folds : PySem.W.isFn K (.ref m_folds) = true)
    (l__Book_folds : K.lookup m_folds = some ⟨oc_Book_folds, od_Book_folds, .func (PySem.W.fnOf "folds" "Book.folds" (defArgs s_Book_folds) (defBody s_Book_folds) (defScope s_Book_folds) .none kV_Book_folds dc_Book_folds pm_Book_folds an_Book_folds cd_Book_folds ct_Book_folds), sl_Book_folds⟩)
    (c__Book_folds : PySem.W.codeIn K cd_Book_folds "Book.folds" = true)
    (k__Book_folds : PySem.W.keepIn K (.ref m_folds) = true)
    (a__Book_is_net : PySem.W.findIn K (.ref a_Book) "is_net" = some (some (.ref m_is_net)))
    (i__Book_is_net : PySem.W.isFn K (.ref m_is_net) = true)
    (l__Book_is_net : K.lookup m_is_net = some ⟨oc_Book_is_net, od_Book_is_net, .func (PySem.W.fnOf "is_net" "Book.is_net" (defArgs s_Book_is_net) (defBody s_Book_is_net) (defScope s_Book_is_net) .none kV_Book_is_net dc_Book_is_net pm_Book_is_net an_Book_is_net cd_Book_is_net ct_Book_is_net), sl_Book_is_net⟩)
    (c__Book_is_net : PySem.W.codeIn K cd_Book_is_net "Book.is_net" = true)
    (k__Book_is_net : PySem.W.keepIn K (.ref m_is_net) = true)
    (a__Book_folded : PySem.W.findIn K (.ref a_Book) "folded" = some (some (.ref m_folded)))
    (i__Book_folded : PySem.W.isFn K (.ref m_folded) = true)
    (l__Book_folded : K.lookup m_folded = some ⟨oc_Book_folded, od_Book_folded, .func (PySem.W.fnOf "folded" "Book.folded" (defArgs s_Book_folded) (defBody s_Book_folded) (defScope s_Book_folded) .none kV_Book_folded dc_Book_folded pm_Book_folded an_Book_folded cd_Book_folded ct_Book_folded), sl_Book_folded⟩)
    (c__Book_folded : PySem.W.codeIn K cd_Book_folded "Book.folded" = true)
    (k__Book_folded : PySem.W.keepIn K (.ref m_folded) = true)
    (a___law_deck : PySem.W.nsIn K mainGlobals "_law_deck" = some (some (.ref a__law_deck)))
    (l___law_deck : K.lookup a__law_deck = some ⟨oc__law_deck, od__law_deck, .func (PySem.W.fnOf "_law_deck" "_law_deck" (defArgs s__law_deck) (defBody s__law_deck) (defScope s__law_deck) .none kV__law_deck dc__law_deck pm__law_deck an__law_deck cd__law_deck ct__law_deck), sl__law_deck⟩)
    (c___law_deck : PySem.W.codeIn K cd__law_deck "_law_deck" = true)
    (k___law_deck : PySem.W.keepIn K (.ref a__law_deck) = true)
    (a___law_draw : PySem.W.nsIn K mainGlobals "_law_draw" = some (some (.ref a__law_draw)))
    (l___law_draw : K.lookup a__law_draw = some ⟨oc__law_draw, od__law_draw, .func (PySem.W.fnOf "_law_draw" "_law_draw" (defArgs s__law_draw) (defBody s__law_draw) (defScope s__law_draw) .none kV__law_draw dc__law_draw pm__law_draw an__law_draw cd__law_draw ct__law_draw), sl__law_draw⟩)
    (c___law_draw : PySem.W.codeIn K cd__law_draw "_law_draw" = true)
    (k___law_draw : PySem.W.keepIn K (.ref a__law_draw) = true)
    (a___law_pick : PySem.W.nsIn K mainGlobals "_law_pick" = some (some (.ref a__law_pick)))
    (l___law_pick : K.lookup a__law_pick = some ⟨oc__law_pick, od__law_pick, .func (PySem.W.fnOf "_law_pick" "_law_pick" (defArgs s__law_pick) (defBody s__law_pick) (defScope s__law_pick) .none kV__law_pick dc__law_pick pm__law_pick an__law_pick cd__law_pick ct__law_pick), sl__law_pick⟩)
    (c___law_pick : PySem.W.codeIn K cd__law_pick "_law_pick" = true)
    (k___law_pick : PySem.W.keepIn K (.ref a__law_pick) = true)
    (a___law_names : PySem.W.nsIn K mainGlobals "_law_names" = some (some (.ref a__law_names)))
    (l___law_names : K.lookup a__law_names = some ⟨oc__law_names, od__law_names, .func (PySem.W.fnOf "_law_names" "_law_names" (defArgs s__law_names) (defBody s__law_names) (defScope s__law_names) .none kV__law_names dc__law_names pm__law_names an__law_names cd__law_names ct__law_names), sl__law_names⟩)
    (c___law_names : PySem.W.codeIn K cd__law_names "_law_names" = true)
    (k___law_names : PySem.W.keepIn K (.ref a__law_names) = true)
    (a___law_table : PySem.W.nsIn K mainGlobals "_law_table" = some (some (.ref a__law_table)))
    (l___law_table : K.lookup a__law_table = some ⟨oc__law_table, od__law_table, .func (PySem.W.fnOf "_law_table" "_law_table" (defArgs s__law_table) (defBody s__law_table) (defScope s__law_table) .none kV__law_table dc__law_table pm__law_table an__law_table cd__law_table ct__law_table), sl__law_table⟩)
    (c___law_table : PySem.W.codeIn K cd__law_table "_law_table" = true)
    (k___law_table : PySem.W.keepIn K (.ref a__law_table) = true)
    (a___law_spots : PySem.W.nsIn K mainGlobals "_law_spots" = some (some (.ref a__law_spots)))
    (l___law_spots : K.lookup a__law_spots = some ⟨oc__law_spots, od__law_spots, .func (PySem.W.fnOf "_law_spots" "_law_spots" (defArgs s__law_spots) (defBody s__law_spots) (defScope s__law_spots) .none kV__law_spots dc__law_spots pm__law_spots an__law_spots cd__law_spots ct__law_spots), sl__law_spots⟩)
    (c___law_spots : PySem.W.codeIn K cd__law_spots "_law_spots" = true)
    (k___law_spots : PySem.W.keepIn K (.ref a__law_spots) = true)
    (a___law_once : PySem.W.nsIn K mainGlobals "_law_once" = some (some (.ref a__law_once)))
    (l___law_once : K.lookup a__law_once = some ⟨oc__law_once, od__law_once, .func (PySem.W.fnOf "_law_once" "_law_once" (defArgs s__law_once) (defBody s__law_once) (defScope s__law_once) .none kV__law_once dc__law_once pm__law_once an__law_once cd__law_once ct__law_once), sl__law_once⟩)
    (c___law_once : PySem.W.codeIn K cd__law_once "_law_once" = true)
    (k___law_once : PySem.W.keepIn K (.ref a__law_once) = true)
    (a___law_ends : PySem.W.nsIn K mainGlobals "_law_ends" = some (some (.ref a__law_ends)))
    (l___law_ends : K.lookup a__law_ends = some ⟨oc__law_ends, od__law_ends, .func (PySem.W.fnOf "_law_ends" "_law_ends" (defArgs s__law_ends) (defBody s__law_ends) (defScope s__law_ends) .none kV__law_ends dc__law_ends pm__law_ends an__law_ends cd__law_ends ct__law_ends), sl__law_ends⟩)
    (c___law_ends : PySem.W.codeIn K cd__law_ends "_law_ends" = true)
    (k___law_ends : PySem.W.keepIn K (.ref a__law_ends) = true)
    (a___law_clash : PySem.W.nsIn K mainGlobals "_law_clash" = some (some (.ref a__law_clash)))
    (l___law_clash : K.lookup a__law_clash = some ⟨oc__law_clash, od__law_clash, .func (PySem.W.fnOf "_law_clash" "_law_clash" (defArgs s__law_clash) (defBody s__law_clash) (defScope s__law_clash) .none kV__law_clash dc__law_clash pm__law_clash an__law_clash cd__law_clash ct__law_clash), sl__law_clash⟩)
    (c___law_clash : PySem.W.codeIn K cd__law_clash "_law_clash" = true)
    (k___law_clash : PySem.W.keepIn K (.ref a__law_clash) = true)
    (a___law_clear : PySem.W.nsIn K mainGlobals "_law_clear" = some (some (.ref a__law_clear)))
    (l___law_clear : K.lookup a__law_clear = some ⟨oc__law_clear, od__law_clear, .func (PySem.W.fnOf "_law_clear" "_law_clear" (defArgs s__law_clear) (defBody s__law_clear) (defScope s__law_clear) .none kV__law_clear dc__law_clear pm__law_clear an__law_clear cd__law_clear ct__law_clear), sl__law_clear⟩)
    (c___law_clear : PySem.W.codeIn K cd__law_clear "_law_clear" = true)
    (k___law_clear : PySem.W.keepIn K (.ref a__law_clear) = true)
    (a___law_pairs : PySem.W.nsIn K mainGlobals "_law_pairs" = some (some (.ref a__law_pairs)))
    (l___law_pairs : K.lookup a__law_pairs = some ⟨oc__law_pairs, od__law_pairs, .func (PySem.W.fnOf "_law_pairs" "_law_pairs" (defArgs s__law_pairs) (defBody s__law_pairs) (defScope s__law_pairs) .none kV__law_pairs dc__law_pairs pm__law_pairs an__law_pairs cd__law_pairs ct__law_pairs), sl__law_pairs⟩)
    (c___law_pairs : PySem.W.codeIn K cd__law_pairs "_law_pairs" = true)
    (k___law_pairs : PySem.W.keepIn K (.ref a__law_pairs) = true)
    (a___law_rules : PySem.W.nsIn K mainGlobals "_law_rules" = some (some (.ref a__law_rules)))
    (l___law_rules : K.lookup a__law_rules = some ⟨oc__law_rules, od__law_rules, .func (PySem.W.fnOf "_law_rules" "_law_rules" (defArgs s__law_rules) (defBody s__law_rules) (defScope s__law_rules) .none kV__law_rules dc__law_rules pm__law_rules an__law_rules cd__law_rules ct__law_rules), sl__law_rules⟩)
    (c___law_rules : PySem.W.codeIn K cd__law_rules "_law_rules" = true)
    (k___law_rules : PySem.W.keepIn K (.ref a__law_rules) = true)
    (a___law_net : PySem.W.nsIn K mainGlobals "_law_net" = some (some (.ref a__law_net)))
    (l___law_net : K.lookup a__law_net = some ⟨oc__law_net, od__law_net, .func (PySem.W.fnOf "_law_net" "_law_net" (defArgs s__law_net) (defBody s__law_net) (defScope s__law_net) .none kV__law_net dc__law_net pm__law_net an__law_net cd__law_net ct__law_net), sl__law_net⟩)
    (c___law_net : PySem.W.codeIn K cd__law_net "_law_net" = true)
    (k___law_net : PySem.W.keepIn K (.ref a__law_net) = true)
    (a___law_row : PySem.W.nsIn K mainGlobals "_law_row" = some (some (.ref a__law_row)))
    (l___law_row : K.lookup a__law_row = some ⟨oc__law_row, od__law_row, .func (PySem.W.fnOf "_law_row" "_law_row" (defArgs s__law_row) (defBody s__law_row) (defScope s__law_row) .none kV__law_row dc__law_row pm__law_row an__law_row cd__law_row ct__law_row), sl__law_row⟩)
    (c___law_row : PySem.W.codeIn K cd__law_row "_law_row" = true)
    (k___law_row : PySem.W.keepIn K (.ref a__law_row) = true)
    (a___law_folded : PySem.W.nsIn K mainGlobals "_law_folded" = some (some (.ref a__law_folded)))
    (l___law_folded : K.lookup a__law_folded = some ⟨oc__law_folded, od__law_folded, .func (PySem.W.fnOf "_law_folded" "_law_folded" (defArgs s__law_folded) (defBody s__law_folded) (defScope s__law_folded) .none kV__law_folded dc__law_folded pm__law_folded an__law_folded cd__law_folded ct__law_folded), sl__law_folded⟩)
    (c___law_folded : PySem.W.codeIn K cd__law_folded "_law_folded" = true)
    (k___law_folded : PySem.W.keepIn K (.ref a__law_folded) = true)
    (a___law_folds_right : PySem.W.nsIn K mainGlobals "_law_folds_right" = some (some (.ref a__law_folds_right)))
    (l___law_folds_right : K.lookup a__law_folds_right = some ⟨oc__law_folds_right, od__law_folds_right, .func (PySem.W.fnOf "_law_folds_right" "_law_folds_right" (defArgs s__law_folds_right) (defBody s__law_folds_right) (defScope s__law_folds_right) .none kV__law_folds_right dc__law_folds_right pm__law_folds_right an__law_folds_right cd__law_folds_right ct__law_folds_right), sl__law_folds_right⟩)
    (c___law_folds_right : PySem.W.codeIn K cd__law_folds_right "_law_folds_right" = true)
    (k___law_folds_right : PySem.W.keepIn K (.ref a__law_folds_right) = true)
    (a___law_net_right : PySem.W.nsIn K mainGlobals "_law_net_right" = some (some (.ref a__law_net_right)))
    (l___law_net_right : K.lookup a__law_net_right = some ⟨oc__law_net_right, od__law_net_right, .func (PySem.W.fnOf "_law_net_right" "_law_net_right" (defArgs s__law_net_right) (defBody s__law_net_right) (defScope s__law_net_right) .none kV__law_net_right dc__law_net_right pm__law_net_right an__law_net_right cd__law_net_right ct__law_net_right), sl__law_net_right⟩)
    (c___law_net_right : PySem.W.codeIn K cd__law_net_right "_law_net_right" = true)
    (k___law_net_right : PySem.W.keepIn K (.ref a__law_net_right) = true)
    (a___law_odd : PySem.W.nsIn K mainGlobals "_law_odd" = some (some (.ref a__law_odd)))
    (l___law_odd : K.lookup a__law_odd = some ⟨oc__law_odd, od__law_odd, .func (PySem.W.fnOf "_law_odd" "_law_odd" (defArgs s__law_odd) (defBody s__law_odd) (defScope s__law_odd) .none kV__law_odd dc__law_odd pm__law_odd an__law_odd cd__law_odd ct__law_odd), sl__law_odd⟩)
    (c___law_odd : PySem.W.codeIn K cd__law_odd "_law_odd" = true)
    (k___law_odd : PySem.W.keepIn K (.ref a__law_odd) = true)
    (a___law_is_net : PySem.W.nsIn K mainGlobals "_law_is_net" = some (some (.ref a__law_is_net)))
    (l___law_is_net : K.lookup a__law_is_net = some ⟨oc__law_is_net, od__law_is_net, .func (PySem.W.fnOf "_law_is_net" "_law_is_net" (defArgs s__law_is_net) (defBody s__law_is_net) (defScope s__law_is_net) .none kV__law_is_net dc__law_is_net pm__law_is_net an__law_is_net cd__law_is_net ct__law_is_net), sl__law_is_net⟩)
    (c___law_is_net : PySem.W.codeIn K cd__law_is_net "_law_is_net" = true)
    (k___law_is_net : PySem.W.keepIn K (.ref a__law_is_net) = true)
    (a__law : PySem.W.nsIn K mainGlobals "law" = some (some (.ref a_law)))
    (l__law : K.lookup a_law = some ⟨oc_law, od_law, .func (PySem.W.fnOf "law" "law" (defArgs s_law) (defBody s_law) (defScope s_law) .none kV_law dc_law pm_law an_law cd_law ct_law), sl_law⟩)
    (c__law : PySem.W.codeIn K cd_law "law" = true)
    (k__law : PySem.W.keepIn K (.ref a_law) = true)
    (mk_Book : PySem.W.makesIn K a_Book = true)
    (kc_Book : PySem.W.keepIn K (.ref a_Book) = true)
    (za_NoFold : PySem.W.nsIn K mainGlobals "NoFold" = some (some (.ref e_NoFold)))
    (ec_NoFold : K.lookup e_NoFold = some (excClassObj nm_NoFold q_NoFold e_NoFold N_NoFold bs_NoFold (.ref b2_NoFold :: ESX.exTail) true sn_NoFold sub_NoFold ab_NoFold col_NoFold dd_NoFold k0_NoFold k1_NoFold k2_NoFold k3_NoFold k5_NoFold "Exception.__new__"))
    (es_NoFold : PySem.W.findIn K (.ref e_NoFold) "__setattr__" = some (some (.builtin "object.__setattr__")))
    (eg_NoFold : PySem.W.findIn K (.ref e_NoFold) "__getattribute__" = some (some (.builtin "BaseException.__getattribute__")))
    (eh_NoFold : PySem.W.findIn K (.ref e_NoFold) "__getattr__" = some none)
    (en_NoFold : PySem.W.findIn K (.ref e_NoFold) "index" = some none)
    (ei_NoFold : PySem.W.findIn K (.ref e_NoFold) "__init__" = some (some (.ref i_NoFold)))
    (et_NoFold : PySem.W.typeIn K (.ref i_NoFold) = some (.type "function"))
    (ek_NoFold : PySem.W.keepIn K (.ref e_NoFold) = true)
    (ex_NoFold : PySem.W.subIn K (.ref e_NoFold) (.type "BaseException") = some true)
    (ey_NoFold : PySem.W.typeIn K (.ref e_NoFold) = some (.type "type"))
    (ed_NoFold : PySem.W.hasDictIn K e_NoFold = true)
    (ef_NoFold : PySem.W.subIn K (.ref e_NoFold) (.ref e_NoFold) = some true)
    (el_NoFold : K.lookup i_NoFold = some ⟨oc_eNoFold, od_eNoFold, .func (PySem.W.fnOf "__init__" "NoFold.__init__" (defArgs s_NoFold) (defBody s_NoFold) (defScope s_NoFold) .none kV_eNoFold dc_eNoFold pm_eNoFold an_eNoFold cd_eNoFold ct_eNoFold), sl_eNoFold⟩)
    (eo_NoFold : PySem.W.codeIn K cd_eNoFold "NoFold.__init__" = true)
    (low : PySem.W.typeIn K (.ref 1) = some (.type "dict"))
    (z_len : PySem.W.nsIn K mainGlobals "len" = some none)
    (z_range : PySem.W.nsIn K mainGlobals "range" = some none)
    (z_int : PySem.W.nsIn K mainGlobals "int" = some none)
    (z_list : PySem.W.nsIn K mainGlobals "list" = some none)
    (z_tuple : PySem.W.nsIn K mainGlobals "tuple" = some none)
    (z_sorted : PySem.W.nsIn K mainGlobals "sorted" = some none)
    (z_str : PySem.W.nsIn K mainGlobals "str" = some none)
    (z_dict : PySem.W.nsIn K mainGlobals "dict" = some none)
    (z_repr : PySem.W.nsIn K mainGlobals "repr" = some none)
    (z_isinstance : PySem.W.nsIn K mainGlobals "isinstance" = some none)
    (z_bool : PySem.W.nsIn K mainGlobals "bool" = some none)
    (z_all : PySem.W.nsIn K mainGlobals "all" = some none)
    (z_any : PySem.W.nsIn K mainGlobals "any" = some none)
    (z_max : PySem.W.nsIn K mainGlobals "max" = some none)
    (z_min : PySem.W.nsIn K mainGlobals "min" = some none)
    (z_set : PySem.W.nsIn K mainGlobals "set" = some none) :
    ∃ Fn, (∀ base : Heap, K.In base → base.Ns mainGlobals mg → FnD l.prog w K mg base 7 fa [] Fn) ∧ ∀ (ns : List Int) (h : Hh), ns.length ≤ 63 → Ok (Fn [.frz (ns.map D.int)] h) fun d _ => d = .bl true := by
  have e := hfa.symm.trans (PySem.W.mg_of X G a__law)
  cases e
  have T : Txt mg := ⟨PySem.W.mg_none_of X G z_len, PySem.W.mg_none_of X G z_range, PySem.W.mg_none_of X G z_int, PySem.W.mg_none_of X G z_list, PySem.W.mg_none_of X G z_tuple, PySem.W.mg_none_of X G z_sorted, PySem.W.mg_none_of X G z_str, PySem.W.mg_none_of X G z_dict, PySem.W.mg_none_of X G z_repr, PySem.W.mg_none_of X G z_isinstance, PySem.W.mg_none_of X G z_bool, PySem.W.mg_none_of X G z_all, PySem.W.mg_none_of X G z_any, PySem.W.mg_none_of X G z_max, PySem.W.mg_none_of X G z_min, PySem.W.mg_none_of X G z_set⟩
  have M_LETTERS := PySem.W.mg_of X G m_LETTERS
  have Z_Book : Zc K mg "Book" a_Book := ⟨PySem.W.mg_of X G zc_Book, ⟨pg_Book, hd_Book, po_Book, sa_Book⟩⟩
  have NA__results : NoAttr K a_Book "_results" := nBook__results
  have NA__known : NoAttr K a_Book "_known" := nBook__known
  have NA__rules : NoAttr K a_Book "_rules" := nBook__rules
  have NA__entries : NoAttr K a_Book "_entries" := nBook__entries
  have E_NoFold : Ers K mg "NoFold" "index" "NoFold.__init__" s_NoFold e_NoFold i_NoFold := ⟨⟨⟨_, _, _, _, _, _, _, _, _, _, _, _, _, _, _, ec_NoFold⟩, es_NoFold, eg_NoFold, eh_NoFold, en_NoFold, ei_NoFold, et_NoFold, ek_NoFold, ex_NoFold, ey_NoFold, ed_NoFold, ⟨_, _, _, _, _, _, _, _, _, el_NoFold, eo_NoFold⟩⟩, keeps_NoFold, PySem.W.mg_of X G za_NoFold, exm_self ex_NoFold ey_NoFold ec_NoFold ef_NoFold⟩
  have L : Low K := low
  have FF_is_integer := fun_mk (st := s_is_integer) l__is_integer c__is_integer k__is_integer
  have B_is_integer := FF_is_integer.binds (ps := ["thing"]) fun _ _ _ _ _ _ us hl => match us, hl with | [_], _ => rfl
  have FF_is_ascending := fun_mk (st := s_is_ascending) l__is_ascending c__is_ascending k__is_ascending
  have B_is_ascending := FF_is_ascending.binds (ps := ["things"]) fun _ _ _ _ _ _ us hl => match us, hl with | [_], _ => rfl
  have FF_is_name := fun_mk (st := s_is_name) l__is_name c__is_name k__is_name
  have B_is_name := FF_is_name.binds (ps := ["thing"]) fun _ _ _ _ _ _ us hl => match us, hl with | [_], _ => rfl
  have FF_are_entries := fun_mk (st := s_are_entries) l__are_entries c__are_entries k__are_entries
  have B_are_entries := FF_are_entries.binds (ps := ["thing"]) fun _ _ _ _ _ _ us hl => match us, hl with | [_], _ => rfl
  have FF_known_of := fun_mk (st := s_known_of) l__known_of c__known_of k__known_of
  have B_known_of := FF_known_of.binds (ps := ["names"]) fun _ _ _ _ _ _ us hl => match us, hl with | [_], _ => rfl
  have FF_is_known := fun_mk (st := s_is_known) l__is_known c__is_known k__is_known
  have B_is_known := FF_is_known.binds (ps := ["thing", "known"]) fun _ _ _ _ _ _ us hl => match us, hl with | [_, _], _ => rfl
  have FF_is_rule := fun_mk (st := s_is_rule) l__is_rule c__is_rule k__is_rule
  have B_is_rule := FF_is_rule.binds (ps := ["thing", "known"]) fun _ _ _ _ _ _ us hl => match us, hl with | [_, _], _ => rfl
  have FF_check_rules := fun_mk (st := s_check_rules) l__check_rules c__check_rules k__check_rules
  have B_check_rules := FF_check_rules.binds (ps := ["rules", "known"]) fun _ _ _ _ _ _ us hl => match us, hl with | [_, _], _ => rfl
  have FF_results_of := fun_mk (st := s_results_of) l__results_of c__results_of k__results_of
  have B_results_of := FF_results_of.binds (ps := ["rules"]) fun _ _ _ _ _ _ us hl => match us, hl with | [_], _ => rfl
  have FF_seconds_of := fun_mk (st := s_seconds_of) l__seconds_of c__seconds_of k__seconds_of
  have B_seconds_of := FF_seconds_of.binds (ps := ["rules"]) fun _ _ _ _ _ _ us hl => match us, hl with | [_], _ => rfl
  have FF_is_clash := fun_mk (st := s_is_clash) l__is_clash c__is_clash k__is_clash
  have B_is_clash := FF_is_clash.binds (ps := ["x", "y", "z", "results"]) fun _ _ _ _ _ _ us hl => match us, hl with | [_, _, _, _], _ => rfl
  have FF_clash_of := fun_mk (st := s_clash_of) l__clash_of c__clash_of k__clash_of
  have B_clash_of : ∀ us rest : List Value, us.length = 1 → bindArgs (PySem.W.fnOf "clash_of" "clash_of" (defArgs s_clash_of) (defBody s_clash_of) (defScope s_clash_of) .none kV_clash_of dc_clash_of pm_clash_of an_clash_of cd_clash_of ct_clash_of) ⟨us ++ rest, []⟩ = (newTuple rest >>= fun t => pure ((["entries"] : List Str).zip us ++ [(("rules" : Str), t)])) := fun us rest hl => match us, rest, hl with | [_], [], _ => rfl | [_], _ :: _, _ => rfl
  have FF_Book___init__ := fun_mk (st := s_Book___init__) l__Book___init__ c__Book___init__ k__Book___init__
  have B_Book___init__ : ∀ us rest : List Value, us.length = 2 → bindArgs (PySem.W.fnOf "__init__" "Book.__init__" (defArgs s_Book___init__) (defBody s_Book___init__) (defScope s_Book___init__) .none kV_Book___init__ dc_Book___init__ pm_Book___init__ an_Book___init__ cd_Book___init__ ct_Book___init__) ⟨us ++ rest, []⟩ = (newTuple rest >>= fun t => pure ((["self", "entries"] : List Str).zip us ++ [(("rules" : Str), t)])) := fun us rest hl => match us, rest, hl with | [_, _], [], _ => rfl | [_, _], _ :: _, _ => rfl
  have FF_Book_of := fun_mk (st := s_Book_of) l__Book_of c__Book_of k__Book_of
  have B_Book_of := FF_Book_of.binds (ps := ["cls", "entries", "rules"]) fun _ _ _ _ _ _ us hl => match us, hl with | [_, _, _], _ => rfl
  have FF_Book_is_entry := fun_mk (st := s_Book_is_entry) l__Book_is_entry c__Book_is_entry k__Book_is_entry
  have B_Book_is_entry := FF_Book_is_entry.binds (ps := ["self", "thing"]) fun _ _ _ _ _ _ us hl => match us, hl with | [_, _], _ => rfl
  have FF_Book_result := fun_mk (st := s_Book_result) l__Book_result c__Book_result k__Book_result
  have B_Book_result := FF_Book_result.binds (ps := ["self", "x", "y"]) fun _ _ _ _ _ _ us hl => match us, hl with | [_, _, _], _ => rfl
  have B_Book_result_y_x : KwB K _ ["self", "x", "y"] ["y", "x"] sw3 := kwb2 FF_Book_result fun _ _ _ _ _ _ _ _ _ => rfl
  have FF_Book_push := fun_mk (st := s_Book_push) l__Book_push c__Book_push k__Book_push
  have B_Book_push := FF_Book_push.binds (ps := ["self", "kept", "entry"]) fun _ _ _ _ _ _ us hl => match us, hl with | [_, _, _], _ => rfl
  have FF_Book_net := fun_mk (st := s_Book_net) l__Book_net c__Book_net k__Book_net
  have B_Book_net := FF_Book_net.binds (ps := ["self", "row"]) fun _ _ _ _ _ _ us hl => match us, hl with | [_, _], _ => rfl
  have B_Book_net_row : KwB K _ ["self", "row"] ["row"] id := kwb1 FF_Book_net fun _ _ _ _ _ _ _ _ => rfl
  have FF_Book_folds := fun_mk (st := s_Book_folds) l__Book_folds c__Book_folds k__Book_folds
  have B_Book_folds := FF_Book_folds.binds (ps := ["self", "row"]) fun _ _ _ _ _ _ us hl => match us, hl with | [_, _], _ => rfl
  have B_Book_folds_row : KwB K _ ["self", "row"] ["row"] id := kwb1 FF_Book_folds fun _ _ _ _ _ _ _ _ => rfl
  have FF_Book_is_net := fun_mk (st := s_Book_is_net) l__Book_is_net c__Book_is_net k__Book_is_net
  have B_Book_is_net := FF_Book_is_net.binds (ps := ["self", "thing"]) fun _ _ _ _ _ _ us hl => match us, hl with | [_, _], _ => rfl
  have B_Book_is_net_thing : KwB K _ ["self", "thing"] ["thing"] id := kwb1 FF_Book_is_net fun _ _ _ _ _ _ _ _ => rfl
  have FF_Book_folded := fun_mk (st := s_Book_folded) l__Book_folded c__Book_folded k__Book_folded
  have B_Book_folded := FF_Book_folded.binds (ps := ["self", "row", "index"]) fun _ _ _ _ _ _ us hl => match us, hl with | [_, _, _], _ => rfl
  have B_Book_folded_index_row : KwB K _ ["self", "row", "index"] ["index", "row"] sw3 := kwb2 FF_Book_folded fun _ _ _ _ _ _ _ _ _ => rfl
  have FF__law_deck := fun_mk (st := s__law_deck) l___law_deck c___law_deck k___law_deck
  have B__law_deck := FF__law_deck.binds (ps := ["_law_script"]) fun _ _ _ _ _ _ us hl => match us, hl with | [_], _ => rfl
  have FF__law_draw := fun_mk (st := s__law_draw) l___law_draw c___law_draw k___law_draw
  have B__law_draw := FF__law_draw.binds (ps := ["_law_deck_here", "_law_many"]) fun _ _ _ _ _ _ us hl => match us, hl with | [_, _], _ => rfl
  have FF__law_pick := fun_mk (st := s__law_pick) l___law_pick c___law_pick k___law_pick
  have B__law_pick := FF__law_pick.binds (ps := ["_law_deck_here", "_law_some"]) fun _ _ _ _ _ _ us hl => match us, hl with | [_, _], _ => rfl
  have FF__law_names := fun_mk (st := s__law_names) l___law_names c___law_names k___law_names
  have B__law_names := FF__law_names.binds (ps := ["_law_deck_here", "_law_many"]) fun _ _ _ _ _ _ us hl => match us, hl with | [_, _], _ => rfl
  have FF__law_table := fun_mk (st := s__law_table) l___law_table c___law_table k___law_table
  have B__law_table := FF__law_table.binds (ps := ["_law_deck_here", "_law_names_here", "_law_part"]) fun _ _ _ _ _ _ us hl => match us, hl with | [_, _, _], _ => rfl
  have FF__law_spots := fun_mk (st := s__law_spots) l___law_spots c___law_spots k___law_spots
  have B__law_spots := FF__law_spots.binds (ps := ["_law_table_here", "_law_lot"]) fun _ _ _ _ _ _ us hl => match us, hl with | [_, _], _ => rfl
  have FF__law_once := fun_mk (st := s__law_once) l___law_once c___law_once k___law_once
  have B__law_once := FF__law_once.binds (ps := ["_law_table_here", "_law_lot", "_law_k"]) fun _ _ _ _ _ _ us hl => match us, hl with | [_, _, _], _ => rfl
  have FF__law_ends := fun_mk (st := s__law_ends) l___law_ends c___law_ends k___law_ends
  have B__law_ends := FF__law_ends.binds (ps := ["_law_table_here", "_law_lot"]) fun _ _ _ _ _ _ us hl => match us, hl with | [_, _], _ => rfl
  have FF__law_clash := fun_mk (st := s__law_clash) l___law_clash c___law_clash k___law_clash
  have B__law_clash := FF__law_clash.binds (ps := ["_law_names_here", "_law_table_here"]) fun _ _ _ _ _ _ us hl => match us, hl with | [_, _], _ => rfl
  have FF__law_clear := fun_mk (st := s__law_clear) l___law_clear c___law_clear k___law_clear
  have B__law_clear := FF__law_clear.binds (ps := ["_law_deck_here", "_law_names_here", "_law_part"]) fun _ _ _ _ _ _ us hl => match us, hl with | [_, _, _], _ => rfl
  have FF__law_pairs := fun_mk (st := s__law_pairs) l___law_pairs c___law_pairs k___law_pairs
  have B__law_pairs := FF__law_pairs.binds (ps := ["_law_names_here"]) fun _ _ _ _ _ _ us hl => match us, hl with | [_], _ => rfl
  have FF__law_rules := fun_mk (st := s__law_rules) l___law_rules c___law_rules k___law_rules
  have B__law_rules := FF__law_rules.binds (ps := ["_law_names_here", "_law_table_here"]) fun _ _ _ _ _ _ us hl => match us, hl with | [_, _], _ => rfl
  have FF__law_net := fun_mk (st := s__law_net) l___law_net c___law_net k___law_net
  have B__law_net := FF__law_net.binds (ps := ["_law_table_here", "_law_lot"]) fun _ _ _ _ _ _ us hl => match us, hl with | [_, _], _ => rfl
  have FF__law_row := fun_mk (st := s__law_row) l___law_row c___law_row k___law_row
  have B__law_row := FF__law_row.binds (ps := ["_law_deck_here", "_law_names_here", "_law_table_here", "_law_many"]) fun _ _ _ _ _ _ us hl => match us, hl with | [_, _, _, _], _ => rfl
  have FF__law_folded := fun_mk (st := s__law_folded) l___law_folded c___law_folded k___law_folded
  have B__law_folded := FF__law_folded.binds (ps := ["_law_book", "_law_lot", "_law_at", "_law_way"]) fun _ _ _ _ _ _ us hl => match us, hl with | [_, _, _, _], _ => rfl
  have FF__law_folds_right := fun_mk (st := s__law_folds_right) l___law_folds_right c___law_folds_right k___law_folds_right
  have B__law_folds_right := FF__law_folds_right.binds (ps := ["_law_deck_here", "_law_book", "_law_table_here", "_law_lot"]) fun _ _ _ _ _ _ us hl => match us, hl with | [_, _, _, _], _ => rfl
  have FF__law_net_right := fun_mk (st := s__law_net_right) l___law_net_right c___law_net_right k___law_net_right
  have B__law_net_right := FF__law_net_right.binds (ps := ["_law_deck_here", "_law_book", "_law_table_here", "_law_lot"]) fun _ _ _ _ _ _ us hl => match us, hl with | [_, _, _, _], _ => rfl
  have FF__law_odd := fun_mk (st := s__law_odd) l___law_odd c___law_odd k___law_odd
  have B__law_odd := FF__law_odd.binds (ps := ["_law_deck_here", "_law_names_here", "_law_lot"]) fun _ _ _ _ _ _ us hl => match us, hl with | [_, _, _], _ => rfl
  have FF__law_is_net := fun_mk (st := s__law_is_net) l___law_is_net c___law_is_net k___law_is_net
  have B__law_is_net := FF__law_is_net.binds (ps := ["_law_names_here", "_law_table_here", "_law_it"]) fun _ _ _ _ _ _ us hl => match us, hl with | [_, _, _], _ => rfl
  have FF_law := fun_mk (st := s_law) l__law c__law k__law
  have B_law := FF_law.binds (ps := ["_law_script"]) fun _ _ _ _ _ _ us hl => match us, hl with | [_], _ => rfl
  refine ⟨F_law a_Book, fun base _ _ => ?_, fun ns h hl => law_ok rfl (fun _ => by simp) hl⟩
  have C_is_integer : Dfn l.prog w K mg base 1 "is_integer" a_is_integer F_is_integer := ⟨d_is_integer (P := l.prog) (w := w) (base := base) T FF_is_integer B_is_integer, PySem.W.mg_of X G a__is_integer, k__is_integer⟩
  have C_is_ascending : Dfn l.prog w K mg base 1 "is_ascending" a_is_ascending F_is_ascending := ⟨d_is_ascending (P := l.prog) (w := w) (base := base) T FF_is_ascending B_is_ascending, PySem.W.mg_of X G a__is_ascending, k__is_ascending⟩
  have C_is_name : Dfn l.prog w K mg base 1 "is_name" a_is_name F_is_name := ⟨d_is_name (P := l.prog) (w := w) (base := base) T M_LETTERS FF_is_name B_is_name, PySem.W.mg_of X G a__is_name, k__is_name⟩
  have C_are_entries : Dfn l.prog w K mg base 2 "are_entries" a_are_entries F_are_entries := ⟨d_are_entries (P := l.prog) (w := w) (base := base) T C_is_ascending C_is_name FF_are_entries B_are_entries, PySem.W.mg_of X G a__are_entries, k__are_entries⟩
  have C_known_of : Dfn l.prog w K mg base 1 "known_of" a_known_of F_known_of := ⟨d_known_of (P := l.prog) (w := w) (base := base) T FF_known_of B_known_of, PySem.W.mg_of X G a__known_of, k__known_of⟩
  have C_is_known : Dfn l.prog w K mg base 1 "is_known" a_is_known F_is_known := ⟨d_is_known (P := l.prog) (w := w) (base := base) T FF_is_known B_is_known, PySem.W.mg_of X G a__is_known, k__is_known⟩
  have C_is_rule : Dfn l.prog w K mg base 2 "is_rule" a_is_rule F_is_rule := ⟨d_is_rule (P := l.prog) (w := w) (base := base) T C_is_known FF_is_rule B_is_rule, PySem.W.mg_of X G a__is_rule, k__is_rule⟩
  have C_check_rules : Dfn l.prog w K mg base 3 "check_rules" a_check_rules F_check_rules := ⟨d_check_rules (P := l.prog) (w := w) (base := base) T C_is_rule FF_check_rules B_check_rules, PySem.W.mg_of X G a__check_rules, k__check_rules⟩
  have C_results_of : Dfn l.prog w K mg base 1 "results_of" a_results_of F_results_of := ⟨d_results_of (P := l.prog) (w := w) (base := base) T FF_results_of B_results_of, PySem.W.mg_of X G a__results_of, k__results_of⟩
  have C_seconds_of : Dfn l.prog w K mg base 1 "seconds_of" a_seconds_of F_seconds_of := ⟨d_seconds_of (P := l.prog) (w := w) (base := base) T FF_seconds_of B_seconds_of, PySem.W.mg_of X G a__seconds_of, k__seconds_of⟩
  have C_is_clash : Dfn l.prog w K mg base 1 "is_clash" a_is_clash F_is_clash := ⟨d_is_clash (P := l.prog) (w := w) (base := base) T FF_is_clash B_is_clash, PySem.W.mg_of X G a__is_clash, k__is_clash⟩
  have C_clash_of : Dfn l.prog w K mg base 2 "clash_of" a_clash_of F_clash_of := ⟨d_clash_of (P := l.prog) (w := w) (base := base) T C_is_clash C_seconds_of C_results_of FF_clash_of B_clash_of, PySem.W.mg_of X G a__clash_of, k__clash_of⟩
  have C_Book___init__ := d_Book___init__ (P := l.prog) (w := w) (base := base) T Z_Book NA__results NA__known NA__rules NA__entries C_results_of C_clash_of C_check_rules C_known_of C_are_entries FF_Book___init__ B_Book___init__
  have K_Book : Mk K a_Book i_Book := ⟨mk_Book, a__Book___init__, i__Book___init__, kc_Book⟩
  have CM_Book_of : Cmt l.prog w K mg base 6 a_Book mc_Book "of" p_Book_of m_Book_of ((F_Book_of a_Book)) := ⟨⟨rd_Book, ga_Book⟩, ⟨a__Book_of, ⟨_, r__Book_of⟩, i__Book_of⟩, d_Book_of (P := l.prog) (w := w) (base := base) T Z_Book K_Book C_Book___init__ C_are_entries FF_Book_of B_Book_of⟩
  have C_Book_is_entry : Mth l.prog w K mg base 2 a_Book "is_entry" m_is_entry [] F_Book_is_entry := ⟨⟨a__Book_is_entry, i__Book_is_entry, k__Book_is_entry⟩, d_Book_is_entry (P := l.prog) (w := w) (base := base) T Z_Book NA__known C_is_known FF_Book_is_entry B_Book_is_entry⟩
  have C_Book_result : Mth l.prog w K mg base 1 a_Book "result" m_result [] F_Book_result := ⟨⟨a__Book_result, i__Book_result, k__Book_result⟩, d_Book_result (P := l.prog) (w := w) (base := base) T Z_Book NA__results FF_Book_result B_Book_result⟩
  have C_Book_result_y_x : Mth l.prog w K mg base 1 a_Book "result" m_result ["y", "x"] (F_Book_result_y_x) := ⟨⟨a__Book_result, i__Book_result, k__Book_result⟩, d_Book_result_y_x (P := l.prog) (w := w) (base := base) T Z_Book NA__results FF_Book_result B_Book_result_y_x⟩
  have C_Book_push : Mth l.prog w K mg base 2 a_Book "push" m_push [] F_Book_push := ⟨⟨a__Book_push, i__Book_push, k__Book_push⟩, d_Book_push (P := l.prog) (w := w) (base := base) T Z_Book C_Book_result FF_Book_push B_Book_push⟩
  have C_Book_net : Mth l.prog w K mg base 3 a_Book "net" m_net [] F_Book_net := ⟨⟨a__Book_net, i__Book_net, k__Book_net⟩, d_Book_net (P := l.prog) (w := w) (base := base) T Z_Book C_Book_push FF_Book_net B_Book_net⟩
  have C_Book_net_row : Mth l.prog w K mg base 3 a_Book "net" m_net ["row"] (F_Book_net_row) := ⟨⟨a__Book_net, i__Book_net, k__Book_net⟩, d_Book_net_row (P := l.prog) (w := w) (base := base) T Z_Book C_Book_push FF_Book_net B_Book_net_row⟩
  have C_Book_folds : Mth l.prog w K mg base 1 a_Book "folds" m_folds [] F_Book_folds := ⟨⟨a__Book_folds, i__Book_folds, k__Book_folds⟩, d_Book_folds (P := l.prog) (w := w) (base := base) T Z_Book NA__results FF_Book_folds B_Book_folds⟩
  have C_Book_folds_row : Mth l.prog w K mg base 1 a_Book "folds" m_folds ["row"] (F_Book_folds_row) := ⟨⟨a__Book_folds, i__Book_folds, k__Book_folds⟩, d_Book_folds_row (P := l.prog) (w := w) (base := base) T Z_Book NA__results FF_Book_folds B_Book_folds_row⟩
  have C_Book_is_net : Mth l.prog w K mg base 3 a_Book "is_net" m_is_net [] F_Book_is_net := ⟨⟨a__Book_is_net, i__Book_is_net, k__Book_is_net⟩, d_Book_is_net (P := l.prog) (w := w) (base := base) T Z_Book C_Book_folds C_Book_is_entry FF_Book_is_net B_Book_is_net⟩
  have C_Book_is_net_thing : Mth l.prog w K mg base 3 a_Book "is_net" m_is_net ["thing"] (F_Book_is_net_thing) := ⟨⟨a__Book_is_net, i__Book_is_net, k__Book_is_net⟩, d_Book_is_net_thing (P := l.prog) (w := w) (base := base) T Z_Book C_Book_folds C_Book_is_entry FF_Book_is_net B_Book_is_net_thing⟩
  have C_Book_folded : Mth l.prog w K mg base 2 a_Book "folded" m_folded [] F_Book_folded := ⟨⟨a__Book_folded, i__Book_folded, k__Book_folded⟩, d_Book_folded (P := l.prog) (w := w) (base := base) T Z_Book E_NoFold C_Book_result C_Book_folds C_is_integer FF_Book_folded B_Book_folded⟩
  have C_Book_folded_index_row : Mth l.prog w K mg base 2 a_Book "folded" m_folded ["index", "row"] (F_Book_folded_index_row) := ⟨⟨a__Book_folded, i__Book_folded, k__Book_folded⟩, d_Book_folded_index_row (P := l.prog) (w := w) (base := base) T Z_Book E_NoFold C_Book_result C_Book_folds C_is_integer FF_Book_folded B_Book_folded_index_row⟩
  have C__law_deck : Dfn l.prog w K mg base 1 "_law_deck" a__law_deck F__law_deck := ⟨d__law_deck (P := l.prog) (w := w) (base := base) T FF__law_deck B__law_deck, PySem.W.mg_of X G a___law_deck, k___law_deck⟩
  have C__law_draw : Dfn l.prog w K mg base 1 "_law_draw" a__law_draw F__law_draw := ⟨d__law_draw (P := l.prog) (w := w) (base := base) T FF__law_draw B__law_draw, PySem.W.mg_of X G a___law_draw, k___law_draw⟩
  have C__law_pick : Dfn l.prog w K mg base 2 "_law_pick" a__law_pick F__law_pick := ⟨d__law_pick (P := l.prog) (w := w) (base := base) T C__law_draw FF__law_pick B__law_pick, PySem.W.mg_of X G a___law_pick, k___law_pick⟩
  have C__law_names : Dfn l.prog w K mg base 2 "_law_names" a__law_names F__law_names := ⟨d__law_names (P := l.prog) (w := w) (base := base) T C__law_draw FF__law_names B__law_names, PySem.W.mg_of X G a___law_names, k___law_names⟩
  have C__law_table : Dfn l.prog w K mg base 3 "_law_table" a__law_table F__law_table := ⟨d__law_table (P := l.prog) (w := w) (base := base) T C__law_draw C__law_pick FF__law_table B__law_table, PySem.W.mg_of X G a___law_table, k___law_table⟩
  have C__law_spots : Dfn l.prog w K mg base 1 "_law_spots" a__law_spots F__law_spots := ⟨d__law_spots (P := l.prog) (w := w) (base := base) T FF__law_spots B__law_spots, PySem.W.mg_of X G a___law_spots, k___law_spots⟩
  have C__law_once : Dfn l.prog w K mg base 1 "_law_once" a__law_once F__law_once := ⟨d__law_once (P := l.prog) (w := w) (base := base) T FF__law_once B__law_once, PySem.W.mg_of X G a___law_once, k___law_once⟩
  have C__law_ends : Dfn l.prog w K mg base 2 "_law_ends" a__law_ends F__law_ends := ⟨d__law_ends (P := l.prog) (w := w) (base := base) T C__law_once C__law_spots FF__law_ends B__law_ends, PySem.W.mg_of X G a___law_ends, k___law_ends⟩
  have C__law_clash : Dfn l.prog w K mg base 3 "_law_clash" a__law_clash F__law_clash := ⟨d__law_clash (P := l.prog) (w := w) (base := base) T C__law_ends FF__law_clash B__law_clash, PySem.W.mg_of X G a___law_clash, k___law_clash⟩
  have C__law_clear : Dfn l.prog w K mg base 4 "_law_clear" a__law_clear F__law_clear := ⟨d__law_clear (P := l.prog) (w := w) (base := base) T C__law_clash C__law_draw C__law_table FF__law_clear B__law_clear, PySem.W.mg_of X G a___law_clear, k___law_clear⟩
  have C__law_pairs : Dfn l.prog w K mg base 1 "_law_pairs" a__law_pairs F__law_pairs := ⟨d__law_pairs (P := l.prog) (w := w) (base := base) T FF__law_pairs B__law_pairs, PySem.W.mg_of X G a___law_pairs, k___law_pairs⟩
  have C__law_rules : Dfn l.prog w K mg base 2 "_law_rules" a__law_rules F__law_rules := ⟨d__law_rules (P := l.prog) (w := w) (base := base) T C__law_pairs FF__law_rules B__law_rules, PySem.W.mg_of X G a___law_rules, k___law_rules⟩
  have C__law_net : Dfn l.prog w K mg base 2 "_law_net" a__law_net F__law_net := ⟨d__law_net (P := l.prog) (w := w) (base := base) T C__law_spots C__law_once FF__law_net B__law_net, PySem.W.mg_of X G a___law_net, k___law_net⟩
  have C__law_row : Dfn l.prog w K mg base 3 "_law_row" a__law_row F__law_row := ⟨d__law_row (P := l.prog) (w := w) (base := base) T C__law_pick C__law_draw FF__law_row B__law_row, PySem.W.mg_of X G a___law_row, k___law_row⟩
  have C__law_folded : Dfn l.prog w K mg base 3 "_law_folded" a__law_folded F__law_folded := ⟨d__law_folded (P := l.prog) (w := w) (base := base) T Z_Book E_NoFold C_Book_folded C_Book_folded_index_row FF__law_folded B__law_folded, PySem.W.mg_of X G a___law_folded, k___law_folded⟩
  have C__law_folds_right : Dfn l.prog w K mg base 4 "_law_folds_right" a__law_folds_right F__law_folds_right := ⟨d__law_folds_right (P := l.prog) (w := w) (base := base) T Z_Book L C_Book_folds_row C_Book_folds C__law_folded C__law_draw C__law_once C__law_spots FF__law_folds_right B__law_folds_right, PySem.W.mg_of X G a___law_folds_right, k___law_folds_right⟩
  have C__law_net_right : Dfn l.prog w K mg base 4 "_law_net_right" a__law_net_right F__law_net_right := ⟨d__law_net_right (P := l.prog) (w := w) (base := base) T Z_Book L C_Book_is_net C_Book_net C_Book_net_row C_Book_folds C_Book_folded C__law_pick C__law_net FF__law_net_right B__law_net_right, PySem.W.mg_of X G a___law_net_right, k___law_net_right⟩
  have C__law_odd : Dfn l.prog w K mg base 3 "_law_odd" a__law_odd F__law_odd := ⟨d__law_odd (P := l.prog) (w := w) (base := base) T C__law_pick FF__law_odd B__law_odd, PySem.W.mg_of X G a___law_odd, k___law_odd⟩
  have C__law_is_net : Dfn l.prog w K mg base 2 "_law_is_net" a__law_is_net F__law_is_net := ⟨d__law_is_net (P := l.prog) (w := w) (base := base) T C__law_spots FF__law_is_net B__law_is_net, PySem.W.mg_of X G a___law_is_net, k___law_is_net⟩
  exact d_law (P := l.prog) (w := w) (base := base) T Z_Book L C_Book_is_net_thing C_Book_is_net C_Book_result_y_x C_Book_result CM_Book_of C__law_odd C__law_net C__law_is_net C__law_net_right C__law_folds_right C__law_row C__law_draw C__law_rules C__law_clear C__law_pick C__law_names C__law_deck FF_law B_law
theorem walk {l : PySem.W.OpenLaw} {q : Program} {loose : List Str} {XP : (Str → Option Value) → Heap → Prop} {YP : World → Heap → Prop} {d : DefRec} {K : Params → PySem.W.Frag} (hn : l.most = some 63) (hdf : d.params.defaults = [])
    (hY : ∀ (w : World) (h : Heap), YP w h → (K w.params).In h)
    (F : ∀ (w : World) (mg : Str → Option Value) (fa : Addr) (h : Heap), (K w.params).In h → h.Ns mainGlobals mg → mg d.name = some (.ref fa) →
      ∃ Fn, (∀ base : Heap, (K w.params).In base → base.Ns mainGlobals mg → FnD l.prog w (K w.params) mg base 7 fa [] Fn) ∧ ∀ (ns : List Int) (h : Hh), ns.length ≤ 63 → Ok (Fn [.frz (ns.map D.int)] h) fun d _ => d = .bl true) :
    PySem.W.WalkO q loose XP YP l.row.toRowW d [] (fun f vs => PySem.call f vs) :=
  walkLaw (n := 63) (k := 7) hn (by decide) hdf ⟨rfl, by decide, by decide⟩ hY F
end L4
set_option Elab.async false
set_option linter.all false
open PySem PySem.W PyProof.Rows in
set_option maxRecDepth 100000 in
set_option maxHeartbeats 0 in
theorem PySem.Challenge.cw_logfolds_k04_nets_and_folds_holds : PySem.Challenge.rw_logfolds_k04_nets_and_folds.Holds := by
  w_on; o_law; x_head; (case hw => w_witness2)
  k_fill
  refine L4.walk (l := PySem.Challenge.rw_logfolds_k04_nets_and_folds) rfl rfl (fun w h Y => PySem.W.kIn_of Y) ?F
  case F =>
    intro w mg fa h KX G hmg
    refine' L4.all_mk KX G hmg ?m_LETTERS ?zc_Book ?pg_Book ?hd_Book ?po_Book ?sa_Book ?nBook__results ?nBook__known ?nBook__rules ?nBook__entries ?ty_Book ?rd_Book ?ga_Book ?a__is_integer ?l__is_integer ?c__is_integer ?k__is_integer ?a__is_ascending ?l__is_ascending ?c__is_ascending ?k__is_ascending ?a__is_name ?l__is_name ?c__is_name ?k__is_name ?a__are_entries ?l__are_entries ?c__are_entries ?k__are_entries ?a__known_of ?l__known_of ?c__known_of ?k__known_of ?a__is_known ?l__is_known ?c__is_known ?k__is_known ?a__is_rule ?l__is_rule ?c__is_rule ?k__is_rule ?a__check_rules ?l__check_rules ?c__check_rules ?k__check_rules ?a__results_of ?l__results_of ?c__results_of ?k__results_of ?a__seconds_of ?l__seconds_of ?c__seconds_of ?k__seconds_of ?a__is_clash ?l__is_clash ?c__is_clash ?k__is_clash ?a__clash_of ?l__clash_of ?c__clash_of ?k__clash_of ?a__Book___init__ ?i__Book___init__ ?l__Book___init__ ?c__Book___init__ ?k__Book___init__ ?a__Book_of ?r__Book_of ?i__Book_of ?l__Book_of ?c__Book_of ?k__Book_of ?a__Book_is_entry ?i__Book_is_entry ?l__Book_is_entry ?c__Book_is_entry ?k__Book_is_entry ?a__Book_result ?i__Book_result ?l__Book_result ?c__Book_result ?k__Book_result ?a__Book_push ?i__Book_push ?l__Book_push ?c__Book_push ?k__Book_push ?a__Book_net ?i__Book_net ?l__Book_net ?c__Book_net ?k__Book_net ?a__Book_folds ?i__Book_folds ?l__Book_folds ?c__Book_folds ?k__Book_folds ?a__Book_is_net ?i__Book_is_net ?l__Book_is_net ?c__Book_is_net ?k__Book_is_net ?a__Book_folded ?i__Book_folded ?l__Book_folded ?c__Book_folded ?k__Book_folded ?a___law_deck ?l___law_deck ?c___law_deck ?k___law_deck ?a___law_draw ?l___law_draw ?c___law_draw ?k___law_draw ?a___law_pick ?l___law_pick ?c___law_pick ?k___law_pick ?a___law_names ?l___law_names ?c___law_names ?k___law_names ?a___law_table ?l___law_table ?c___law_table ?k___law_table ?a___law_spots ?l___law_spots ?c___law_spots ?k___law_spots ?a___law_once ?l___law_once ?c___law_once ?k___law_once ?a___law_ends ?l___law_ends ?c___law_ends ?k___law_ends ?a___law_clash ?l___law_clash ?c___law_clash ?k___law_clash ?a___law_clear ?l___law_clear ?c___law_clear ?k___law_clear ?a___law_pairs ?l___law_pairs ?c___law_pairs ?k___law_pairs ?a___law_rules ?l___law_rules ?c___law_rules ?k___law_rules ?a___law_net ?l___law_net ?c___law_net ?k___law_net ?a___law_row ?l___law_row ?c___law_row ?k___law_row ?a___law_folded ?l___law_folded ?c___law_folded ?k___law_folded ?a___law_folds_right ?l___law_folds_right ?c___law_folds_right ?k___law_folds_right ?a___law_net_right ?l___law_net_right ?c___law_net_right ?k___law_net_right ?a___law_odd ?l___law_odd ?c___law_odd ?k___law_odd ?a___law_is_net ?l___law_is_net ?c___law_is_net ?k___law_is_net ?a__law ?l__law ?c__law ?k__law ?mk_Book ?kc_Book ?za_NoFold ?ec_NoFold ?es_NoFold ?eg_NoFold ?eh_NoFold ?en_NoFold ?ei_NoFold ?et_NoFold ?ek_NoFold ?ex_NoFold ?ey_NoFold ?ed_NoFold ?ef_NoFold ?el_NoFold ?eo_NoFold ?low ?z_len ?z_range ?z_int ?z_list ?z_tuple ?z_sorted ?z_str ?z_dict ?z_repr ?z_isinstance ?z_bool ?z_all ?z_any ?z_max ?z_min ?z_set
    (case m_LETTERS => k_is)
    (case zc_Book => k_is)
    (case pg_Book => k_is)
    (case hd_Book => k_is)
    (case po_Book => k_is)
    (case sa_Book => k_is)
    (case nBook__results => k_is)
    (case nBook__known => k_is)
    (case nBook__rules => k_is)
    (case nBook__entries => k_is)
    (case ty_Book => k_is)
    (case rd_Book => k_is)
    (case ga_Book => k_is)
    (case a__is_integer => k_is)
    (case l__is_integer => k_is)
    (case c__is_integer => k_is)
    (case k__is_integer => k_is)
    (case a__is_ascending => k_is)
    (case l__is_ascending => k_is)
    (case c__is_ascending => k_is)
    (case k__is_ascending => k_is)
    (case a__is_name => k_is)
    (case l__is_name => k_is)
    (case c__is_name => k_is)
    (case k__is_name => k_is)
    (case a__are_entries => k_is)
    (case l__are_entries => k_is)
    (case c__are_entries => k_is)
    (case k__are_entries => k_is)
    (case a__known_of => k_is)
    (case l__known_of => k_is)
    (case c__known_of => k_is)
    (case k__known_of => k_is)
    (case a__is_known => k_is)
    (case l__is_known => k_is)
    (case c__is_known => k_is)
    (case k__is_known => k_is)
    (case a__is_rule => k_is)
    (case l__is_rule => k_is)
    (case c__is_rule => k_is)
    (case k__is_rule => k_is)
    (case a__check_rules => k_is)
    (case l__check_rules => k_is)
    (case c__check_rules => k_is)
    (case k__check_rules => k_is)
    (case a__results_of => k_is)
    (case l__results_of => k_is)
    (case c__results_of => k_is)
    (case k__results_of => k_is)
    (case a__seconds_of => k_is)
    (case l__seconds_of => k_is)
    (case c__seconds_of => k_is)
    (case k__seconds_of => k_is)
    (case a__is_clash => k_is)
    (case l__is_clash => k_is)
    (case c__is_clash => k_is)
    (case k__is_clash => k_is)
    (case a__clash_of => k_is)
    (case l__clash_of => k_is)
    (case c__clash_of => k_is)
    (case k__clash_of => k_is)
    (case a__Book___init__ => k_is)
    (case i__Book___init__ => k_is)
    (case l__Book___init__ => k_is)
    (case c__Book___init__ => k_is)
    (case k__Book___init__ => k_is)
    (case a__Book_of => k_is)
    (case r__Book_of => k_is)
    (case i__Book_of => k_is)
    (case l__Book_of => k_is)
    (case c__Book_of => k_is)
    (case k__Book_of => k_is)
    (case a__Book_is_entry => k_is)
    (case i__Book_is_entry => k_is)
    (case l__Book_is_entry => k_is)
    (case c__Book_is_entry => k_is)
    (case k__Book_is_entry => k_is)
    (case a__Book_result => k_is)
    (case i__Book_result => k_is)
    (case l__Book_result => k_is)
    (case c__Book_result => k_is)
    (case k__Book_result => k_is)
    (case a__Book_push => k_is)
    (case i__Book_push => k_is)
    (case l__Book_push => k_is)
    (case c__Book_push => k_is)
    (case k__Book_push => k_is)
    (case a__Book_net => k_is)
    (case i__Book_net => k_is)
    (case l__Book_net => k_is)
    (case c__Book_net => k_is)
    (case k__Book_net => k_is)
    (case a__Book_folds => k_is)
    (case i__Book_folds => k_is)
    (case l__Book_folds => k_is)
    (case c__Book_folds => k_is)
    (case k__Book_folds => k_is)
    (case a__Book_is_net => k_is)
    (case i__Book_is_net => k_is)
    (case l__Book_is_net => k_is)
    (case c__Book_is_net => k_is)
    (case k__Book_is_net => k_is)
    (case a__Book_folded => k_is)
    (case i__Book_folded => k_is)
    (case l__Book_folded => k_is)
    (case c__Book_folded => k_is)
    (case k__Book_folded => k_is)
    (case a___law_deck => k_is)
    (case l___law_deck => k_is)
    (case c___law_deck => k_is)
    (case k___law_deck => k_is)
    (case a___law_draw => k_is)
    (case l___law_draw => k_is)
    (case c___law_draw => k_is)
    (case k___law_draw => k_is)
    (case a___law_pick => k_is)
    (case l___law_pick => k_is)
    (case c___law_pick => k_is)
    (case k___law_pick => k_is)
    (case a___law_names => k_is)
    (case l___law_names => k_is)
    (case c___law_names => k_is)
    (case k___law_names => k_is)
    (case a___law_table => k_is)
    (case l___law_table => k_is)
    (case c___law_table => k_is)
    (case k___law_table => k_is)
    (case a___law_spots => k_is)
    (case l___law_spots => k_is)
    (case c___law_spots => k_is)
    (case k___law_spots => k_is)
    (case a___law_once => k_is)
    (case l___law_once => k_is)
    (case c___law_once => k_is)
    (case k___law_once => k_is)
    (case a___law_ends => k_is)
    (case l___law_ends => k_is)
    (case c___law_ends => k_is)
    (case k___law_ends => k_is)
    (case a___law_clash => k_is)
    (case l___law_clash => k_is)
    (case c___law_clash => k_is)
    (case k___law_clash => k_is)
    (case a___law_clear => k_is)
    (case l___law_clear => k_is)
    (case c___law_clear => k_is)
    (case k___law_clear => k_is)
    (case a___law_pairs => k_is)
    (case l___law_pairs => k_is)
    (case c___law_pairs => k_is)
    (case k___law_pairs => k_is)
    (case a___law_rules => k_is)
    (case l___law_rules => k_is)
    (case c___law_rules => k_is)
    (case k___law_rules => k_is)
    (case a___law_net => k_is)
    (case l___law_net => k_is)
    (case c___law_net => k_is)
    (case k___law_net => k_is)
    (case a___law_row => k_is)
    (case l___law_row => k_is)
    (case c___law_row => k_is)
    (case k___law_row => k_is)
    (case a___law_folded => k_is)
    (case l___law_folded => k_is)
    (case c___law_folded => k_is)
    (case k___law_folded => k_is)
    (case a___law_folds_right => k_is)
    (case l___law_folds_right => k_is)
    (case c___law_folds_right => k_is)
    (case k___law_folds_right => k_is)
    (case a___law_net_right => k_is)
    (case l___law_net_right => k_is)
    (case c___law_net_right => k_is)
    (case k___law_net_right => k_is)
    (case a___law_odd => k_is)
    (case l___law_odd => k_is)
    (case c___law_odd => k_is)
    (case k___law_odd => k_is)
    (case a___law_is_net => k_is)
    (case l___law_is_net => k_is)
    (case c___law_is_net => k_is)
    (case k___law_is_net => k_is)
    (case a__law => k_is)
    (case l__law => k_is)
    (case c__law => k_is)
    (case k__law => k_is)
    (case mk_Book => k_is)
    (case kc_Book => k_is)
    (case za_NoFold => k_is)
    (case ec_NoFold => k_is)
    (case es_NoFold => k_is)
    (case eg_NoFold => k_is)
    (case eh_NoFold => k_is)
    (case en_NoFold => k_is)
    (case ei_NoFold => k_is)
    (case et_NoFold => k_is)
    (case ek_NoFold => k_is)
    (case ex_NoFold => k_is)
    (case ey_NoFold => k_is)
    (case ed_NoFold => k_is)
    (case ef_NoFold => k_is)
    (case el_NoFold => k_is)
    (case eo_NoFold => k_is)
    (case low => k_is)
    (case z_len => k_is)
    (case z_range => k_is)
    (case z_int => k_is)
    (case z_list => k_is)
    (case z_tuple => k_is)
    (case z_sorted => k_is)
    (case z_str => k_is)
    (case z_dict => k_is)
    (case z_repr => k_is)
    (case z_isinstance => k_is)
    (case z_bool => k_is)
    (case z_all => k_is)
    (case z_any => k_is)
    (case z_max => k_is)
    (case z_min => k_is)
    (case z_set => k_is)
