/- Plain mathematics of layer 3: rows and what they list; ids joined are those that rows list. -/
import Derived.Test.YtoihikeeaobemaaIdL
import Derived.Test.YtoihikeeaobemaaIdJ
namespace Go.Proofs.Ytoihikeeaobemaa

theorem addI_s {r : Rn} {i : Nat} (h : runB r = true) (hi : i < r.c) : (addI r i).s = r.a + i := by
  rw [runB_iff] at h
  show (r.a + i) % 18446744073709551616 = _
  omega
theorem mem_runIds {r : Rn} {m : Nat} {y : Id} : y ∈ runIds r m ↔ ∃ i, i < m ∧ addI r i = y := by simp [runIds]

theorem mem_run {r : Rn} (h : runB r = true) (y : Id) : y ∈ runIds r r.c ↔ r.f = y.f ∧ r.a ≤ y.s ∧ y.s < r.a + r.c := by
  rw [mem_runIds]
  constructor
  · rintro ⟨i, hi, rfl⟩
    rw [addI_s h hi]
    exact ⟨rfl, by omega, by omega⟩
  · rintro ⟨h1, h2, h3⟩
    have hi : y.s - r.a < r.c := by omega
    exact ⟨y.s - r.a, hi, Id.same h1 (by rw [addI_s h hi]; omega)⟩

theorem mem_listOf {l : List Rn} (h : badB l = false) (y : Id) : y ∈ listOf l ↔ hasB y l = true := by
  rw [hasB_iff]
  unfold listOf
  rw [List.mem_flatMap]
  constructor
  · rintro ⟨r, hr, hy⟩
    have hrun := bad_all h r hr
    exact ⟨r, hr, hrun, (mem_run hrun y).1 hy⟩
  · rintro ⟨r, hr, hrun, hy⟩
    exact ⟨r, hr, (mem_run hrun y).2 hy⟩

theorem may_run {r : Rn} (h : runB r = true) {y : Id} (hy : y ∈ runIds r r.c) : mayB y = true := by
  obtain ⟨h1, h2, h3⟩ := (mem_run h y).1 hy
  rw [runB_iff] at h
  unfold mayB
  simp only [Bool.and_eq_true, decide_eq_true_eq]
  omega
theorem may_listOf {l : List Rn} (h : badB l = false) {y : Id} (hy : y ∈ listOf l) : mayB y = true := by
  unfold listOf at hy
  rw [List.mem_flatMap] at hy
  obtain ⟨r, hr, hy⟩ := hy
  exact may_run (bad_all h r hr) hy

theorem rowsP_nil : RowsP [] := fun _ h => absurd h (by simp)

theorem rowsP_snoc (l : List Rn) (x : Rn) : RowsP (l ++ [x]) ↔ RowsP l ∧ runB x = true ∧ ∀ r, l.getLast? = some r → sepP r x := by
  constructor
  · intro h
    refine ⟨fun i hi hl => ?_, ?_, ?_⟩
    · have := h i (by simp; omega) (by simp; omega)
      rw [List.getElem_append_left hl] at this
      refine ⟨this.1, fun hp => ?_⟩
      have h2 := this.2 hp
      rwa [List.getElem_append_left (by omega)] at h2
    · have := (h l.length (by simp) (by simp)).1
      rwa [List.getElem_append_right (Nat.le_refl _), List.getElem_singleton] at this
    · intro r hr
      rw [List.getLast?_eq_getElem?] at hr
      obtain ⟨hlt, he⟩ := List.getElem?_eq_some_iff.1 hr
      have := (h l.length (by simp) (by simp)).2 (by omega)
      rw [List.getElem_append_right (Nat.le_refl _), List.getElem_singleton, List.getElem_append_left (by omega)] at this
      rw [← he]; exact this
  · rintro ⟨h1, h2, h3⟩ i hi hl
    by_cases hil : i < l.length
    · rw [List.getElem_append_left hil]
      refine ⟨(h1 i hil hil).1, fun hp => ?_⟩
      rw [List.getElem_append_left (by omega)]
      exact (h1 i hil hil).2 hp
    · have : i = l.length := by simp at hl; omega
      subst this
      rw [List.getElem_append_right (Nat.le_refl _), List.getElem_singleton]
      refine ⟨h2, fun hp => ?_⟩
      rw [List.getElem_append_left (by omega)]
      exact h3 _ (by rw [List.getLast?_eq_getElem?, List.getElem?_eq_getElem])

theorem rows_bad {l : List Rn} (h : RowsP l) : badB l = false := by
  refine bad_of fun r hr => ?_
  obtain ⟨i, hi, rfl⟩ := List.mem_iff_getElem.1 hr
  exact (h i hi hi).1

/-- The run's first m. -/
def cutRn (x : Rn) (m : Nat) (hm : m < 18446744073709551616) : Rn := ⟨x.f, x.a, m, x.hf, x.ha, hm⟩

theorem rowStep_last (R : List Rn) (r : Rn) (x : Id) (h : nextI r = x) : rowStep (R ++ [r]) x = R ++ [moreRn r] := by
  unfold rowStep
  rw [List.getLast?_concat]
  simp only [h, if_true, List.dropLast_concat]
  rfl
theorem rowStep_new (R : List Rn) (x : Id) (h : ∀ r, R.getLast? = some r → nextI r ≠ x) : rowStep R x = R ++ [oneRn x] := by
  unfold rowStep
  cases hl : R.getLast? with
  | none => rfl
  | some r => simp only [h r hl, if_false]; rfl

theorem rowsOf_append (a b : List Id) : rowsOf (a ++ b) = b.foldl rowStep (rowsOf a) := by unfold rowsOf; rw [List.foldl_append]

theorem fold_run (x : Rn) (hx : runB x = true) (R : List Rn) (h : ∀ r, R.getLast? = some r → nextI r ≠ firstI x) : ∀ m (hm : m + 1 ≤ x.c), (runIds x (m + 1)).foldl rowStep R = R ++ [cutRn x (m + 1) (by have := x.hc; omega)]
  | 0, hm => by
    have e : addI x 0 = firstI x := Id.same rfl (by rw [addI_s hx (by omega)]; rfl)
    rw [runIds_succ]
    simp only [runIds, List.range_zero, List.map_nil, List.nil_append, List.foldl_cons, List.foldl_nil]
    rw [e, rowStep_new R _ h]
    rfl
  | m + 1, hm => by
    rw [runIds_succ, List.foldl_append, fold_run x hx R h m (by omega)]
    simp only [List.foldl_cons, List.foldl_nil]
    rw [rowStep_last]
    · congr 1
      rw [List.cons.injEq]
      refine ⟨Rn.same rfl rfl ?_, rfl⟩
      show (m + 1 + 1) % 18446744073709551616 = m + 1 + 1
      have := x.hc
      omega
    · exact Id.same rfl rfl

theorem rows_all : ∀ (n : Nat) (l : List Rn), l.length = n → RowsP l → (listOf l).Pairwise lt ∧ rowsOf (listOf l) = l ∧ ∀ r, l.getLast? = some r → ∀ y ∈ listOf l, y.f < r.f ∨ (y.f = r.f ∧ y.s < r.a + r.c)
  | 0, l, hl, _ => by
    have : l = [] := List.eq_nil_of_length_eq_zero hl
    subst this
    exact ⟨by simp [listOf], rfl, fun r hr => by simp at hr⟩
  | n + 1, l, hl, h => by
    obtain ⟨l', x, rfl⟩ : ∃ l' x, l = l' ++ [x] := ⟨l.dropLast, l.getLast (by intro h0; subst h0; simp at hl), (List.dropLast_concat_getLast _).symm⟩
    obtain ⟨h1, hx, hsep⟩ := (rowsP_snoc l' x).1 h
    obtain ⟨i1, i2, i3⟩ := rows_all n l' (by simpa using hl) h1
    have hxr := (runB_iff x).1 hx
    have hlist : listOf (l' ++ [x]) = listOf l' ++ runIds x x.c := by rw [listOf_append, listOf_cons, listOf_nil, List.append_nil]
    have hlow : ∀ y ∈ listOf l', y.f < x.f ∨ (y.f = x.f ∧ y.s < x.a) := by
      intro y hy
      cases hg : l'.getLast? with
      | none =>
        rw [List.getLast?_eq_none_iff] at hg
        subst hg
        simp [listOf] at hy
      | some r =>
        have a1 := i3 r hg y hy
        have a2 := hsep r hg
        unfold sepP at a2
        omega
    rw [hlist]
    refine ⟨?_, ?_, ?_⟩
    · rw [List.pairwise_append]
      refine ⟨i1, ?_, ?_⟩
      · unfold runIds
        rw [List.pairwise_map]
        have hp : (List.range x.c).Pairwise (fun a b => a < b ∧ b < x.c) := by
          refine List.Pairwise.imp_of_mem ?_ List.pairwise_lt_range
          intro a b ha hb hab
          exact ⟨hab, by simpa using hb⟩
        refine List.Pairwise.imp ?_ hp
        intro a b hab
        refine .inr ⟨rfl, ?_⟩
        rw [addI_s hx (by omega), addI_s hx hab.2]
        omega
      · intro y hy z hz
        have a1 := hlow y hy
        have a2 := (mem_run hx z).1 hz
        unfold lt
        omega
    · rw [rowsOf_append, i2]
      obtain ⟨m, hm⟩ : ∃ m, x.c = m + 1 := ⟨x.c - 1, by omega⟩
      have hf := fold_run x hx l' (fun r hr he => by
        have a2 := hsep r hr
        have hrr : runB r = true := by
          have := rows_bad h1
          exact bad_all this r (List.mem_of_getLast? hr)
        obtain ⟨n1, n2⟩ := nextI_is hrr
        have e1 : (nextI r).f = x.f := by rw [he]; rfl
        have e2 : (nextI r).s = x.a := by rw [he]; rfl
        rw [n1] at e1
        rw [n2] at e2
        unfold sepP at a2
        omega) m (by omega)
      rw [hm, hf]
      congr 1
      rw [List.cons.injEq]
      exact ⟨Rn.same rfl rfl hm.symm, rfl⟩
    · intro r hr y hy
      rw [List.getLast?_concat] at hr
      injection hr with hr
      subst hr
      rw [List.mem_append] at hy
      rcases hy with hy | hy
      · have := hlow y hy; omega
      · have := (mem_run hx y).1 hy; omega

/-- Rows are joined of their own ids. -/
theorem join_rows {l : List Rn} (h : RowsP l) : joinOf (listOf l) = l := by
  obtain ⟨h1, h2, _⟩ := rows_all l.length l rfl h
  rw [joinOf_eq, ordered_is h1, h2]
  intro x
  exact ⟨fun hx => ⟨hx, may_listOf (rows_bad h) hx⟩, fun hx => hx.1⟩

/-- The rows of ids that stand in order list just these. -/
theorem rowsOf_rows : ∀ (k : Nat) (s : List Id), s.length = k → s.Pairwise lt → (∀ y ∈ s, mayB y = true) → RowsP (rowsOf s) ∧ listOf (rowsOf s) = s
  | 0, s, hl, _, _ => by
    have : s = [] := List.eq_nil_of_length_eq_zero hl
    subst this
    exact ⟨rowsP_nil, rfl⟩
  | k + 1, s, hl, hs, hm => by
    obtain ⟨s', x, rfl⟩ : ∃ s' x, s = s' ++ [x] := ⟨s.dropLast, s.getLast (by intro h0; subst h0; simp at hl), (List.dropLast_concat_getLast _).symm⟩
    rw [List.pairwise_append] at hs
    obtain ⟨h1, h2⟩ := rowsOf_rows k s' (by simpa using hl) hs.1 (fun y hy => hm y (by simp [hy]))
    have hx := hm x (by simp)
    have hxm : x.f < 64 ∧ 1 ≤ x.s ∧ x.s ≤ 4611686018427387904 := by
      unfold mayB at hx
      simp only [Bool.and_eq_true, decide_eq_true_eq] at hx
      omega
    have hone : runB (oneRn x) = true := by
      rw [runB_iff]
      show x.f < 64 ∧ 1 ≤ x.s ∧ x.s ≤ 4611686018427387904 ∧ 1 ≤ 1 ∧ 1 - 1 ≤ 4611686018427387904 - x.s
      omega
    have hli : listOf [oneRn x] = [x] := by
      rw [listOf_cons, listOf_nil, List.append_nil]
      show runIds (oneRn x) (0 + 1) = [x]
      rw [runIds_succ]
      simp only [runIds, List.range_zero, List.map_nil, List.nil_append]
      rw [List.cons.injEq]
      exact ⟨Id.same rfl (by rw [addI_s hone (by show 0 < 1; omega)]; rfl), rfl⟩
    rw [rowsOf_append]
    simp only [List.foldl_cons, List.foldl_nil]
    generalize rowsOf s' = R at h1 h2
    cases hg : R.getLast? with
    | none =>
      rw [rowStep_new R x (fun r hr => by rw [hg] at hr; cases hr)]
      rw [List.getLast?_eq_none_iff] at hg
      subst hg
      have hs' : s' = [] := by rw [← h2]; rfl
      subst hs'
      refine ⟨(rowsP_snoc [] (oneRn x)).2 ⟨rowsP_nil, hone, fun r hr => by simp at hr⟩, ?_⟩
      simpa using hli
    | some r =>
      obtain ⟨R0, rfl⟩ : ∃ R0, R = R0 ++ [r] := by
        rw [List.getLast?_eq_some_iff] at hg
        exact hg
      obtain ⟨g1, hr, g3⟩ := (rowsP_snoc R0 r).1 h1
      have hrr := (runB_iff r).1 hr
      obtain ⟨n1, n2⟩ := nextI_is hr
      by_cases he : nextI r = x
      · rw [rowStep_last R0 r x he]
        have e1 : r.f = x.f := by rw [← he, n1]
        have e2 : r.a + r.c = x.s := by rw [← he, n2]
        have hc1 : (r.c + 1) % 18446744073709551616 = r.c + 1 := by omega
        have hmore : runB (moreRn r) = true := by
          rw [runB_iff]
          show r.f < 64 ∧ 1 ≤ r.a ∧ r.a ≤ 4611686018427387904 ∧ 1 ≤ (r.c + 1) % 18446744073709551616 ∧ (r.c + 1) % 18446744073709551616 - 1 ≤ 4611686018427387904 - r.a
          omega
        refine ⟨(rowsP_snoc R0 (moreRn r)).2 ⟨g1, hmore, fun q hq => g3 q hq⟩, ?_⟩
        rw [listOf_append, listOf_cons, listOf_nil, List.append_nil] at h2 ⊢
        rw [← h2, List.append_assoc]
        congr 1
        show runIds (moreRn r) ((r.c + 1) % 18446744073709551616) = _
        rw [hc1, runIds_succ]
        congr 1
        rw [List.cons.injEq]
        exact ⟨Id.same e1 (by show (r.a + r.c) % 18446744073709551616 = x.s; omega), rfl⟩
      · rw [rowStep_new (R0 ++ [r]) x (fun q hq => by rw [List.getLast?_concat] at hq; injection hq with hq; subst hq; exact he)]
        refine ⟨(rowsP_snoc (R0 ++ [r]) (oneRn x)).2 ⟨h1, hone, fun q hq => ?_⟩, ?_⟩
        · rw [List.getLast?_concat] at hq
          injection hq with hq
          subst hq
          -- the last id of the last run stands ahead of x
          have hmem : addI r (r.c - 1) ∈ s' := by
            rw [← h2, listOf_append, List.mem_append]
            refine .inr ?_
            rw [listOf_cons, listOf_nil, List.append_nil]
            exact mem_runIds.2 ⟨r.c - 1, by omega, rfl⟩
          have hlt := hs.2.2 _ hmem x (by simp)
          have hne : ¬ (r.f = x.f ∧ r.a + r.c = x.s) := fun ⟨q1, q2⟩ => he (Id.same (by rw [n1]; exact q1) (by rw [n2]; exact q2))
          unfold lt at hlt
          rw [addI_s hr (by omega)] at hlt
          have hlt' : r.f < x.f ∨ (r.f = x.f ∧ r.a + (r.c - 1) < x.s) := hlt
          show r.f < x.f ∨ (r.f = x.f ∧ r.a + r.c < x.s)
          omega
        · rw [listOf_append, h2, hli]

end Go.Proofs.Ytoihikeeaobemaa
