/- Stage 14: ids that are put in, one byte each: what is there then. -/
import Derived.Test.YtnpdjlcekmpmoaaSoN
import Derived.Test.YtnpdjlcekmpmoaaSoQa
set_option maxRecDepth 20000
namespace Go.Proofs.Ytnpdjlcekmpmoaa
open Go.RowKit Go.Sort Go.Maps

theorem eqlId (x y : Id) (w : World) : (binOp .eql 33 (.agg #[.int .u8 (x.f : Int), .int .u64 (x.s : Int)]) (.agg #[.int .u8 (y.f : Int), .int .u64 (y.s : Int)])).run Try.prog w = .ok (.bool (decide (x = y))) w := by
  have u5 := Try.underlying5
  have a5 := Try.isAgg5
  have z5 := Try.sizeOf5
  have u22 := Try.underlying31
  have a22 := Try.isAgg31
  have z22 := Try.sizeOf31
  have hS : Try.prog.underlying 33 = some (.struct (Try.prog.fieldsOf 33)) := by kernel_rfl
  have hp : Try.prog.stoodInHeld 33 = false := by kernel_rfl
  have he : decide (x = y) = (decide (x.f = y.f) && decide (x.s = y.s)) := by
    rw [Bool.eq_iff_iff]
    simp only [Bool.and_eq_true, decide_eq_true_eq]
    exact ⟨fun h => by subst h; exact ⟨rfl, rfl⟩, fun h => Id.same h.1 h.2⟩
  rw [he, run_eql_struct, show (10000 : Nat) = 9999 + 1 from rfl, run_equalIn_agg w 9999 33 _ _ hS hp]
  simp only [Program.fieldsOf, Try.underlying33]
  go_simp
  by_cases h1 : x.f = y.f <;> by_cases h2 : x.s = y.s <;> simp [h1, h2] <;> omega

theorem hasL_append_one (l : List Hp) (x y : Id) (b : List UInt8) : hasL (l ++ [⟨x, b⟩]) y = (hasL l y || decide (x = y)) := by
  unfold hasL
  rw [hasS_append]
  congr 1
  simp only [hasS, List.any_cons, List.any_nil, Bool.or_false]
  by_cases hxy : x = y
  · subst hxy; simp
  · rw [decide_eq_false hxy]
    exact decide_eq_false fun h => hxy (Id.same h.1 h.2)

/-- A store into which just these ids were put, one byte each. -/
structure OneS (m0 m : Sm) (l : List Id) : Prop where
  n : m.n = m0.n
  room : m.room = m0.room
  fl : m.fl = m0.fl
  use : useL m.l = m.l.length
  len : m.l.length ≤ l.length
  has : ∀ y, hasL m.l y = (l.any (fun x => decide (x = y)) && m0.may y)
theorem OneS.start {m0 : Sm} (h : m0.l = []) : OneS m0 m0 [] := ⟨rfl, rfl, rfl, by rw [h]; rfl, by rw [h]; exact Nat.le_refl _, fun y => by rw [h]; rfl⟩
theorem OneS.step {m0 m : Sm} {l : List Id} (h : OneS m0 m l) (x : Id) (hl : l.length < m0.room) (hf : ∀ i, num m0.fl i = 0) : OneS m0 (m.put x [1]) (l ++ [x]) := by
  have hm : ∀ y, m.may y = m0.may y := fun y => by unfold Sm.may; rw [h.n]
  have ha : ∀ y, (l ++ [x]).any (fun z => decide (z = y)) = (l.any (fun z => decide (z = y)) || decide (x = y)) := fun y => by simp
  by_cases ht : m.takes x [1] = true
  · have e : m.put x [1] = { m with l := m.l ++ [⟨x, [1]⟩] } := by unfold Sm.put; rw [if_pos ht]
    obtain ⟨h1, h2, h3, h4⟩ := Sm.takes_iff.1 ht
    rw [e]
    refine ⟨h.n, h.room, h.fl, ?_, ?_, fun y => ?_⟩
    · show useL (m.l ++ [_]) = (m.l ++ [_]).length
      rw [useL_append, useL_one, h.use]
      simp
    · show (m.l ++ [_]).length ≤ (l ++ [x]).length
      have := h.len
      simp
      omega
    · show hasL (m.l ++ [_]) y = _
      rw [hasL_append_one, ha, h.has]
      by_cases hxy : x = y
      · subst hxy
        rw [← hm, h1]
        simp
      · rw [decide_eq_false hxy]
        simp
  · have e : m.put x [1] = m := by unfold Sm.put; rw [if_neg ht]
    rw [e]
    refine ⟨h.n, h.room, h.fl, h.use, by have := h.len; simp; omega, fun y => ?_⟩
    rw [ha, h.has]
    by_cases hxy : x = y
    · subst hxy
      rw [decide_eq_true rfl, Bool.or_true, Bool.true_and]
      cases hq : m0.may x with
      | false => simp
      | true =>
        rw [Bool.and_true]
        cases hz : l.any (fun z => decide (z = x)) with
        | true => rfl
        | false =>
          exfalso
          refine ht (Sm.takes_iff.2 ⟨by rw [hm]; exact hq, ?_, by rw [h.has, hz]; rfl, ?_⟩)
          · rw [h.fl, hf]
            unfold Sm.may mayB at hq
            simp only [Bool.and_eq_true, decide_eq_true_eq] at hq
            omega
          · rw [h.use, h.room]
            have := h.len
            simp
            omega
    · rw [decide_eq_false hxy, Bool.or_false]

theorem len_le : ∀ {a b : List Hp}, a.Pairwise (fun x y => x.id ≠ y.id) → b.Pairwise (fun x y => x.id ≠ y.id) → (∀ h ∈ a, hasL b h.id = true) → a.length ≤ b.length
  | [], _, _, _, _ => Nat.zero_le _
  | x :: r, b, ha, hb, h => by
    obtain ⟨h1, h2⟩ := List.pairwise_cons.1 ha
    obtain ⟨y, hy, e⟩ := hasL_iff.1 (h x (by simp))
    have h3 := (strike_one hb hy).1
    rw [e] at h3
    have h4 := len_le (b := strike b x.id) h2 (hb.filter _) fun z hz => by
      rw [hasL_strike, h z (by simp [hz]), decide_eq_false (h1 z hz)]
      rfl
    rw [List.length_cons]
    omega
theorem hasS_congr {a b : List Hp} (h : ∀ y, hasL a y = hasL b y) (f s : Nat) : hasS a f s = hasS b f s := by
  rw [Bool.eq_iff_iff]
  unfold hasS
  rw [List.any_eq_true, List.any_eq_true]
  constructor
  · rintro ⟨z, hz, hp⟩
    obtain ⟨q, hq, e⟩ := hasL_iff.1 ((h z.id) ▸ hasL_iff.2 ⟨z, hz, rfl⟩)
    exact ⟨q, hq, by rw [e]; exact hp⟩
  · rintro ⟨z, hz, hp⟩
    obtain ⟨q, hq, e⟩ := hasL_iff.1 ((h z.id).symm ▸ hasL_iff.2 ⟨z, hz, rfl⟩)
    exact ⟨q, hq, by rw [e]; exact hp⟩
/-- In which order they were put in plays no part. -/
theorem OneS.same {m0 m m' : Sm} {l l' : List Id} (h : OneS m0 m l) (h' : OneS m0 m' l') (hm : m.Ok) (hm' : m'.Ok) (hl : ∀ y, l.any (fun x => decide (x = y)) = l'.any (fun x => decide (x = y))) : m'.held = m.held ∧ m'.l.length = m.l.length := by
  have hh : ∀ y, hasL m.l y = hasL m'.l y := fun y => by rw [h.has, h'.has, hl]
  constructor
  · unfold Sm.held
    rw [h.n, h'.n, h.fl, h'.fl]
    exact List.map_congr_left fun i _ => (heldN_congr fun s => hasS_congr hh i s).symm
  · refine Nat.le_antisymm (len_le hm'.apart hm.apart fun z hz => ?_) (len_le hm.apart hm'.apart fun z hz => ?_)
    · rw [hh]; exact hasL_iff.2 ⟨z, hz, rfl⟩
    · rw [← hh]; exact hasL_iff.2 ⟨z, hz, rfl⟩

end Go.Proofs.Ytnpdjlcekmpmoaa
