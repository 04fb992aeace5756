/- Stage 13: slices.Contains at ids; slices.DeleteFunc at parts; Drop. -/
import Derived.Test.YthkongnjokmmfaaDoorGtT
set_option maxRecDepth 20000
namespace Go.Proofs.YthkongnjokmmfaaDoor
open Go.RowKit Go.Sort

/-! ### Is an id among some? -/
set_option maxHeartbeats 800000 in
theorem indexId_any (A : Option Addr) (n c : Nat) (xs : List Id) (x : Id) (w : World) (hl : xs.length = n) (hn : n ≤ 1000) (h : Lies w w.heap.size A (flat encId xs)) :
    Calls Tryd.prog 46 #[.slice A n c, valId x] w fun e w' => ∃ r : Int, e = .returned (.int .i64 r) ∧ Hid (decide (0 ≤ r) = decide (x ∈ xs)) ∧ RowKit.Below w.heap.size w w' := by
  have HL := Lib.hid hl
  have H := Lib.hid h
  have hgd := guardId
  clear hl h
  unfold valId
  go_enter Tryd.func46, Tryd.ntmps46
  go_wp2_with fail
  generalize hw0 : World.alloc w _ = w0
  obtain ⟨hs0, hG, hcc⟩ := box1 w w0 _ _ hw0
  have hb0 : RowKit.Below w.heap.size w w0 := hG.below
  have x0 := Lib.hid (hcc 0 _ rfl)
  have x1 := Lib.hid (hcc 1 _ rfl)
  clear hcc hw0 hG
  go_loopw [5, 8] (fun _ i wr => ∃ k : Nat, k ≤ n ∧ i = .int .i64 k ∧ RowKit.Below w0.heap.size w0 wr ∧ Hid (∀ j, (hj : j < xs.length) → j < k → x ≠ xs[j])) (fun _ i _ => n - (intOf i).toNat)
  case atStart => exact ⟨0, Nat.zero_le _, rfl, Below.refl _ _, fun j _ h => absurd h (Nat.not_lt_zero _)⟩
  case round =>
    obtain ⟨k, hk, rfl, hb, hK⟩ := hrel
    by_cases hlt : k < n
    · have hk1 : k < xs.length := by rw [HL.out]; exact hlt
      have he := fun W' => eqlId x xs[k] W'
      have y0 := (hb.cell (p := ⟨w.heap.size, 0, none⟩) (by show w.heap.size < w0.heap.size; omega)).trans x0.out
      have y1 := (hb.cell (p := ⟨w.heap.size, 1, none⟩) (by show w.heap.size < w0.heap.size; omega)).trans x1.out
      have hbb := hb0.trans (hb.mono hb0.size)
      obtain ⟨bb, off, rfl, hbl, c0, c1⟩ := Lies.id (H.out.later hbb) hk1
      have hK' : Hid (x ≠ xs[k] → ∀ j, (hj : j < xs.length) → j < k + 1 → x ≠ xs[j]) := fun hq j hj h => by
        by_cases e : j = k
        · subst e; exact hq
        · exact hK.out j hj (by omega)
      have hF : Hid (x = xs[k] → decide ((0 : Int) ≤ (k : Int)) = decide (x ∈ xs)) := fun hq => by
        rw [decide_eq_true (show (0 : Int) ≤ (k : Int) by omega), decide_eq_true]
        rw [hq]; exact List.getElem_mem hk1
      have HB := Lib.hid hbb
      have HB0 := Lib.hid hb
      clear hK hbb hb
      generalize (xs[k].f : Int) = ff at c0 he
      generalize (xs[k].s : Int) = ss at c1 he
      by_cases hq : x = xs[k]
      · rw [decide_eq_true hq] at he
        have HF := Lib.hid (hF.out hq)
        clear hF hK' hq
        go_wp2_with fail
        go_quiet (fail)
        go_wp2
        go_ret
        exact ⟨_, rfl, HF.out, below_drewN HB.out _⟩
      · rw [decide_eq_false hq] at he
        have HF := Lib.hid (hK'.out hq)
        clear hF hK' hq
        go_wp2_with fail
        go_quiet (fail)
        go_wp2
        go_roundw
        case rel => exact ⟨k + 1, by omega, by go_num, below_drewN HB0.out _, HF.out⟩
        case measure => simp [intOf]; omega
    · have hF : Hid (decide ((0 : Int) ≤ -1) = decide (x ∈ xs)) := by
        show decide ((0 : Int) ≤ -1) = decide (x ∈ xs)
        rw [decide_eq_false (show ¬ (0 : Int) ≤ -1 by omega), eq_comm, decide_eq_false_iff_not]
        intro hm
        obtain ⟨j, hj, e⟩ := List.getElem_of_mem hm
        exact hK.out j hj (by have := HL.out; omega) e.symm
      go_wp2
      go_ret
      exact ⟨_, rfl, hF.out, hb0.trans (hb.mono hb0.size)⟩

theorem contains_any (A : Option Addr) (n c : Nat) (xs : List Id) (x : Id) (w : World) (hl : xs.length = n) (hn : n ≤ 1000) (h : Lies w w.heap.size A (flat encId xs)) :
    Calls Tryd.prog 32 #[.slice A n c, valId x] w fun e w' => e = .returned (.bool (decide (x ∈ xs))) ∧ RowKit.Below w.heap.size w w' := by
  have HI : Hid (∀ W, RowKit.Below w.heap.size w W → Calls Tryd.prog 46 #[.slice A n c, valId x] W fun e w' => ∃ r : Int, e = .returned (.int .i64 r) ∧ Hid (decide (0 ≤ r) = decide (x ∈ xs)) ∧ RowKit.Below W.heap.size W w') := fun W hW => indexId_any A n c xs x W hl hn (h.later hW)
  clear h hl
  unfold valId at *
  generalize decide (x ∈ xs) = q at HI ⊢
  go_enter Tryd.func32, Tryd.ntmps32
  go_wp2_with fail
  generalize hw0 : World.alloc w _ = w0
  obtain ⟨hs0, hG, hcc⟩ := box1 w w0 _ _ hw0
  have hb0 : RowKit.Below w.heap.size w w0 := hG.below
  have x0 := hcc 0 _ rfl
  have x1 := hcc 1 _ rfl
  clear hcc hw0 hG
  go_wp2_with fail
  refine (HI.out w0 hb0).mono ?_
  rintro e w1 ⟨r, rfl, hr, hb1⟩
  have HB := Lib.hid (hb0.trans (hb1.mono hb0.size))
  clear HI hb0 hb1
  have hr' := hr.out
  clear hr x0 x1
  go_wp2
  go_ret
  exact ⟨rfl, HB.out⟩

/-! ### Drop -/
theorem dropF_any {k : Nat} {z : Pz} {b : Nat} {A : Option Addr} {n c : Nat} {xs : List Id} {W : World} (h : PartAt W k z) (hb : b < W.heap.size) (h0 : W.cell? ⟨b, 0, none⟩ = some (.slice A n c)) (hl : xs.length = n) (hn : n ≤ 1000) (hL : Lies W W.heap.size A (flat encId xs)) :
    Calls Tryd.prog 31 #[z.ptr, .pointer (some ⟨b, 0, none⟩)] W fun e w' => e = .returned (.bool (decide (z.x.id ∈ xs))) ∧ RowKit.Below W.heap.size W w' := by
  have mixed := mixedOrders
  have HC : Hid (∀ p : Later W, Calls Tryd.prog 32 #[.slice A n c, valId z.x.id] p.w fun e w' => e = .returned (.bool (decide (z.x.id ∈ xs))) ∧ RowKit.Below p.w.heap.size p.w w') := fun p => contains_any A n c xs z.x.id p.w hl hn (hL.later p.hb)
  have hp := h.lt (.inl rfl)
  have y0 := later_cell (w0 := W) hb h0
  have y1 := later_cell (w0 := W) hp h.c1
  have y2 := later_cell (w0 := W) hp h.c2
  unfold Pz.ptr
  unfold valId at HC
  generalize decide (z.x.id ∈ xs) = q at HC ⊢
  clear h h0 hL hl
  have hb0 := RowKit.Below.refl W.heap.size W
  go_enter Tryd.func31, Tryd.ntmps31
  go_wp2_with fail
  refine wp_region_later mixed (by kernel_rfl) ?_
  repeat (go_big_quiet_step ((go_at_call 32; exact later_of (HC.out _))))
  refine wpQuiet_nil ?_
  intro _ hw'
  obtain ⟨p, rfl⟩ := hw'
  have hbp : RowKit.Below W.heap.size W p.w := hb0.trans (p.hb.mono hb0.size)
  go_wp2
  go_ret
  exact ⟨rfl, hbp⟩

/-- What DeleteFunc has made: of the first j those that are kept stand in front, i of them; from j on all is as it was. -/
structure Kept {α : Type} (keep : α → Bool) (l dk : List α) (i j : Nat) : Prop where
  len : dk.length = l.length
  lt : i < j
  le : j ≤ l.length
  front : dk.take i = (l.take j).filter keep
  back : ∀ t, j ≤ t → dk[t]? = l[t]?

theorem Kept.start {α : Type} {keep : α → Bool} {l : List α} {k : Nat} (hk : k < l.length) (h1 : keep l[k] = false) (h2 : ∀ x ∈ l.take k, keep x = true) : Kept keep l l k (k + 1) := by
  refine ⟨rfl, by omega, hk, ?_, fun _ _ => rfl⟩
  rw [List.take_succ_eq_append_getElem hk, List.filter_append]
  simp [h1, List.filter_eq_self.2 h2]

theorem Kept.keep {α : Type} {keep : α → Bool} {l dk : List α} {i j : Nat} (h : Kept keep l dk i j) (hj : j < l.length) (hk : keep l[j] = true) : Kept keep l (dk.set i l[j]) (i + 1) (j + 1) := by
  refine ⟨by simp [h.len], by have := h.lt; omega, hj, ?_, fun t ht => ?_⟩
  · have hi : i < dk.length := by have := h.lt; have := h.len; omega
    rw [List.take_succ_eq_append_getElem (by simpa using hi), List.take_succ_eq_append_getElem hj, List.filter_append, ← h.front, List.take_set_of_le (Nat.le_refl i)]
    simp [hk]
  · rw [List.getElem?_set_ne (by have := h.lt; omega)]
    exact h.back t (by omega)

theorem Kept.skip {α : Type} {keep : α → Bool} {l dk : List α} {i j : Nat} (h : Kept keep l dk i j) (hj : j < l.length) (hk : keep l[j] = false) : Kept keep l dk i (j + 1) := by
  refine ⟨h.len, by have := h.lt; omega, hj, ?_, fun t ht => h.back t (by omega)⟩
  rw [List.take_succ_eq_append_getElem hj, List.filter_append, ← h.front]
  simp [hk]

theorem Kept.at_ {α : Type} {keep : α → Bool} {l dk : List α} {i j : Nat} (h : Kept keep l dk i j) (hj : j < l.length) : dk[j]'(by rw [h.len]; exact hj) = l[j] := by
  have := h.back j (Nat.le_refl _)
  rw [List.getElem?_eq_getElem (by rw [h.len]; exact hj), List.getElem?_eq_getElem hj] at this
  exact Option.some.inj this


theorem fIdx_cases (p : Pz → Bool) (L : List Pz) : (fIdx p L = -1 ∧ ∀ x ∈ L, p x = false) ∨ ∃ k, ∃ hk : k < L.length, fIdx p L = (k : Int) ∧ p L[k] = true ∧ ∀ x ∈ L.take k, p x = false := by
  unfold fIdx
  by_cases e : L.findIdx p < L.length
  · right
    refine ⟨_, e, if_pos e, List.findIdx_getElem (w := e), fun x hx => ?_⟩
    obtain ⟨j, hj, rfl⟩ := List.getElem_of_mem hx
    rw [List.length_take] at hj
    rw [List.getElem_take]
    have := List.not_of_lt_findIdx (p := p) (xs := L) (i := j) (by omega)
    simpa using this
  · left
    refine ⟨if_neg e, fun x hx => ?_⟩
    obtain ⟨j, hj, rfl⟩ := List.getElem_of_mem hx
    have := List.not_of_lt_findIdx (p := p) (xs := L) (i := j) (by omega)
    simpa using this

theorem pz_at {L : List Pz} {i : Nat} (h : i < L.length) : (flat encPz L)[i]? = some L[i].ptr := by
  have := flat_at encPz_len L i 0 (by decide) h
  simpa [encPz] using this
theorem pz_set (L : List Pz) (i : Nat) (z : Pz) (_ : i < L.length) : (flat encPz L).set i z.ptr = flat encPz (L.set i z) := by
  have e : ∀ l : List Pz, flat encPz l = l.map Pz.ptr := fun l => by
    induction l with
    | nil => rfl
    | cons a r ih => rw [flat_cons, ih]; rfl
  rw [e, e, List.map_set]

set_option maxHeartbeats 1600000 in
theorem deletePz_any (p : Pz → Bool) (gf : Nat) (lb : Array Value) (eg : ∀ args w, (callFunc gf args).run Tryd.prog w = .ok (.enter gf args) w) (A : Option Addr) (n c base : Nat) (L : List Pz) (w : World)
    (hp : ∀ W, OnlyE w W (fun k => (Value.slice A n c).ownBlock = some k) → ∀ z ∈ L, Calls Tryd.prog gf (#[z.ptr] ++ lb) W fun e w' => e = .returned (.bool (p z)) ∧ RowKit.Below W.heap.size W w')
    (hl : L.length = n) (hn : n ≤ 1000000) (hb : base ≤ w.heap.size) (h : w.ownsRow base 75 1 (.slice A n c) n (flat encPz L)) :
    Calls Tryd.prog 30 #[.slice A n c, .func (.func gf) #[] lb] w fun e w' => ∃ n', e = .returned (.slice A n' c) ∧ n' = (L.filter fun x => !p x).length ∧ w'.ownsRow base 75 1 (.slice A n' c) n' (flat encPz (L.filter fun x => !p x)) ∧ OnlyE w w' (fun k => (Value.slice A n c).ownBlock = some k) := by
  have hidx := indexPz_any (X := fun _ => False) p gf lb eg A n c L w (fun W hW z hz => hp W (hW.mono fun _ h => h.elim) z hz) hl hn (Lies.of_ownK h)
  have HL := Lib.hid hl
  have HP := Lib.hid hp
  clear hl hp
  have hC := fIdx_cases p L
  generalize fIdx p L = fi at hidx hC
  go_enter Tryd.func30, Tryd.ntmps30
  go_wp2_with fail
  refine hidx.mono ?_
  rintro e w1 ⟨rfl, hb1⟩
  have hown1 := own_below h hb1
  have HO1 := Lib.hid (OnlyE.of_below (D := fun k => (Value.slice A n c).ownBlock = some k) hb1)
  have hbs : base ≤ w1.heap.size := Nat.le_trans hb hb1.size
  clear hidx h hb1
  rcases hC with ⟨rfl, hall⟩ | ⟨k, hk, rfl, hpk, hall⟩
  · have hfil : (L.filter fun x => !p x) = L := List.filter_eq_self.2 (fun x hx => by rw [hall x hx]; rfl)
    have HF := Lib.hid hfil
    have H1 := Lib.hid hown1
    clear hfil hall hown1
    go_wp2
    go_ret
    rw [HF.out]
    exact ⟨n, rfl, HL.out.symm, H1.out, HO1.out⟩
  · have hk0 : k < n := by rw [← HL.out]; exact hk
    obtain ⟨gg, cap, hv, hbg, hlt⟩ := hown1.form (by omega)
    obtain ⟨rfl, rfl⟩ : A = some ⟨gg, 0, none⟩ ∧ c = cap := by injection hv with e1 _ e3; exact ⟨e1, e3⟩
    have hK : Hid (Kept (fun x => !p x) L L k (k + 1)) := Kept.start hk (by simp [hpk]) (fun x hx => by simp [hall x hx])
    have H1 := Lib.hid hown1
    have hne1 : ((k : Int) == -1) = false := beq_eq_false_iff_ne.2 (by omega)
    clear hpk hall hown1 hv hk
    go_wp2
    go_loopw [5, 6, 7] (fun s5 s6 _ wr => ∃ (i j : Nat) (dk : List Pz), s5 = .int .i64 i ∧ s6 = .int .i64 j ∧ j ≤ n ∧ Hid (Kept (fun x => !p x) L dk i j) ∧ wr.ownsRow base 75 1 (.slice (some ⟨gg, 0, none⟩) n c) n (flat encPz dk) ∧ Hid (OnlyE w wr (fun k => (Value.slice (some ⟨gg, 0, none⟩) n c).ownBlock = some k))) (fun _ s6 _ _ => n - (intOf s6).toNat)
    case atStart => exact ⟨k, k + 1, L, rfl, by go_num, by omega, hK, H1.out, HO1⟩
    case round =>
      clear hK H1 HO1 hlt hbs
      obtain ⟨i, j, dk, rfl, rfl, hjn, hK, hown, HO⟩ := hrel
      have hij : i < j := hK.out.lt
      have hdl : dk.length = n := by rw [hK.out.len, HL.out]
      have hgl : gg < wr.heap.size := (hown.lt gg rfl).2
      by_cases hlt : j < n
      · have hjl : j < L.length := by rw [HL.out]; exact hlt
        have hjd : j < dk.length := by rw [hdl]; exact hlt
        have hcall := HP.out wr HO.out L[j] (List.getElem_mem hjl)
        have c0 : wr.cell? ⟨gg, j, none⟩ = some dk[j].ptr := by rw [hown.cellAt _ (by omega)]; exact pz_at hjd
        rw [hK.out.at_ hjl] at c0
        have HD := Lib.hid hdl
        have HOW := Lib.hid hown
        clear hdl hown hjd
        generalize hpb : p L[j] = pb at hcall
        have HPB := Lib.hid hpb
        unfold Pz.ptr at c0 hcall
        generalize hvp : L[j].p = pp at c0 hcall
        have HVP : Hid (L[j].ptr = .pointer (some ⟨pp, 0, none⟩)) := by unfold Pz.ptr; rw [hvp]; rfl
        clear hpb hvp
        go_wp2_with fail
        go_at_fn gf
        refine hcall.mono ?_
        rintro e w2 ⟨rfl, hbw⟩
        have hO2 := own_below HOW.out hbw
        have HO2 := Lib.hid (HO.out.trans (OnlyE.of_below hbw))
        have hgl2 : gg < w2.heap.size := Nat.lt_of_lt_of_le hgl hbw.size
        clear hbw HOW HO hcall
        cases pb with
        | true =>
          have H2 := Lib.hid hO2
          clear hO2
          go_wp2
          go_roundw
          case rel => exact ⟨i, j + 1, dk, rfl, by go_num, by omega, hK.out.skip hjl (by simp [HPB.out]), H2.out, HO2⟩
          case measure => simp [intOf]; omega
        | false =>
          have hid : i < dk.length := by rw [HD.out]; omega
          have o0 : w2.cell? ⟨gg, i, none⟩ = some dk[i].ptr := by rw [hO2.cellAt _ (by omega)]; exact pz_at hid
          have f0 := hO2.frozenAt i
          generalize dk[i].ptr = ov at o0
          have H2 := Lib.hid hO2
          clear hO2
          go_wp2
          go_roundw
          case rel =>
            refine ⟨i + 1, j + 1, dk.set i L[j], by go_num, by go_num, by omega, hK.out.keep hjl (by simp [HPB.out]), ?_, ?_⟩
            · have s2 := (H2.out.stored i (.pointer (some ⟨pp, 0, none⟩))).1
              rw [← HVP.out, pz_set dk i L[j] hid, HVP.out] at s2
              exact s2
            · exact HO2.out.trans (onlyE_set (D := fun k => (Value.slice (some ⟨gg, 0, none⟩) n c).ownBlock = some k) rfl i _)
          case measure => simp [intOf]; omega
      · obtain rfl : j = n := by omega
        have hcn : j ≤ c := by
          obtain ⟨_, _, hv, h1, _⟩ := own_sliceK hown
          injection hv with _ _ e3
          omega
        obtain ⟨w3, hcl, hown3, hg3⟩ := clear_own (k := 1) (ty := 0) (i := i) Tryd.underlying62 Tryd.zeroValue75 rfl (by simp [Value.cells, Value.oneCell']) (by decide) hij (c - i) hown
        rw [flat_take encPz_len dk i (by omega), hK.out.front, ← HL.out, List.take_length] at hown3
        rw [Nat.mul_one] at hcl
        have hlen : (L.filter fun x => !p x).length = i := by
          have := congrArg List.length hK.out.front
          rw [List.length_take, ← HL.out, List.take_length] at this
          omega
        have HO3 := Lib.hid hown3
        have HLEN := Lib.hid hlen
        have HOO := Lib.hid (HO.out.trans (OnlyE.of_grown (D := fun k => (Value.slice (some ⟨gg, 0, none⟩) j c).ownBlock = some k) hg3 rfl))
        clear hown hown3 hlen hK hdl hg3 HO
        go_wp2
        go_ret
        exact ⟨i, rfl, HLEN.out.symm, HO3.out, HOO.out⟩

end Go.Proofs.YthkongnjokmmfaaDoor
