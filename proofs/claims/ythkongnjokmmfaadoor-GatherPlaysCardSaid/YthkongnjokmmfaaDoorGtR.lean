/- Stage 13: ids held against each other; slices.IndexFunc at parts; find. -/
import Derived.Test.YthkongnjokmmfaaDoorGtQ
set_option maxRecDepth 20000
namespace Go.Proofs.YthkongnjokmmfaaDoor
open Go.RowKit Go.Sort

theorem eqlId (x y : Id) (w : World) : (binOp .eql 25 (.agg #[.int .u8 (x.f : Int), .int .u64 (x.s : Int)]) (.agg #[.int .u8 (y.f : Int), .int .u64 (y.s : Int)])).run Tryd.prog w = .ok (.bool (decide (x = y))) w := by
  have u5 := Tryd.underlying5
  have a5 := Tryd.isAgg5
  have z5 := Tryd.sizeOf5
  have u22 := Tryd.underlying23
  have a22 := Tryd.isAgg23
  have z22 := Tryd.sizeOf23
  have hS : Tryd.prog.underlying 25 = some (.struct (Tryd.prog.fieldsOf 25)) := by kernel_rfl
  have hp : Tryd.prog.stoodInHeld 25 = false := by kernel_rfl
  have he : decide (x = y) = (decide (x.f = y.f) && decide (x.s = y.s)) := by
    rw [Bool.eq_iff_iff]
    simp only [Bool.and_eq_true, decide_eq_true_eq]
    exact ⟨fun h => by subst h; exact ⟨rfl, rfl⟩, fun h => Id.same h.1 h.2⟩
  rw [he, run_eql_struct, show (10000 : Nat) = 9999 + 1 from rfl, run_equalIn_agg w 9999 25 _ _ hS hp]
  simp only [Program.fieldsOf, Tryd.underlying25]
  go_simp
  by_cases h1 : x.f = y.f <;> by_cases h2 : x.s = y.s <;> simp [h1, h2] <;> omega

/-- Where the first one is for which p holds, or -1. -/
def fIdx (p : Pz → Bool) (L : List Pz) : Int := if L.findIdx p < L.length then ((L.findIdx p : Nat) : Int) else -1
theorem fIdx_yes {p : Pz → Bool} {L : List Pz} {k : Nat} (hk : k < L.length) (h : p L[k] = true) (h0 : ∀ j, (hj : j < k) → p (L[j]'(by omega)) = false) : fIdx p L = (k : Int) := by
  have e : L.findIdx p = k := (List.findIdx_eq hk).2 ⟨h, h0⟩
  unfold fIdx
  rw [e, if_pos hk]
theorem fIdx_no {p : Pz → Bool} {L : List Pz} (h0 : ∀ j, (hj : j < L.length) → p L[j] = false) : fIdx p L = -1 := by
  unfold fIdx
  rw [if_neg]
  intro h
  have := List.findIdx_getElem (w := h)
  rw [h0 _ h] at this
  simp at this

set_option maxHeartbeats 800000 in
theorem indexPz_any {X : Nat → Prop} (p : Pz → Bool) (gf : Nat) (lb : Array Value) (eg : ∀ args w, (callFunc gf args).run Tryd.prog w = .ok (.enter gf args) w) (A : Option Addr) (n c : Nat) (L : List Pz) (w : World)
    (hp : ∀ W, OnlyE w W X → ∀ z ∈ L, Calls Tryd.prog gf (#[z.ptr] ++ lb) W fun e w' => e = .returned (.bool (p z)) ∧ RowKit.Below W.heap.size W w') (hl : L.length = n) (hn : n ≤ 1000000) (h : Lies w w.heap.size A (flat encPz L)) :
    Calls Tryd.prog 45 #[.slice A n c, .func (.func gf) #[] lb] w fun e w' => e = .returned (.int .i64 (fIdx p L)) ∧ RowKit.Below w.heap.size w w' := by
  have HL := Lib.hid hl
  have HP := Lib.hid hp
  have HLI := Lib.hid h
  clear hl hp h
  go_enter Tryd.func45, Tryd.ntmps45
  go_wp2
  go_loopw [5, 8] (fun _ i wr => ∃ k : Nat, k ≤ n ∧ i = .int .i64 k ∧ RowKit.Below w.heap.size w wr ∧ Hid (∀ j, (hj : j < L.length) → j < k → p L[j] = false)) (fun _ i _ => n - (intOf i).toNat)
  case atStart => exact ⟨0, Nat.zero_le _, rfl, Below.refl _ _, fun j _ h => absurd h (Nat.not_lt_zero _)⟩
  case round =>
    obtain ⟨k, hk, rfl, hb, hK⟩ := hrel
    by_cases hlt : k < n
    · have hk1 : k < L.length := by rw [HL.out]; exact hlt
      have hcall := HP.out wr (OnlyE.of_below hb) L[k] (List.getElem_mem hk1)
      have hK' : Hid (p L[k] = false → ∀ j, (hj : j < L.length) → j < k + 1 → p L[j] = false) := fun hq j hj h => by
        by_cases e : j = k
        · subst e; exact hq
        · exact hK.out j hj (by omega)
      have hF : Hid (p L[k] = true → fIdx p L = (k : Int)) := fun hq => fIdx_yes hk1 hq fun j hj => hK.out j (by omega) hj
      obtain ⟨bb, off, rfl, hbl, c0⟩ := Lies.pz (HLI.out.later hb) hk1
      generalize L[k].ptr = vp at c0 hcall
      generalize hq : p L[k] = b at hcall hK' hF
      have HB := Lib.hid hb
      clear hK hq hb
      cases b with
      | true =>
        go_wp2_with (go_at_fn gf; refine hcall.mono ?_; rintro e w' ⟨rfl, hb'⟩)
        have HB' := Lib.hid hb'
        clear hb'
        go_wp2
        go_ret
        exact ⟨by rw [hF.out (by simp)]; rfl, HB.out.trans (HB'.out.mono HB.out.size)⟩
      | false =>
        go_wp2_with (go_at_fn gf; refine hcall.mono ?_; rintro e w' ⟨rfl, hb'⟩)
        have HB' := Lib.hid hb'
        clear hb'
        go_wp2
        go_roundw
        case rel => exact ⟨k + 1, by omega, by go_num, HB.out.trans (HB'.out.mono HB.out.size), hK'.out (by simp)⟩
        case measure => simp [intOf]; omega
    · have hF : Hid (fIdx p L = -1) := fIdx_no fun j hj => hK.out j hj (by have := HL.out; omega)
      go_wp2
      go_ret
      exact ⟨by rw [hF.out]; rfl, hb⟩

/-! ### find -/
theorem OnlyE.cell {w w' : World} {D : Nat → Prop} (h : OnlyE w w' D) {b : Nat} (hb : b < w.heap.size) (hD : ¬ D b) {i : Nat} : w'.cell? ⟨b, i, none⟩ = w.cell? ⟨b, i, none⟩ := by
  have := h.same b hb hD
  simp only [World.cell?, this]

theorem idxP_find : ∀ (L : List Pz) (x : Id), idxP (L.map Pz.x) x = L.findIdx fun z => decide (z.x.id = x)
  | [], _ => rfl
  | z :: r, x => by
    rw [List.findIdx_cons, List.map_cons, idxP, idxP_find r x]
    by_cases e : z.x.id = x
    · rw [if_pos e]; simp [e]
    · rw [if_neg e]; simp [e]

theorem findF_any {k : Nat} {z : Pz} {b : Nat} {x : Id} {W : World} (h : PartAt W k z) (h0 : W.cell? ⟨b, 0, none⟩ = some (.int .u8 (x.f : Int))) (h1 : W.cell? ⟨b, 1, none⟩ = some (.int .u64 (x.s : Int))) :
    Calls Tryd.prog 47 #[z.ptr, .pointer (some ⟨b, 0, none⟩)] W fun e w' => e = .returned (.bool (decide (z.x.id = x))) ∧ RowKit.Below W.heap.size W w' := by
  have he := fun W' => eqlId z.x.id x W'
  have hgd := guardId
  have c1 := h.c1
  have c2 := h.c2
  unfold Pz.ptr
  generalize decide (z.x.id = x) = q at he ⊢
  clear h
  go_enter Tryd.func47, Tryd.ntmps47
  go_wp2_with fail
  go_quiet (fail)
  go_wp2
  go_ret
  exact ⟨rfl, below_drewN (RowKit.Below.refl _ _) _⟩


/-- The pointer to the part of an id; nil, if there is none. -/
def ptrOf (L : List Pz) (x : Id) : Value := if h : idxP (L.map Pz.x) x < L.length then L[idxP (L.map Pz.x) x].ptr else .pointer none

section
variable {w : World} {base gp : Nat} {T : Value} {L : List Pz} {g : Gm} {D : Nat → Prop}
set_option maxHeartbeats 800000 in
theorem find_any (h : GtAt w base gp T L g D) (hwt : L.length ≤ 1000000) (x : Id) : Calls Tryd.prog 34 #[.pointer (some ⟨gp, 0, none⟩), valId x] w fun e w' => e = .returned (ptrOf L x) ∧ RowKit.Below w.heap.size w w' := by
  obtain ⟨A, c, rfl, hn, hc, -, hL⟩ := h.slice
  have eg : ∀ args w, (callFunc 47 args).run Tryd.prog w = .ok (.enter 47 args) w := enters_of Tryd.func47 (by kernel_rfl) rfl
  have HA : Hid (∀ W, RowKit.Below w.heap.size w W → Calls Tryd.prog 33 #[.pointer (some ⟨gp, 0, none⟩)] W fun e w' => e = .returned (.slice A L.length c) ∧ W = w') := fun W hW => all_any (h.on hW)
  have HC : Hid (∀ w0, RowKit.Below w.heap.size w w0 → w.heap.size < w0.heap.size → w0.cell? ⟨w.heap.size, 0, none⟩ = some (.int .u8 (x.f : Int)) → w0.cell? ⟨w.heap.size, 1, none⟩ = some (.int .u64 (x.s : Int)) →
      Calls Tryd.prog 45 #[.slice A L.length c, .func (.func 47) #[] #[.pointer (some ⟨w.heap.size, 0, none⟩)]] w0 fun e w' => e = .returned (.int .i64 (fIdx (fun z => decide (z.x.id = x)) L)) ∧ RowKit.Below w0.heap.size w0 w') := fun w0 hb hs h0 h1 =>
    indexPz_any (X := fun _ => False) _ _ #[.pointer (some ⟨w.heap.size, 0, none⟩)] eg A L.length c L w0 (fun W hW z hz => findF_any (((h.on hb).parts z hz).kept hW fun _ _ => id) ((hW.cell hs id).trans h0) ((hW.cell hs id).trans h1)) rfl hwt (hL.later hb)
  have hP : Hid (∀ W, RowKit.Below w.heap.size w W → ∀ i, (hi : i < L.length) → ∃ b off, A = some ⟨b, off, none⟩ ∧ b < W.heap.size ∧ W.cell? ⟨b, off + i, none⟩ = some L[i].ptr) := fun W hW i hi => Lies.pz (hL.later hW) hi
  have hcm : L.length ≤ 9223372036854775807 := by omega
  have hE : (fIdx (fun z => decide (z.x.id = x)) L = -1 ∧ ptrOf L x = .pointer none) ∨ ∃ k, ∃ hk : k < L.length, fIdx (fun z => decide (z.x.id = x)) L = (k : Int) ∧ ptrOf L x = L[k].ptr := by
    unfold fIdx ptrOf
    rw [← idxP_find]
    by_cases e : idxP (L.map Pz.x) x < L.length
    · right
      refine ⟨_, e, ?_, ?_⟩
      · rw [if_pos e]
      · rw [dif_pos e]
    · left
      rw [if_neg e, dif_neg e]
      exact ⟨rfl, rfl⟩
  clear h hL eg
  unfold valId
  generalize fIdx (fun z => decide (z.x.id = x)) L = fi at HC hE
  generalize ptrOf L x = vp at hE ⊢
  go_enter Tryd.func34, Tryd.ntmps34
  go_wp2_with fail
  generalize hw0 : World.alloc w _ = w0
  obtain ⟨hs0, hG, hcc⟩ := box1 w w0 _ _ hw0
  have hb0 : RowKit.Below w.heap.size w w0 := hG.below
  have HC1 := Lib.hid (HC.out w0 hb0 (by omega) (hcc 0 _ rfl) (hcc 1 _ rfl))
  refine (HA.out w0 hb0).mono ?_
  rintro e w1 ⟨rfl, rfl⟩
  clear HC HA hcc hw0 hG
  go_wp2_with fail
  refine HC1.out.mono ?_
  rintro e w1 ⟨rfl, hb1⟩
  have hb2 := Lib.hid (hb0.trans (hb1.mono hb0.size))
  clear HC1 hb1 hb0
  rcases hE with ⟨rfl, rfl⟩ | ⟨k, hk, rfl, rfl⟩
  · clear hP
    go_wp2
    go_ret
    exact ⟨rfl, hb2.out⟩
  · obtain ⟨b, off, rfl, hb, ce⟩ := hP.out w1 hb2.out k hk
    generalize hvk : L[k].ptr = vk at ce
    have HV := Lib.hid hvk
    clear hvk
    have hk0 : decide ((0 : Int) ≤ (k : Int)) = true := by simp
    clear hP
    go_wp2
    go_ret
    exact ⟨by rw [HV.out]; rfl, hb2.out⟩
end
theorem find_nil (x : Id) (w : World) : Calls Tryd.prog 34 #[.pointer none, valId x] w fun e w' => e = .returned (.pointer none) ∧ RowKit.Below w.heap.size w w' := by
  have eg : ∀ args w, (callFunc 47 args).run Tryd.prog w = .ok (.enter 47 args) w := enters_of Tryd.func47 (by kernel_rfl) rfl
  have HC : Hid (∀ w0 (lb : Array Value), Calls Tryd.prog 45 #[.slice none 0 0, .func (.func 47) #[] lb] w0 fun e w' => e = .returned (.int .i64 (-1)) ∧ RowKit.Below w0.heap.size w0 w') := fun w0 lb =>
    indexPz_any (X := fun _ => False) (fun _ => false) _ lb eg none 0 0 [] w0 (fun W hW z hz => by cases hz) rfl (by omega) Lies.nil
  clear eg
  unfold valId
  go_enter Tryd.func34, Tryd.ntmps34
  go_wp2_with fail
  generalize hw0 : World.alloc w _ = w0
  obtain ⟨hs0, hG, hcc⟩ := box1 w w0 _ _ hw0
  have hb0 : RowKit.Below w.heap.size w w0 := hG.below
  refine (all_nil _).mono ?_
  rintro e w1 ⟨rfl, rfl⟩
  clear hcc hw0 hG
  go_wp2_with fail
  refine (HC.out _ _).mono ?_
  rintro e w1 ⟨rfl, hb1⟩
  have hb2 := Lib.hid (hb0.trans (hb1.mono hb0.size))
  clear HC hb1 hb0
  go_wp2
  go_ret
  exact ⟨rfl, hb2.out⟩

end Go.Proofs.YthkongnjokmmfaaDoor
