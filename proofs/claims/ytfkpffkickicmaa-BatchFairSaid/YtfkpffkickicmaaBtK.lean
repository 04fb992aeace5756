/- The base behind a batch: what it is, and the walks of After (batch) and of the document's After. -/
import Derived.Test.YtfkpffkickicmaaBtG
namespace Go.Proofs.Ytfkpffkickicmaa
open Go.RowKit Go.Sort

def addC (b : List Nat) (x : Rn) : List Nat := b.set x.f (num b x.f + x.c)
def addTo (base : List Nat) (l : List Rn) (k : Nat) : List Nat := (l.take k).foldl addC base
noncomputable def afterL (base : List Nat) (l : List Rn) : List Nat := if batB base 4096 l = true then addTo base l l.length else base

theorem addC_length (b : List Nat) (x : Rn) : (addC b x).length = b.length := by simp [addC]
theorem addTo_zero (base : List Nat) (l : List Rn) : addTo base l 0 = base := rfl
theorem addTo_next {l : List Rn} {k : Nat} (base : List Nat) (h : k < l.length) : addTo base l (k + 1) = addC (addTo base l k) l[k] := by
  unfold addTo
  rw [List.take_succ_eq_append_getElem h, List.foldl_append]
  rfl
theorem addTo_length (base : List Nat) (l : List Rn) (k : Nat) : (addTo base l k).length = base.length := by
  unfold addTo
  generalize l.take k = t
  induction t generalizing base with
  | nil => rfl
  | cons x t ih => rw [List.foldl_cons, ih, addC_length]
theorem num_set (b : List Nat) (i v j : Nat) : num (b.set i v) j = if i = j ∧ j < b.length then v else num b j := by
  unfold num
  rw [List.getD_eq_getElem?_getD, List.getD_eq_getElem?_getD, List.getElem?_set]
  by_cases h : i = j
  · subst h
    by_cases h2 : i < b.length
    · simp [h2]
    · simp [h2]
  · simp [h]
theorem num_addC (b : List Nat) (x : Rn) (j : Nat) : num (addC b x) j = if x.f = j ∧ j < b.length then num b j + x.c else num b j := by
  unfold addC
  rw [num_set]
  split
  · next h => rw [h.1]
  · rfl
theorem num_other : ∀ (t : List Rn) (b : List Nat) (j : Nat), (∀ x ∈ t, x.f ≠ j) → num (t.foldl addC b) j = num b j
  | [], _, _, _ => rfl
  | x :: t, b, j, h => by
    rw [List.foldl_cons, num_other t _ j (fun y hy => h y (List.mem_cons_of_mem _ hy)), num_addC, if_neg]
    exact fun hh => h x (List.mem_cons_self ..) hh.1

theorem BatchTo.rising {base : List Nat} {l : List Rn} {m : Nat} (h : BatchTo base l m) : ∀ (j i : Nat), i < j → j < m → (hj : j < l.length) → (hi : i < l.length) → l[i].f < l[j].f
  | 0, i, hij, _, _, _ => absurd hij (by omega)
  | j + 1, i, hij, hjm, hj, hi => by
    have h1 := (h (j + 1) hjm hj).2 (by omega)
    by_cases e : i = j
    · subst e; exact h1
    · exact Nat.lt_trans (h.rising j i (by omega) (by omega) (by omega) hi) h1

theorem addTo_num {base : List Nat} {l : List Rn} {m k : Nat} (h : BatchTo base l m) (hk : k < l.length) (hm : k < m) : num (addTo base l k) l[k].f = num base l[k].f := by
  unfold addTo
  refine num_other _ _ _ fun x hx => ?_
  obtain ⟨i, hi, rfl⟩ := List.mem_iff_getElem.1 hx
  have hik : i < k := by rw [List.length_take] at hi; omega
  rw [List.getElem_take]
  exact Nat.ne_of_lt (h.rising k i hik hm hk (by omega))

/-- What the step of a batch is, in all its forms. -/
theorem batch_step {base : List Nat} {l : List Rn} {k : Nat} (h : batB base 4096 l = true) (hk : k < l.length) :
    l[k].f < base.length ∧ num (addTo base l k) l[k].f + l[k].c ≤ 4611686018427387904 ∧ lastN l[k] = num (addTo base l k) l[k].f + l[k].c := by
  have h1 := (batB_iff _ _ _).1 h
  have h2 := (standsB_iff _ _).1 (h1.1 k hk hk).1
  have h3 := (runB_iff _).1 h2.1
  rw [addTo_num h1.1 hk hk, lastN_is h2.1]
  refine ⟨h2.2.1, ?_, ?_⟩ <;> omega

set_option maxHeartbeats 1600000 in
theorem after_any (A : Option Addr) (n c : Nat) (base : List Nat) (A2 : Option Addr) (n2 c2 : Nat) (l : List Rn) (w : World) (hn : n ≤ 1000) (hl : base.length = n) (h : Lies w w.heap.size A (uvs base)) (hu : ∀ x ∈ base, x < 18446744073709551616)
    (hn2 : n2 ≤ 1000) (hl2 : l.length = n2) (h2 : Lies w w.heap.size A2 (flat encRn l)) :
    Calls Try.prog 8 #[.slice A n c, .slice A2 n2 c2] w (OwnedV w w.heap.size (afterL base l)) := by
  have hcl := clone_any A n c base w hl hn h
  have HMY : Hid (∀ W, RowKit.Below w.heap.size w W → Calls Try.prog 11 #[.slice A n c, .int .i64 4096, .slice A2 n2 c2] W fun e w' => e = .returned (.bool (batB base 4096 l)) ∧ RowKit.Below W.heap.size W w') :=
    fun W hW => mayB_any A n c base 4096 A2 n2 c2 l W hn hl (h.on hW) hu hn2 hl2 (h2.on hW)
  generalize hO : afterL base l = O
  have HO : Hid (O = if batB base 4096 l = true then addTo base l l.length else base) := by rw [← hO]; rfl
  have HST : Hid (batB base 4096 l = true → ∀ k (hk : k < l.length), l[k].f < base.length ∧ num (addTo base l k) l[k].f + l[k].c ≤ 4611686018427387904) := fun hb k hk => ⟨(batch_step hb hk).1, (batch_step hb hk).2.1⟩
  generalize batB base 4096 l = B at HMY HO HST
  have HL := Lib.hid hl
  have HL2 := Lib.hid hl2
  clear hO hl hl2 hu h
  go_enter Try.func8, Try.ntmps8
  go_wp2_with fail
  refine hcl.mono ?_
  rintro e w1 ⟨A1, n1, c1, rfl, hn1, hc1, hc2, hown, hb1⟩
  have e1 : n1 = n := by rw [← hn1.out]; exact HL.out
  subst e1
  clear hcl hn1
  go_wp2_with fail
  refine (HMY.out w1 hb1).mono ?_
  rintro e w2 ⟨rfl, hb2⟩
  have hown2 := own_below hown hb2
  have hb12 : RowKit.Below w.heap.size w w2 := hb1.trans (hb2.mono hb1.size)
  clear HMY hown hb1 hb2
  cases B with
  | false =>
    have HR : Hid (O = base) := by show O = _; rw [HO.out]; rfl
    have H2 := Lib.hid hown2
    clear hown2
    go_wp2
    go_ret
    rw [HR.out]
    exact OwnedV.of H2.out hb12
  | true =>
    have HR : Hid (O = addTo base l l.length) := by show O = _; rw [HO.out]; rfl
    have HS2 := Lib.hid (HST.out rfl)
    clear HST HO
    have H2 := Lib.hid hown2
    clear hown2
    go_wp2
    go_loopw [7, 15] (fun _ s15 wr => ∃ k : Nat, k ≤ n2 ∧ s15 = .int .i64 k ∧ RowKit.Below w.heap.size w wr ∧ wr.ownsRow w.heap.size 40 1 (.slice A1 n1 c1) n1 (uvs (addTo base l k))) (fun _ s15 _ => n2 - (intOf s15).toNat)
    case atStart => exact ⟨0, Nat.zero_le _, rfl, hb12, H2.out⟩
    case round =>
      clear H2 hb12
      obtain ⟨k, hk, rfl, hb, hown⟩ := hrel
      by_cases hlt : k < n2
      · have hkl : k < l.length := by rw [HL2.out]; exact hlt
        obtain ⟨bb, off, rfl, hbl, c0, c1', c2'⟩ := (h2.below hb).rn hkl
        obtain ⟨hfn, hsum⟩ := HS2.out k hkl
        have HNX := Lib.hid (addTo_next base hkl)
        have hlen : (addTo base l k).length = n1 := by rw [addTo_length]; exact HL.out
        generalize l[k] = x at c0 c1' c2' hfn hsum HNX
        generalize addTo base l k = b at hown hsum HNX hlen
        have hfn' : x.f < b.length := by rw [hlen, ← HL.out]; exact hfn
        have hfn1 : x.f < n1 := by rw [← hlen]; exact hfn'
        have hown0 := own_below hown ((RowKit.Below.refl _ _).alloc (Nat.le_refl _) (.cells #[.int .u8 (x.f : Int), .int .u64 (x.a : Int), .int .u64 (x.c : Int)] 43))
        obtain ⟨gg, cap, hv, hbg, hgl⟩ := hown.form (by omega)
        obtain ⟨rfl, rfl⟩ : A1 = some ⟨gg, 0, none⟩ ∧ c1 = cap := by injection hv with e1 _ e3; exact ⟨e1, e3⟩
        have hcell := hown0.cellAt x.f (by omega)
        rw [uvs_at hfn'] at hcell
        have hfr := hown0.frozenAt x.f
        rw [num_in hfn'] at hsum
        have HNX2 : Hid (addTo base l (k + 1) = b.set x.f (b[x.f] + x.c)) := by show _ = _; rw [HNX.out, addC, num_in hfn']
        have hb0 : RowKit.Below w.heap.size w (wr.alloc (.cells #[.int .u8 (x.f : Int), .int .u64 (x.a : Int), .int .u64 (x.c : Int)] 43)) := hb.alloc hb.size _
        generalize b[x.f] = y at hcell hsum HNX2
        have es : IntKind.u64.wrap ((y : Int) + (x.c : Int)) = ((y + x.c : Nat) : Int) := by rw [IntKind.wrap_u64]; omega
        have HLN := Lib.hid hlen
        clear hv HNX hown hfn hlen
        go_wp2_with fail
        generalize hw0 : World.alloc wr _ = w0 at hown0 hcell hfr hb0 ⊢
        obtain ⟨hs0, hG, hcc⟩ := box1 wr w0 _ _ hw0
        have x0 := hcc 0 _ rfl
        have x1 := hcc 1 _ rfl
        have x2 := hcc 2 _ rfl
        generalize y + x.c = z at es HNX2
        have H0 := Lib.hid hown0
        have hfz : (x.f : Int) < (n1 : Int) := by omega
        clear hw0 hG hcc hown0 hs0
        go_region
        all_goals
          go_wp2
          go_roundw
          case rel =>
            refine ⟨k + 1, by omega, by go_num, ?_, ?_⟩
            · exact (belowN hb0).setCell (p := ⟨gg, _, none⟩) hbg _
            · rw [HNX2.out, uvs_set]
              exact (H0.out.stored x.f (.int .u64 (z : Int))).1
          case measure => simp [intOf]; omega
      · have hkk : k = l.length := by rw [HL2.out]; omega
        rw [hkk, ← HR.out] at hown
        have HM := Lib.hid hown
        clear hown hkk
        go_wp2
        go_ret
        exact OwnedV.of HM.out hb

end Go.Proofs.Ytfkpffkickicmaa
