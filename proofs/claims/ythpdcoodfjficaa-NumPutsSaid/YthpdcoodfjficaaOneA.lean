/- The walk of NumOne. -/
import Derived.Test.YthpdcoodfjficaaNumG
import Derived.Test.YthpdcoodfjficaaNumH
import Derived.Deep.RegionWith
namespace Go.Proofs.Ythpdcoodfjficaa
open Go.RowKit

theorem Try.info28 : (Try.prog.info? 28).map (fun i => (i.zero, i.size, i.bytes)) = some (some (.int .u64 0), 1, 8) := by kernel_rfl

def sliceLen : Value → Nat
  | .slice _ n _ => n
  | _ => 0

/-- What holds at the head of NumOne's loop: ns have been read, rest stands before the reader. -/
def OneRel (w : World) (U g : Nat) (l : List UInt8) (ns : List Nat) (rest : List UInt8) (er : Nat) (A : Option Addr) (k c : Nat) (wr : World) : Prop :=
  wr.ownsRow U 28 1 (.slice A k c) k (uvs ns) ∧ Rd wr w.heap.size U g rest er ∧ Below w.heap.size w wr ∧ Hid (ns.length = k) ∧ (∀ x ∈ ns, x < 18446744073709551616) ∧
    (er = 0 → encs ns ++ rest = l ∧ k + rest.length ≤ l.length) ∧ k ≤ 301

theorem RdAt.drew {w : World} {base hi g er n c : Nat} {l : List UInt8} {A : Option Addr} (h : RdAt w base hi g l er A n c) : RdAt w.drew base hi g l er A n c := h
theorem Lies.drew {w : World} {B : Nat} {A : Option Addr} {xs : List Value} (h : Lies w B A xs) : Lies w.drew B A xs := h

/-- What string(b) gives in every world in which b has not turned. -/
def Keeps (w : World) (A : Option Addr) (n c : Nat) (l : List UInt8) : Prop := ∀ W : World, Below w.heap.size w W → (convert 22 9 (.slice A n c)).run Try.prog W = .ok (.string (str l)) W

theorem keeps_of {w : World} {A : Option Addr} {n c : Nat} {l : List UInt8} (hl : l.length = n) (h : Lies w w.heap.size A (bvs l)) : Keeps w A n c l := fun _ hb =>
  strs_of hl (h.below hb) c

/-- Put's answer, and how string() reads it. -/
theorem put_str {w w' : World} {l : List UInt8} {e : Ending} (h : Owned w w.heap.size (bvs l) e w') : ∃ A n c, e = .returned (.slice A n c) ∧ Strs w' A n l ∧ Below w.heap.size w w' := by
  obtain ⟨A, n, c, rfl, hn, _, _, ho, hb⟩ := h
  exact ⟨A, n, c, rfl, strs_of (by have := hn.out; rwa [bvs_length] at this) (Lies.of_own ho), hb⟩

theorem OneRel.start {w w2 : World} {g : Nat} {l : List UInt8} (hR : Rd w2 w.heap.size w2.heap.size g l 0) (hb : Below w.heap.size w w2) :
    OneRel w w2.heap.size g l [] l 0 (some ⟨w2.heap.size, 0, none⟩) 0 0 (w2.alloc (.cells #[] 28)) := by
  refine ⟨World.ownsRow_lit w2 #[] 0 (Nat.le_refl _) (Nat.zero_le _) rfl, hR.below ((Below.refl _ _).alloc (Nat.le_refl _) _), hb.alloc hb.size _, rfl, by simp, fun _ => ⟨rfl, by simp⟩, by omega⟩

/-- The reader's step keeps the row of numbers. -/
theorem own_took {w w1 : World} {U g : Nat} {v : Value} {e : TypeId} {k : Nat} {xs : List Value} (h : w.ownsRow U e 1 v k xs) (hg : w.grownBy w1 (some g)) (hlt : g < U) : w1.ownsRow U e 1 v k xs :=
  h.kept hg (by
    rcases hv : v.ownBlock with _ | b
    · exact .inl rfl
    · refine .inr (fun e => ?_)
      have := (h.lt b hv).1
      injection e with e
      omega)

theorem rnum_cases (l : List UInt8) (most : Nat) : (rnum l 0 most).2.2 ≠ 0 ∧ (rnum l 0 most).1 = 0 ∨ ∃ m, rnum l 0 most = (m, l.drop (rd l most).2.1, 0) ∧ l = enc m ++ l.drop (rd l most).2.1 ∧ 0 < (rd l most).2.1 ∧ (rd l most).2.1 ≤ l.length ∧ m ≤ most := by
  by_cases h : (rd l most).2.2 = 0
  · refine .inr ⟨(rd l most).1, by simp [rnum, h], ?_⟩
    rcases hrd : rd l most with ⟨m, s, z⟩
    rw [hrd] at h
    simp only at h
    subst h
    exact rd_enc hrd
  · exact .inl (by simp [rnum, h])

theorem OneRel.step {w wr w1 w2 : World} {U g k c k2 c2 : Nat} {l : List UInt8} {ns : List Nat} {rest : List UInt8} {A A2 : Option Addr} {o : Obj} (h : OneRel w U g l ns rest 0 A k c wr) (hk : k ≤ 300)
    (hR : Rd w1 w.heap.size U g (rnum rest 0 18446744073709551615).2.1 (rnum rest 0 18446744073709551615).2.2) (hg : wr.grownBy w1 (some g))
    (ho : w2.ownsRow U 28 1 (.slice A2 k2 c2) k2 (uvs ns ++ [.int .u64 ((rnum rest 0 18446744073709551615).1 : Int)])) (hk2 : k2 = k + 1) (hb : Below U (w1.alloc o) w2) :
    ∃ ns' rest' er', OneRel w U g l ns' rest' er' A2 k2 c2 w2 := by
  subst hk2
  obtain ⟨h1, h2, h3, h4, h5, h6, h7⟩ := h
  obtain ⟨hg1, hg2, hg3⟩ := hR.lt
  have hsz := h3.size
  refine ⟨ns ++ [(rnum rest 0 18446744073709551615).1], _, _, ?_, hR.below (((Below.refl _ _).alloc hg3 _).trans hb), ?_, ?_, ?_, ?_, by omega⟩
  · have e : uvs (ns ++ [(rnum rest 0 18446744073709551615).1]) = uvs ns ++ [.int .u64 ((rnum rest 0 18446744073709551615).1 : Int)] := by simp [uvs, uv]
    rw [e]; exact ho
  · have hsg := hg.size
    exact ((h3.trans (below_of_grown hg hg1 hsz)).alloc (by omega) _).trans (hb.mono (by omega))
  · show (ns ++ [_]).length = k + 1
    have := h4.out
    simp [this]
  · intro x hx
    rw [List.mem_append] at hx
    rcases hx with hx | hx
    · exact h5 x hx
    · simp at hx
      subst hx
      rcases rnum_cases rest 18446744073709551615 with ⟨_, h0⟩ | ⟨m, hm, _, _, _, hle⟩
      · rw [h0]; omega
      · rw [hm]; show m < _; omega
  · intro hz
    rcases rnum_cases rest 18446744073709551615 with ⟨h0, _⟩ | ⟨m, hm, heq, hs0, hsl, hle⟩
    · exact absurd hz h0
    · obtain ⟨e1, e2⟩ := h6 rfl
      rw [hm]
      refine ⟨?_, ?_⟩
      · rw [encs_append]
        simp only [encs, List.append_nil]
        rw [List.append_assoc, ← heq]
        exact e1
      · simp only [List.length_drop]; omega

set_option maxHeartbeats 800000 in
theorem numOne_walk (A : Option Addr) (n c : Nat) (l : List UInt8) (w : World) (hl : l.length = n) (hn : n ≤ 300) (h : Lies w w.heap.size A (bvs l)) :
    Calls Try.prog 6 #[.slice A n c] w fun e w' => e = .returned (.bool true) ∧ Below w.heap.size w w' := by
  obtain ⟨i0, hi, hz0, hz1, hz2⟩ := info_parts Try.info28
  have HL := Lib.hid hl
  clear hl
  have hd : decide (300 < (n : Int)) = false := by simp; omega
  go_enter Try.func6, Try.ntmps6
  go_wp2_with (go_at_call 15; refine (new_any A n c l _ HL.out (by omega) h).mono ?_; rintro e w2 ⟨g, rfl, hR2, hb2⟩)
  have hS := OneRel.start hR2 hb2
  generalize w2.heap.size = U at hS
  clear hR2 hb2
  go_loopw [4] (fun v wr => ∃ A k c ns rest er, v = .slice A k c ∧ OneRel w U g l ns rest er A k c wr) (fun v _ => 302 - sliceLen v)
  case atStart => exact ⟨_, _, _, _, _, _, rfl, hS⟩
  case round =>
    obtain ⟨A1, k, c1, ns, rest, er, rfl, hO⟩ := hrel
    obtain ⟨h1, ⟨A3, n3, c3, h2⟩, h3, h4, h5, h6, h7⟩ := id hO
    have HO := Lib.hid hO
    have H6 := Lib.hid h6
    have H5 := Lib.hid h5
    have hr3 := h2.2.2.1
    clear hO h6 h5 hS
    by_cases hgo : 0 < n3 ∧ er = 0
    · obtain ⟨hn3, rfl⟩ := hgo
      have hk : k ≤ 300 := by have := (H6.out rfl).2; have := hr3.out; have := HL.out; omega
      go_wp2_with (first
        | (go_at_call 21; refine (left_any h2).mono ?_; rintro e w' ⟨rfl, rfl⟩)
        | (go_at_call 20; refine (err_any h2).mono ?_; rintro e w' ⟨rfl, rfl⟩)
        | (go_at_call 19; refine (num_any 18446744073709551615 ⟨_, _, _, h2⟩).mono ?_; rintro e w1 ⟨rfl, hR1, hg1⟩)
        | (at_builtin; refine wpList_append_lst rfl _ _ 23 rfl U 28 i0 (.int .u64 0) 8 Try.underlying23 hi hz0 hz1 hz2 rfl _ _ _ rfl ((own_took h1 hg1 h2.lt).alloc _) _ _ 1 _ _ rfl ?d0 (lies_new _ _ _) ?d1 ?d2 ?d3 ?d4 ?_))
      case d1 => rfl
      case d2 => unfold maxLen; omega
      case d3 => omega
      case d4 => have := hR1.lt; simp; omega
      intro v2 w3 hown2 hg2 hb3 _
      obtain ⟨A2, c2, hv2, _, _⟩ := own_slice hown2
      subst hv2
      go_wp2
      go_roundw
      case rel =>
        obtain ⟨ns', rest', er', hS'⟩ := HO.out.step hk hR1 hg1 hown2 rfl hb3
        exact ⟨_, _, _, _, _, _, rfl, hS'⟩
      case measure => simp [sliceLen]; omega
    · by_cases her : er = 0
      · subst her
        have hn0 : n3 = 0 := by omega
        subst hn0
        have hrest : rest = [] := List.eq_nil_of_length_eq_zero hr3.out
        subst hrest
        have he := (H6.out rfl).1
        rw [List.append_nil] at he
        have HE := Lib.hid he
        clear he hgo
        have hHE : Hid (endOf 0 0 = 0) := rfl
        have hnsz : ns.length ≤ 301 := by have := h4.out; omega
        go_wp2_with (first
          | (go_at_call 21; refine (left_any h2).mono ?_; rintro e w' ⟨rfl, rfl⟩)
          | (go_at_call 20; refine (err_any h2).mono ?_; rintro e w' ⟨rfl, rfl⟩))
        have hK : Keeps w A n c l := keeps_of HL.out h
        have hLu : Lies wr wr.heap.size A1 (uvs ns) := Lies.of_own h1
        unfold Keeps at hK
        have hbd : Below w.heap.size w wr.drew := h3.drew
        go_region_with (first
          | (go_at_call 22; refine (end_any h2.drew).mono ?_; rw [hHE.out]; rintro e w' ⟨rfl, rfl⟩)
          | (go_at_call 12; refine (put_any none A1 0 0 k c1 [] ns _ rfl (by decide) Lies.nil h4.out (by omega) hLu.drew H5.out).mono ?_; rw [List.nil_append, HE.out]; intro e w5 ho5; obtain ⟨A5, n5, c5, rfl, hs5, hb5⟩ := put_str ho5; unfold Strs at hs5; have hb6 := hbd.trans (hb5.mono hbd.size))
          | (go_at_call 9; refine (awake_any _).mono ?_; rintro e w7 ⟨rfl, hb7⟩))
        all_goals
          go_wp2
          go_ret
          exact ⟨rfl, hb6.trans (hb7.mono hb6.size)⟩
      · have hne : ((er : Int) != 0) = true := by simp; omega
        have hne2 : ((er : Int) == 0) = false := by simp; omega
        by_cases hn3 : 0 < n3
        all_goals
          go_wp2_with (first
            | (go_at_call 21; refine (left_any h2).mono ?_; rintro e w' ⟨rfl, rfl⟩)
            | (go_at_call 20; refine (err_any h2).mono ?_; rintro e w' ⟨rfl, rfl⟩)
            | (go_at_call 9; refine (awake_any _).mono ?_; rintro e w' ⟨rfl, hb⟩))
          go_ret
          exact ⟨rfl, h3.trans (hb.mono h3.size)⟩

end Go.Proofs.Ythpdcoodfjficaa
