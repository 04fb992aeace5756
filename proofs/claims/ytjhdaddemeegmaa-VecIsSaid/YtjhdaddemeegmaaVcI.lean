/- The walk of the document's Set. -/
import Derived.Test.YtjhdaddemeegmaaVcE
namespace Go.Proofs.Ytjhdaddemeegmaa
open Go.RowKit

/-- The length that a slice has. -/
def lenOfV : Value → Nat
  | .slice _ n _ => n
  | _ => 0

theorem grown_snoc (l : List Nat) (j : Nat) : l ++ List.replicate (j + 1) 0 = (l ++ List.replicate j 0) ++ [0] := by
  rw [List.replicate_succ', List.append_assoc]

set_option maxHeartbeats 1600000 in
theorem refSet_nat (A : Option Addr) (n c k x : Nat) (l : List Nat) (w : World) (hn : n ≤ 500) (hk : k < 64) (hl : l.length = n) (h : Lies w w.heap.size A (uvs l)) :
    Calls Try.prog 12 #[.slice A n c, .int .i64 (k : Int), .int .u64 (x : Int)] w (OwnedV w w.heap.size (setL l k x)) := by
  have HL := Lib.hid hl
  have HY : Hid ((uvs (longL l k)).set k (.int .u64 (x : Int)) = uvs (setL l k x)) := by
    show _ = _
    unfold setL
    rw [uvs_set]
  have HZ : Hid (k < (uvs (longL l k)).length) := by
    show _ < _
    rw [uvs_length, longL_length]
    omega
  have HW : Hid (∀ j, j = k + 1 - n → l ++ List.replicate j 0 = longL l k) := fun j hj => by subst hj; unfold longL; rw [HL.out]
  clear hl
  go_enter Try.func12, Try.ntmps12
  go_wp2_with (at_builtin; refine wpList_anew rfl (.tmp 8) (.tmp 9) rfl rfl A n c _ l rfl HL.out h (Nat.le_refl _) (by omega) ?_)
  intro v1 w1 hown hb1
  obtain ⟨A1, c1, rfl, _, _⟩ := own_slice hown
  have HO := Lib.hid hown
  clear hown h
  go_wp2
  go_loopw [7] (fun v wr => ∃ (j : Nat) (A7 : Option Addr) (c7 : Nat), v = .slice A7 (n + j) c7 ∧ j ≤ k + 1 - n ∧ wr.ownsRow w.heap.size 23 1 v (n + j) (uvs (l ++ List.replicate j 0)) ∧ Below w.heap.size w wr) (fun v _ => 1000 - lenOfV v)
  case atStart => exact ⟨0, A1, c1, rfl, Nat.zero_le _, by simpa using HO.out, hb1⟩
  case round =>
    obtain ⟨j, A7, c7, rfl, hj, hown, hb⟩ := hrel
    by_cases hlt : n + j < k + 1
    · have HS := Lib.hid (grown_snoc l j)
      generalize l ++ List.replicate j 0 = L at hown HS
      go_wp2_with (at_builtin; refine wpList_push rfl (.tmp 23) (.tmp 24) rfl w.heap.size (n + j) L 0 _ rfl rfl hown (by omega) hb.size ?_)
      intro v2 w2 hown2 hb2
      rw [← HS.out] at hown2
      obtain ⟨A2, c2, rfl, _, _⟩ := own_slice hown2
      have HO2 := Lib.hid hown2
      clear hown2 hown
      go_wp2
      go_roundw
      case rel => exact ⟨j + 1, A2, c2, rfl, by omega, HO2.out, hb.trans hb2⟩
      case measure => simp [lenOfV]; omega
    · have hw := HW.out j (by omega)
      rw [hw] at hown
      obtain ⟨g, cap, hv, _, hlt2⟩ := hown.form (by omega)
      injection hv with e1 e2 e3
      subst e1 e3
      have d1 := hown.cellAt k (by omega)
      have d2 := hown.frozenAt k
      have hbase : w.heap.size ≤ g := (hown.lt g rfl).1
      have hst := hown.stored k (.int .u64 (x : Int))
      rw [HY.out] at hst
      obtain ⟨hown3, hg3⟩ := hst
      have hb3 : Below w.heap.size w (wr.setCell ⟨g, k, none⟩ (.int .u64 (x : Int))) := hb.grown hg3 hb.size (fun q hq => by injection hq with hq; omega)
      rw [List.getElem?_eq_getElem (HZ.out)] at d1
      generalize (uvs (longL l k))[k]'(HZ.out) = old at d1
      have HO3 := Lib.hid hown3
      clear hown hown3 hg3 hw
      go_wp2
      go_ret
      exact OwnedV.of HO3.out hb3

theorem refSet_any (A : Option Addr) (n c : Nat) (i : Int) (x : Nat) (l : List Nat) (w : World) (hn : n ≤ 500) (hl : l.length = n) (h : Lies w w.heap.size A (uvs l)) :
    Calls Try.prog 12 #[.slice A n c, .int .i64 i, .int .u64 (x : Int)] w (OwnedV w w.heap.size (setI l i x)) := by
  by_cases h0 : i < 0
  · have e : setI l i x = l := by unfold setI; rw [if_neg (by omega)]
    rw [e]
    clear e
    go_enter Try.func12, Try.ntmps12
    go_wp2_with (at_builtin; refine wpList_anew rfl (.tmp 8) (.tmp 9) rfl rfl A n c _ l rfl hl h (Nat.le_refl _) (by omega) ?_)
    intro v1 w1 hown hb1
    have HO := Lib.hid hown
    clear hown h
    go_wp2
    go_ret
    exact OwnedV.of HO.out hb1
  · by_cases h64 : i < 64
    · obtain ⟨k, rfl⟩ : ∃ k : Nat, i = (k : Int) := ⟨i.toNat, by omega⟩
      have e : setI l (k : Int) x = setL l k x := by unfold setI; rw [if_pos (by omega)]; rfl
      rw [e]
      exact refSet_nat A n c k x l w hn (by omega) hl h
    · have e : setI l i x = l := by unfold setI; rw [if_neg (by omega)]
      rw [e]
      clear e
      go_enter Try.func12, Try.ntmps12
      go_wp2_with (at_builtin; refine wpList_anew rfl (.tmp 8) (.tmp 9) rfl rfl A n c _ l rfl hl h (Nat.le_refl _) (by omega) ?_)
      intro v1 w1 hown hb1
      have HO := Lib.hid hown
      clear hown h
      go_wp2
      go_ret
      exact OwnedV.of HO.out hb1

end Go.Proofs.Ytjhdaddemeegmaa
