/- The document's example (awake). -/
import Derived.Test.YtjecphjdmjoeiaaBgKa
namespace Go.Proofs.Ytjecphjdmjoeiaa
open Go.RowKit Go.Sort

theorem LiesX.at_block {w : World} {D : Nat → Prop} {g : Nat} {cs : Array Value} {t : TypeId} {fr : Nat × Nat} {xs : List Value} (hg : w.heap[g]? = some (.cells cs t fr)) (hD : ¬ D g) (hx : cs.toList = xs) : LiesX w D (some ⟨g, 0, none⟩) xs := fun _ => by
  subst hx
  refine ⟨g, 0, rfl, (Array.getElem?_eq_some_iff.1 hg).1, hD, fun i u hu => ?_⟩
  rw [Nat.zero_add, cell_of_row w g i cs t fr hg]
  simpa using hu
theorem BytX.at_block {w : World} {D : Nat → Prop} {g n : Nat} {cs : Array Value} {t : TypeId} {fr : Nat × Nat} {l : List UInt8} (hg : w.heap[g]? = some (.cells cs t fr)) (hD : ¬ D g) (hx : cs.toList = bvs l) (hn : l.length = n) (hm : n ≤ 1000) : BytX w D (.slice (some ⟨g, 0, none⟩) n n) l :=
  ⟨_, _, _, rfl, hn, Nat.le_refl _, by unfold maxLen; omega, LiesX.at_block hg hD hx⟩
theorem rowsX_one {w : World} {D : Nat → Prop} {v : Value} {l : List UInt8} (h : BytX w D v l) : RowsX w D [v] [l] := ⟨rfl, fun i _ _ => by
  rcases i with _ | i
  · exact h
  · rename_i h _; simp at h⟩
theorem rowsX_two {w : World} {D : Nat → Prop} {v1 v2 : Value} {l1 l2 : List UInt8} (h1 : BytX w D v1 l1) (h2 : BytX w D v2 l2) : RowsX w D [v1, v2] [l1, l2] := ⟨rfl, fun i _ _ => by
  rcases i with _ | _ | i
  · exact h1
  · exact h2
  · rename_i h _; simp at h; omega⟩

theorem alloc3_blocks (w : World) (o1 o2 o3 : Obj) {W : World} (hW : ((w.alloc o1).alloc o2).alloc o3 = W) :
    W.heap[w.heap.size]? = some o1 ∧ W.heap[w.heap.size + 1]? = some o2 ∧ W.heap[w.heap.size + 1 + 1]? = some o3 ∧ RowKit.Below w.heap.size w W := by
  subst hW
  have hb : RowKit.Below w.heap.size w (((w.alloc o1).alloc o2).alloc o3) := ((((RowKit.Below.refl _ _).alloc (Nat.le_refl _) _).alloc (by simp) _).alloc (by simp; omega) _)
  refine ⟨((heap_alloc_old _ _ (by simp; omega)).trans (heap_alloc_old _ _ (by simp))).trans (heap_alloc_new _ _), ?_, ?_, hb⟩
  · have h : (((w.alloc o1).alloc o2).alloc o3).heap[(w.alloc o1).heap.size]? = some o2 := (heap_alloc_old _ _ (by simp)).trans (heap_alloc_new (w.alloc o1) o2)
    simpa using h
  · have := heap_alloc_new ((w.alloc o1).alloc o2) o3
    simpa using this

abbrev exX : Array Value := #[Value.int IntKind.u8 120]
abbrev exY : Array Value := #[Value.int IntKind.u8 121]

set_option maxHeartbeats 800000 in
theorem awake_any (w : World) : Calls Try.prog 8 #[] w fun e w' => e = .returned (.bool true) ∧ RowKit.Below w.heap.size w w' := by
  have kc := conv_const
  have hN := new_any 1 w w.heap.size (Nat.le_refl _) (by decide) (by decide)
  rw [show roomN 1 = 1 by decide] at hN
  go_enter Try.func8, Try.ntmps8
  go_wp2_with fail
  refine hN.mono ?_
  rintro e w1 ⟨rfl, hB, hb1⟩
  have HB := Lib.hid hB
  have HB1 := Lib.hid hb1
  have hsz : w.heap.size < w1.heap.size := hB.plt
  clear hB hb1 hN
  go_wp2_with fail
  clear kc
  generalize hW : World.alloc _ (.cells #[Value.slice _ _ _, Value.slice _ _ _] 30) = W
  obtain ⟨k1, k2, k3, hb⟩ := alloc3_blocks w1 _ _ _ hW
  have hrows : RowsX W (fun k => k = w.heap.size) [Value.slice (some ⟨w1.heap.size, 0, none⟩) 1 1, Value.slice (some ⟨w1.heap.size + 1, 0, none⟩) 1 1] [[120], [121]] :=
    rowsX_two (BytX.at_block k1 (by omega) rfl rfl (by decide)) (BytX.at_block k2 (by omega) rfl rfl (by decide))
  have hA : LiesX W (fun k => k = w.heap.size) (some ⟨w1.heap.size + 1 + 1, 0, none⟩) [Value.slice (some ⟨w1.heap.size, 0, none⟩) 1 1, Value.slice (some ⟨w1.heap.size + 1, 0, none⟩) 1 1] := LiesX.at_block k3 (by omega) rfl
  have hP : Calls Try.prog 15 #[.pointer (some ⟨w.heap.size, 0, none⟩), .slice (some ⟨w1.heap.size + 1 + 1, 0, none⟩) 2 2] W fun e w' => e = .returned (.int .i64 1) ∧ PutIn W w.heap.size w.heap.size 1 1 [] (fun k => k = w.heap.size) [([120], false)] w' := put_any (HB.out.on hb) (some ⟨w1.heap.size + 1 + 1, 0, none⟩) 2 2 _ _ rfl (by decide) (by decide) (by decide) hA hrows (by simp)
  have HB2 : Hid (RowKit.Below w.heap.size w W) := HB1.out.trans (hb.mono HB1.out.size)
  have HBW := Lib.hid (HB.out.on hb)
  clear hA hrows hb hW k1 k2 k3
  refine hP.mono ?_
  rintro e w2 ⟨rfl, T2, l2, D2, hB2, hpl, ho, hd, -⟩
  have hl1 : l2.length = 1 := by have := congrArg List.length hpl; simpa using this
  obtain ⟨x, rfl⟩ := List.length_eq_one_iff.1 hl1
  have hxb : x.b = [120] := by
    simp [Th.pl] at hpl
    exact hpl.1
  have hT := take_any hB2 0 (by simp)
  have HO : Hid (RowKit.Below w.heap.size w w2) := HB2.out.trans (ho.below (fun k hk => by omega) HB2.out.size)
  have HDB : Hid (∀ b, D2 b → w.heap.size ≤ b) := fun b hb => by
    have h1 := HB2.out.size
    rcases hd b hb with h2 | h2
    · omega
    · omega
  simp only [List.getElem_cons_zero, hxb] at hT
  clear hP hB2 ho hd hpl hl1 hxb HB1 HB2 HB HBW
  go_wp2_with fail
  refine hT.mono ?_
  rintro e w3 ⟨A3, n3, c3, T3, rfl, hn3, -, -, ho3, hB3, ho4⟩
  obtain rfl : n3 = 1 := hn3.out.symm
  have HB4 : Hid (RowKit.Below w.heap.size w w3) := HO.out.trans (ho4.below (fun k hk => HDB.out k hk) HO.out.size)
  have hcv := strs_of (W := w3) (n := 1) (l := [120]) rfl (Lies.of_own ho3) c3
  have hlo := lost_any hB3
  have hst : ((str [120]).toList == [120]) = true := by kernel_rfl
  clear ho3 hB3 ho4 hT HO HDB
  go_wp2_with (go_at_call 13; refine hlo.mono ?_; rintro e w' ⟨rfl, rfl⟩)
  go_ret
  exact ⟨rfl, HB4.out⟩

end Go.Proofs.Ytjecphjdmjoeiaa
