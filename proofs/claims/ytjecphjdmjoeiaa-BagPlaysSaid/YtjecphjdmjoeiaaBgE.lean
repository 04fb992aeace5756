/- Take: the thing at a place, which goes. -/
import Derived.Test.YtjecphjdmjoeiaaBgD
namespace Go.Proofs.Ytjecphjdmjoeiaa
open Go.RowKit Go.Sort

/-- Take's answer, where there is a thing. -/
def Took (w : World) (base p room lost : Nat) (l' : List Th) (D : Nat → Prop) (b : List UInt8) (e : Ending) (w' : World) : Prop :=
  ∃ A n c T', e = .returned (.tuple #[.slice A n c, .bool true]) ∧ Hid (b.length = n) ∧ n ≤ c ∧ c ≤ maxLen ∧ w'.ownsRow w.heap.size 5 1 (.slice A n c) n (bvs b) ∧ BagAt w' base p T' room lost l' D ∧ OnlyE w w' D

theorem flat_erase (l : List Th) (i : Nat) (hi : i < l.length) : (flat encTh l).take (i * 2) ++ (flat encTh l).drop ((i + 1) * 2) = flat encTh (l.eraseIdx i) := by
  rw [List.eraseIdx_eq_take_drop_succ, flat_append, flat_take encTh_len l i (by omega), flat_drop encTh_len l (i + 1) hi]

section
variable {w : World} {base p : Nat} {T : Value} {room lost : Nat} {l : List Th} {D : Nat → Prop}

theorem BagAt.erased {w1 : World} {g c i : Nat} (h : BagAt w base p (.slice (some ⟨g, 0, none⟩) l.length c) room lost l D) (hi : i < l.length)
    (ho : w1.ownsRow base 64 2 (.slice (some ⟨g, 0, none⟩) (l.length - 1) c) (l.length - 1) ((flat encTh l).take (i * 2) ++ (flat encTh l).drop ((i + 1) * 2))) (hg : w.grownBy w1 (some g)) :
    BagAt (w1.setCell ⟨p, 0, none⟩ (.slice (some ⟨g, 0, none⟩) (l.length - 1) c)) base p (.slice (some ⟨g, 0, none⟩) (l.length - 1) c) room lost (l.eraseIdx i) D ∧
      OnlyE w (w1.setCell ⟨p, 0, none⟩ (.slice (some ⟨g, 0, none⟩) (l.length - 1) c)) D ∧ w1.cell? ⟨p, 0, none⟩ = some (.slice (some ⟨g, 0, none⟩) l.length c) ∧ w1.frozen? ⟨p, 0, none⟩ = false := by
  have hDg : D g := h.dt g rfl
  have hpg : p ≠ g := fun e => h.ne_row (g := g) rfl e.symm
  have ho1 : OnlyE w w1 (fun k => (Value.slice (some ⟨g, 0, none⟩) l.length c).ownBlock = some k) := OnlyE.of_grown hg rfl
  have hbl : w1.heap[p]? = w.heap[p]? := hg.block p h.plt (by intro e; injection e with e; exact hpg e)
  refine ⟨?_, ?_, (World.cell?_of_block (a := ⟨p, 0, none⟩) hbl).trans h.c0, (World.frozen?_of_block (a := ⟨p, 0, none⟩) hbl).trans (h.fr 0)⟩
  · rw [flat_erase l i hi] at ho
    have hle : (l.eraseIdx i).length = l.length - 1 := by rw [List.length_eraseIdx, if_pos hi]
    refine h.setRow ho1 (by rw [hle]; exact ho) (fun x hx => .inl (List.mem_of_mem_eraseIdx hx)) ?_ (fun _ => id) (fun b hb => ?_) (fun b hb => ?_) (fun b hb => ⟨(h.din b hb).1, Nat.lt_of_lt_of_le (h.din b hb).2 hg.size⟩) ?_
    · exact h.dis.sublist ((List.eraseIdx_sublist l i).filterMap _)
    · injection hb with hb; subst hb; exact hDg
    · exact h.db b (((List.eraseIdx_sublist l i).filterMap _).subset hb)
    · have := h.fit; omega
  · exact (OnlyE.of_grown hg hDg).trans (onlyE_set h.dp 0 _)

set_option maxHeartbeats 800000 in
theorem take_any (h : BagAt w base p T room lost l D) (i : Nat) (hi : i < l.length) : Calls Try.prog 17 #[.pointer (some ⟨p, 0, none⟩), .int .i64 (i : Int)] w (Took w base p room lost (l.eraseIdx i) D l[i].b) := by
  have hlk := look_any h i hi
  have hn := Nat.le_trans h.fit h.room2
  obtain ⟨g, c, rfl, -, -, -, -, -⟩ := h.thing hi
  obtain ⟨A0, c0', hT, hnc, hcm⟩ := h.slice
  obtain rfl : c = c0' := by injection hT
  clear hT
  have HDL : Hid (∀ b, D b → b < w.heap.size) := fun b hb => (h.din b hb).2
  have H := Lib.hid h
  clear h
  go_enter Try.func17, Try.ntmps17
  go_wp2_with fail
  refine hlk.mono ?_
  rintro e w1 ⟨A1, n1, c1, rfl, hn1, h1, h2, ho1, hb1⟩
  have h' := H.out.on hb1
  have hd := delete_any g l.length c base i (flat encTh l) w1 hi hnc hcm hn h'.one h'.ths
  have c0 := h'.c0
  have H1 := Lib.hid h'
  have HO := Lib.hid ho1
  have HB := Lib.hid hb1
  clear H hlk h' ho1 hb1
  go_wp2_with fail
  refine hd.mono ?_
  rintro e w2 ⟨rfl, ho2, hg2⟩
  obtain ⟨hR, hO, d0, f0⟩ := H1.out.erased hi ho2 hg2
  have HR := Lib.hid hR
  have HE := Lib.hid hO
  clear hR hO ho2 hg2 hd c0
  generalize l.length - 1 = m at d0 f0 HR HE
  go_wp2
  go_ret2
  have hE : OnlyE w _ D := (OnlyE.of_below HB.out).trans HE.out
  refine ⟨A1, n1, c1, _, rfl, hn1, h1, h2, ?_, HR.out, hE⟩
  refine own_only HO.out HE.out fun b hb hDb => ?_
  have h3 := (HO.out.lt b hb).1
  have h4 := HDL.out b hDb
  omega

theorem take_none (h : BagAt w base p T room lost l D) (i : Int) (hi : ¬ (0 ≤ i ∧ i < l.length)) : Calls Try.prog 17 #[.pointer (some ⟨p, 0, none⟩), .int .i64 i] w fun e w' => e = .returned (.tuple #[.slice none 0 0, .bool false]) ∧ w' = w := by
  have hh := look_none h i hi
  clear h
  go_enter Try.func17, Try.ntmps17
  go_wp2_with (go_at_call 14; refine hh.mono ?_; rintro e w' ⟨rfl, rfl⟩)
  go_ret2
  exact ⟨rfl, rfl⟩
end

end Go.Proofs.Ytjecphjdmjoeiaa
