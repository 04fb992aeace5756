/- The walk of the document's own Has. -/
import Derived.Test.YtoihikeeaobemaaIdHas
namespace Go.Proofs.Ytoihikeeaobemaa
open Go.RowKit Go.Sort

theorem hasB_true {x : Id} {l : List Rn} {r : Rn} (hr : r ∈ l) (h1 : runB r = true) (h2 : r.f = x.f) (h3 : r.a ≤ x.s) (h4 : x.s ≤ lastN r) : hasB x l = true := by
  rw [lastN_is h1] at h4
  have := (runB_iff r).1 h1
  exact (hasB_iff x l).2 ⟨r, hr, h1, h2, h3, by omega⟩

/-- No one of the first k has it. -/
def HasNot (x : Id) (l : List Rn) (k : Nat) : Prop := ∀ r ∈ l.take k, ¬ (runB r = true ∧ r.f = x.f ∧ r.a ≤ x.s ∧ x.s ≤ lastN r)

theorem HasNot.next {x : Id} {l : List Rn} {k : Nat} (h : HasNot x l k) (hk : k < l.length) (h1 : ¬ (runB l[k] = true ∧ l[k].f = x.f ∧ l[k].a ≤ x.s ∧ x.s ≤ lastN l[k])) : HasNot x l (k + 1) := fun r hr => by
  rw [List.take_succ_eq_append_getElem hk, List.mem_append] at hr
  rcases hr with h2 | h2
  · exact h r h2
  · simp at h2; subst h2; exact h1

theorem hasB_false {x : Id} {l : List Rn} (h : HasNot x l l.length) : hasB x l = false := by
  rw [Bool.eq_false_iff, Ne, hasB_iff]
  rintro ⟨r, hr, h1, h2, h3, h4⟩
  rw [HasNot, List.take_length] at h
  refine h r hr ⟨h1, h2, h3, ?_⟩
  rw [lastN_is h1]
  have := (runB_iff r).1 h1
  omega

set_option maxHeartbeats 1600000 in
theorem refHas_any (x : Id) (A : Option Addr) (n c : Nat) (l : List Rn) (w : World) (hl : l.length = n) (hn : n ≤ 1000) (h : Lies w w.heap.size A (flat encRn l)) :
    Calls Try.prog 18 #[valId x, .slice A n c] w fun e w' => e = .returned (.bool (hasB x l)) ∧ RowKit.Below w.heap.size w w' := by
  have mixed := mixedOrders
  have HL := Lib.hid hl
  clear hl
  unfold valId
  go_enter Try.func18, Try.ntmps18
  go_wp2
  generalize hw0 : World.alloc w _ = w0
  obtain ⟨hs0, hG, hcc⟩ := box1 w w0 _ _ hw0
  have i0 := hcc 0 _ rfl
  have i1 := hcc 1 _ rfl
  have hb00 := hG.below
  have h0 := h.below hb00
  clear hcc hw0 hG h
  go_loopw [5, 8] (fun _ i wr => ∃ k : Nat, k ≤ n ∧ i = .int .i64 k ∧ RowKit.Below w0.heap.size w0 wr ∧ w0.heap.size ≤ wr.heap.size ∧ Hid (HasNot x l k)) (fun _ i _ => n - (intOf i).toNat)
  case atStart => exact ⟨0, Nat.zero_le _, rfl, RowKit.Below.refl _ _, Nat.le_refl _, fun r hr => by simp at hr⟩
  case round =>
    obtain ⟨k, hk, rfl, hb1, hsz, hK⟩ := hrel
    have hb : RowKit.Below w.heap.size w wr := hb00.trans (hb1.mono hb00.size)
    by_cases hlt : k < n
    · have hkl : k < l.length := by rw [HL.out]; exact hlt
      obtain ⟨bb, off, rfl, hbl, c0, c1, c2⟩ := (h0.below (hb1.mono hb00.size)).rn hkl
      have K1 : Hid (runB l[k] = true → l[k].f = x.f → l[k].a ≤ x.s → x.s ≤ lastN l[k] → hasB x l = true) := fun h1 h2 h3 h4 => hasB_true (List.getElem_mem hkl) h1 h2 h3 h4
      have K2 : Hid (¬ (runB l[k] = true ∧ l[k].f = x.f ∧ l[k].a ≤ x.s ∧ x.s ≤ lastN l[k]) → HasNot x l (k + 1)) := fun h1 => hK.out.next hkl h1
      generalize l[k] = r at c0 c1 c2 K1 K2
      have hbw : bb < wr.heap.size := Nat.lt_of_lt_of_le hbl hb.size
      have x0 := later_cell (w0 := wr) (b := bb) hbw c0
      have x1 := later_cell (w0 := wr) (b := bb) hbw c1
      have x2 := later_cell (w0 := wr) (b := bb) hbw c2
      have y0 := later_cell (w0 := wr) (b := w.heap.size) (by omega) ((hb1.cell (p := ⟨w.heap.size, _, none⟩) (by show w.heap.size < w0.heap.size; omega)).trans i0)
      have y1 := later_cell (w0 := wr) (b := w.heap.size) (by omega) ((hb1.cell (p := ⟨w.heap.size, _, none⟩) (by show w.heap.size < w0.heap.size; omega)).trans i1)
      clear c0 c1 c2 i0 i1 hK
      have hR0 := fun W => refRun_lit r W
      generalize runB r = rb at hR0 K1 K2
      cases rb with
      | false =>
        have HN : Hid (HasNot x l (k + 1)) := K2.out (by simp)
        clear K1 K2
        go_wp2_with fail
        refine wp_region_later mixed (by kernel_rfl) ?_
        repeat (go_big_quiet_step (first | (go_at_call 14; exact later_grew (hR0 _)) | (go_at_call 30; exact later_grew (refLast_lit r _))))
        refine wpQuiet_nil ?_
        intro _ hw'
        obtain ⟨p, rfl⟩ := hw'
        have hbp : RowKit.Below w.heap.size w p.w := hb.trans (p.hb.mono hb.size)
        go_wp2
        go_roundw
        case rel => exact ⟨k + 1, by omega, by go_num, hb1.trans (p.hb.mono hb1.size), Nat.le_trans hsz p.hb.size, HN⟩
        case measure => simp [intOf]; omega
      | true =>
        by_cases hA : r.f = x.f
        · have z1 : ((r.f : Int) == (x.f : Int)) = true := beq_iff_eq.2 (by omega)
          by_cases hB : r.a ≤ x.s
          · have z2 : decide (r.a ≤ x.s) = true := decide_eq_true hB
            by_cases hC : x.s ≤ lastN r
            · have z3 : decide (x.s ≤ lastN r) = true := decide_eq_true hC
              have HR : Hid (hasB x l = true) := K1.out rfl hA hB hC
              have HA := Lib.hid hA
              clear K1 K2 hA
              go_wp2_with fail
              refine wp_region_later mixed (by kernel_rfl) ?_
              repeat (go_big_quiet_step (first | (go_at_call 14; exact later_grew (hR0 _)) | (go_at_call 30; exact later_grew (refLast_lit r _))))
              refine wpQuiet_nil ?_
              intro _ hw'
              obtain ⟨p, rfl⟩ := hw'
              have hbp : RowKit.Below w.heap.size w p.w := hb.trans (p.hb.mono hb.size)
              go_wp2
              go_ret
              rw [HR.out]
              exact ⟨rfl, hbp⟩
            · have z3 : decide (x.s ≤ lastN r) = false := decide_eq_false hC
              have HN : Hid (HasNot x l (k + 1)) := K2.out (fun h => hC h.2.2.2)
              have HA := Lib.hid hA
              clear K1 K2 hA
              go_wp2_with fail
              refine wp_region_later mixed (by kernel_rfl) ?_
              repeat (go_big_quiet_step (first | (go_at_call 14; exact later_grew (hR0 _)) | (go_at_call 30; exact later_grew (refLast_lit r _))))
              refine wpQuiet_nil ?_
              intro _ hw'
              obtain ⟨p, rfl⟩ := hw'
              have hbp : RowKit.Below w.heap.size w p.w := hb.trans (p.hb.mono hb.size)
              go_wp2
              go_roundw
              case rel => exact ⟨k + 1, by omega, by go_num, hb1.trans (p.hb.mono hb1.size), Nat.le_trans hsz p.hb.size, HN⟩
              case measure => simp [intOf]; omega
          · have z2 : decide (r.a ≤ x.s) = false := decide_eq_false hB
            have HN : Hid (HasNot x l (k + 1)) := K2.out (fun h => hB h.2.2.1)
            have HA := Lib.hid hA
            clear K1 K2 hA
            go_wp2_with fail
            refine wp_region_later mixed (by kernel_rfl) ?_
            repeat (go_big_quiet_step (first | (go_at_call 14; exact later_grew (hR0 _)) | (go_at_call 30; exact later_grew (refLast_lit r _))))
            refine wpQuiet_nil ?_
            intro _ hw'
            obtain ⟨p, rfl⟩ := hw'
            have hbp : RowKit.Below w.heap.size w p.w := hb.trans (p.hb.mono hb.size)
            go_wp2
            go_roundw
            case rel => exact ⟨k + 1, by omega, by go_num, hb1.trans (p.hb.mono hb1.size), Nat.le_trans hsz p.hb.size, HN⟩
            case measure => simp [intOf]; omega
        · have z1 : ((r.f : Int) == (x.f : Int)) = false := beq_eq_false_iff_ne.2 (by omega)
          have HN : Hid (HasNot x l (k + 1)) := K2.out (fun h => hA h.2.1)
          clear K1 K2
          go_wp2_with fail
          refine wp_region_later mixed (by kernel_rfl) ?_
          repeat (go_big_quiet_step (first | (go_at_call 14; exact later_grew (hR0 _)) | (go_at_call 30; exact later_grew (refLast_lit r _))))
          refine wpQuiet_nil ?_
          intro _ hw'
          obtain ⟨p, rfl⟩ := hw'
          have hbp : RowKit.Below w.heap.size w p.w := hb.trans (p.hb.mono hb.size)
          go_wp2
          go_roundw
          case rel => exact ⟨k + 1, by omega, by go_num, hb1.trans (p.hb.mono hb1.size), Nat.le_trans hsz p.hb.size, HN⟩
          case measure => simp [intOf]; omega
    · have HR : Hid (hasB x l = false) := hasB_false (by have : k = l.length := by rw [HL.out]; omega
                                                         rw [this] at hK; exact hK.out)
      go_wp2
      go_ret
      rw [HR.out]
      exact ⟨rfl, hb⟩

end Go.Proofs.Ytoihikeeaobemaa
