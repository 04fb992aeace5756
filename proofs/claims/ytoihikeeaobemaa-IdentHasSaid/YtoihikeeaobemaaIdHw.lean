/- The walk of IdentHas. -/
import Derived.Test.YtoihikeeaobemaaIdN
import Derived.Test.YtoihikeeaobemaaIdK
import Derived.Test.YtoihikeeaobemaaIdY
namespace Go.Proofs.Ytoihikeeaobemaa
open Go.RowKit Go.Sort

def metB (x : Id) (L : List Id) (k : Nat) : Bool := (L.take k).any fun y => decide (y = x)

theorem metB_next {x : Id} {L : List Id} {k : Nat} (h : k < L.length) : metB x L (k + 1) = (metB x L k || decide (L[k] = x)) := by
  unfold metB
  rw [List.take_succ_eq_append_getElem h, List.any_append]
  simp

theorem metB_end {x : Id} {l : List Rn} (h : badB l = false) {k : Nat} (hk : k = (listOf l).length) : metB x (listOf l) k = hasB x l := by
  unfold metB
  rw [hk, List.take_length, Bool.eq_iff_iff, ← mem_listOf h, List.any_eq_true]
  constructor
  · rintro ⟨y, hy, he⟩
    have : y = x := by simpa using he
    rwa [← this]
  · intro hx; exact ⟨x, hx, by simp⟩

theorem identHas_more (A : Option Addr) (n c : Nat) (x : Id) (w : World) (hn : 30 < n) :
    Calls Try.prog 7 #[.slice A n c, valId x] w fun e w' => e = .returned (.bool true) ∧ RowKit.Below w.heap.size w w' := by
  unfold valId
  go_enter Try.func7, Try.ntmps7
  go_wp2_with (go_at_call 8; refine (awake_any _).mono ?_; rintro e w' ⟨rfl, hb⟩)
  go_ret
  exact ⟨rfl, ((Grew.refl w).alloc _).below.trans (hb.mono (by simp))⟩

set_option maxHeartbeats 1600000 in
theorem identHas_walk (A : Option Addr) (n c : Nat) (l : List Rn) (x : Id) (w : World) (hl : l.length = n) (hn : n ≤ 30) (h : Lies w w.heap.size A (flat encRn l)) :
    Calls Try.prog 7 #[.slice A n c, valId x] w fun e w' => e = .returned (.bool true) ∧ RowKit.Below w.heap.size w w' := by
  have mixed := mixedOrders
  have hGd := guardId
  have hd : decide (30 < (n : Int)) = false := by simp; omega
  have hn1 : n ≤ 1000 := by omega
  have HL := Lib.hid hl
  clear hl
  unfold valId
  go_enter Try.func7, Try.ntmps7
  go_wp2_with fail
  generalize hw0 : World.alloc w _ = w0
  obtain ⟨hs0, hG, hcc⟩ := box1 w w0 _ _ hw0
  have b0 : w0.cell? ⟨w.heap.size, 0, none⟩ = some (.int .u8 (x.f : Int)) := hcc 0 _ rfl
  have b1 : w0.cell? ⟨w.heap.size, 1, none⟩ = some (.int .u64 (x.s : Int)) := hcc 1 _ rfl
  have hb0 := hG.below
  have hL0 := h.on hb0
  have hs1 : w.heap.size < w0.heap.size := by omega
  clear hcc hw0 hG h hs0
  refine (refRows_any A n c l w0 HL.out hn1 hL0).mono ?_
  rintro e w1 ⟨rfl, hb1⟩
  cases hrows : rowsB l with
  | false =>
    have hb01 : RowKit.Below w.heap.size w w1 := hb0.trans (hb1.mono hb0.size)
    clear b0 b1 hL0
    go_wp2_with (go_at_call 8; refine (awake_any _).mono ?_; rintro e w' ⟨rfl, hb⟩)
    go_ret
    exact ⟨rfl, hb01.trans (hb.mono hb01.size)⟩
  | true =>
    have hbad := Lib.hid (rows_bad ((rowsB_iff l).1 hrows))
    have hL1 := hL0.on hb1
    go_wp2_with fail
    refine (refCount_any A n c l w1 HL.out hn1 hL1).mono ?_
    rintro e w2 ⟨rfl, hb2⟩
    have hL2 := hL1.on hb2
    have hb02 : RowKit.Below w0.heap.size w0 w2 := hb1.trans (hb2.mono hb1.size)
    by_cases hc : 300 < cntN l
    · have hcz : (300 : Int) < (cntN l : Int) := by omega
      have hbw2 : RowKit.Below w.heap.size w w2 := hb0.trans (hb02.mono hb0.size)
      clear b0 b1 hL0 hL1 hL2
      go_wp2_with (go_at_call 8; refine (awake_any _).mono ?_; rintro e w' ⟨rfl, hb⟩)
      go_ret
      exact ⟨rfl, hbw2.trans (hb.mono hbw2.size)⟩
    · have hcz : decide ((300 : Int) < (cntN l : Int)) = false := decide_eq_false (by omega)
      have hcn : decide (300 < cntN l) = false := decide_eq_false hc
      have hli := list_any 300 A n c l w2 (by decide) (by decide) HL.out hn1 hL2
      have hlm : listM 300 l = listOf l := by
        unfold listM
        rw [if_neg]
        rw [hbad.out]
        simp
        omega
      rw [hlm] at hli
      have hlen := cnt_len hbad.out (M := 300) (by omega) (by omega)
      have hmem : Hid (∀ y ∈ listOf l, hasB y l = true ∧ mayB y = true) := fun y hy => ⟨(mem_listOf hbad.out y).1 hy, may_listOf hbad.out hy⟩
      have hend : Hid (∀ k, k = (listOf l).length → metB x (listOf l) k = hasB x l) := fun k hk => metB_end hbad.out hk
      have HC := Lib.hid hc
      clear hlm hc
      generalize listOf l = L at hli hlen hmem hend
      go_wp2_with fail
      refine hli.mono ?_
      rintro e w3 ⟨A3, n3, c3, rfl, hn3, _, _, hown3, hb3⟩
      have hLi := Lies.of_ownK hown3
      have hn3c : n3 = cntN l := by rw [← hn3.out]; exact hlen
      have hn3m : n3 ≤ 300 := by have := HC.out; omega
      have hL3 := hL2.on hb3
      have hb03 : RowKit.Below w0.heap.size w0 w3 := hb02.trans (hb3.mono hb02.size)
      have HN3 := Lib.hid hn3c
      clear hown3 hlen hli hL1 hL2 hL0 hb3 hb2 hb1 hb02 hn3c
      go_wp2
      go_loopw [6, 7] (fun s6 s7 wr => ∃ k : Nat, k ≤ n3 ∧ s7 = .int .i64 k ∧ s6 = .bool (metB x L k) ∧ RowKit.Below w3.heap.size w3 wr) (fun _ s7 _ => n3 - (intOf s7).toNat)
      case atStart => exact ⟨0, Nat.zero_le _, rfl, rfl, RowKit.Below.refl _ _⟩
      case round =>
        obtain ⟨k, hk, rfl, rfl, hbr⟩ := hrel
        have hb0r : RowKit.Below w0.heap.size w0 wr := hb03.trans (hbr.mono hb03.size)
        have hbwr : RowKit.Below w.heap.size w wr := hb0.trans (hb0r.mono hb0.size)
        by_cases hlt : k < n3
        · have hkl : k < L.length := by rw [hn3.out]; exact hlt
          obtain ⟨bb, off, rfl, hbl, c0, c1⟩ := (hLi.below hbr).id hkl
          have hbw : bb < wr.heap.size := Nat.lt_of_lt_of_le hbl hbr.size
          obtain ⟨hhas, hmay⟩ := hmem.out L[k] (List.getElem_mem hkl)
          have hnext := Lib.hid (metB_next (x := x) hkl)
          have hE := eqlId L[k] x
          generalize L[k] = y at c0 c1 hhas hmay hnext hE
          have y0 := later_cell (w0 := wr) (b := bb) hbw c0
          have y1 := later_cell (w0 := wr) (b := bb) hbw c1
          have x0 := later_cell (w0 := wr) (b := w.heap.size) (Nat.lt_of_lt_of_le hs1 hb0r.size) ((hb0r.cell (p := ⟨w.heap.size, _, none⟩) hs1).trans b0)
          have x1 := later_cell (w0 := wr) (b := w.heap.size) (Nat.lt_of_lt_of_le hs1 hb0r.size) ((hb0r.cell (p := ⟨w.heap.size, _, none⟩) hs1).trans b1)
          have khas := fun p : Later wr => has_any y A n c l p.w HL.out hn1 ((hL3.on hbr).on p.hb)
          have kmay := fun W : World => may_any y 64 W (by decide)
          rw [may64, hmay] at kmay
          rw [hhas] at khas
          unfold valId at khas kmay
          generalize hd2 : decide (y = x) = de at hE hnext
          clear hd2 c0 c1 hhas hmay
          generalize metB x L k = mt at hnext ⊢
          cases mt with
          | true =>
            go_wp2_with fail
            refine wp_region_later mixed (by kernel_rfl) ?_
            repeat (go_big_quiet_step (fail))
            refine wpQuiet_nil ?_
            intro _ hw'
            obtain ⟨p, rfl⟩ := hw'
            go_wp2_with fail
            refine (khas p).mono ?_
            rintro e w5 ⟨rfl, hb5⟩
            have hbr5 : RowKit.Below wr.heap.size wr w5 := p.hb.trans (hb5.mono p.hb.size)
            have z0 := y0 ⟨w5, hbr5⟩
            have z1 := y1 ⟨w5, hbr5⟩
            dsimp only at z0 z1
            clear x0 x1 y0 y1 khas
            go_wp2_with fail
            refine (kmay _).mono ?_
            rintro e w6 ⟨rfl, hg6⟩
            have hbr6 : RowKit.Below w3.heap.size w3 w6 := (hbr.trans (hbr5.mono hbr.size)).trans (hg6.below.mono (Nat.le_trans hbr.size hbr5.size))
            go_wp2
            go_roundw
            case rel => exact ⟨k + 1, by omega, by go_num, by rw [hnext.out]; rfl, hbr6⟩
            case measure => simp [intOf]; omega
          | false =>
            cases de with
            | true =>
              go_wp2_with fail
              refine wp_region_later mixed (by kernel_rfl) ?_
              repeat (go_big_quiet_step (fail))
              refine wpQuiet_nil ?_
              intro _ hw'
              obtain ⟨p, rfl⟩ := hw'
              go_wp2_with fail
              refine (khas p).mono ?_
              rintro e w5 ⟨rfl, hb5⟩
              have hbr5 : RowKit.Below wr.heap.size wr w5 := p.hb.trans (hb5.mono p.hb.size)
              have z0 := y0 ⟨w5, hbr5⟩
              have z1 := y1 ⟨w5, hbr5⟩
              dsimp only at z0 z1
              clear x0 x1 y0 y1 khas
              go_wp2_with fail
              refine (kmay _).mono ?_
              rintro e w6 ⟨rfl, hg6⟩
              have hbr6 : RowKit.Below w3.heap.size w3 w6 := (hbr.trans (hbr5.mono hbr.size)).trans (hg6.below.mono (Nat.le_trans hbr.size hbr5.size))
              go_wp2
              go_roundw
              case rel => exact ⟨k + 1, by omega, by go_num, by rw [hnext.out]; rfl, hbr6⟩
              case measure => simp [intOf]; omega
            | false =>
              go_wp2_with fail
              refine wp_region_later mixed (by kernel_rfl) ?_
              repeat (go_big_quiet_step (fail))
              refine wpQuiet_nil ?_
              intro _ hw'
              obtain ⟨p, rfl⟩ := hw'
              go_wp2_with fail
              refine (khas p).mono ?_
              rintro e w5 ⟨rfl, hb5⟩
              have hbr5 : RowKit.Below wr.heap.size wr w5 := p.hb.trans (hb5.mono p.hb.size)
              have z0 := y0 ⟨w5, hbr5⟩
              have z1 := y1 ⟨w5, hbr5⟩
              dsimp only at z0 z1
              clear x0 x1 y0 y1 khas
              go_wp2_with fail
              refine (kmay _).mono ?_
              rintro e w6 ⟨rfl, hg6⟩
              have hbr6 : RowKit.Below w3.heap.size w3 w6 := (hbr.trans (hbr5.mono hbr.size)).trans (hg6.below.mono (Nat.le_trans hbr.size hbr5.size))
              go_wp2
              go_roundw
              case rel => exact ⟨k + 1, by omega, by go_num, by rw [hnext.out]; rfl, hbr6⟩
              case measure => simp [intOf]; omega
        · have hkn : k = n3 := by omega
          subst hkn
          have hme := Lib.hid (hend.out k hn3.out.symm)
          have kx := fun W : World => has_any x A n c l W HL.out hn1
          have hL3r := hL3.on hbr
          have i0 := (hb0r.cell (p := ⟨w.heap.size, 0, none⟩) hs1).trans b0
          have i1 := (hb0r.cell (p := ⟨w.heap.size, 1, none⟩) hs1).trans b1
          have hwl : w.heap.size < wr.heap.size := Nat.lt_of_lt_of_le hs1 hb0r.size
          generalize metB x L k = mt at hme ⊢
          unfold valId at kx
          rw [← hme.out] at kx
          clear b0 b1
          go_wp2_with fail
          refine (count_any A n c l wr HL.out hn1 hL3r).mono ?_
          rintro e w5 ⟨rfl, hb5⟩
          have j0 := (hb5.cell (p := ⟨w.heap.size, 0, none⟩) hwl).trans i0
          have j1 := (hb5.cell (p := ⟨w.heap.size, 1, none⟩) hwl).trans i1
          have hL5 := hL3r.on hb5
          have hcn3 : (cntN l : Int) = (k : Int) := by have := HN3.out; omega
          have HCN := Lib.hid hcn3
          have hq3 : ((k : Int) == (cntN l : Int)) = true := beq_iff_eq.2 HCN.out.symm
          clear i0 i1 hcn3
          generalize cntN l = cl at hq3 ⊢
          go_wp2_with fail
          refine (kx w5 hL5).mono ?_
          rintro e w6 ⟨rfl, hb6⟩
          have hbw6 : RowKit.Below w.heap.size w w6 := (hbwr.trans (hb5.mono hbwr.size)).trans (hb6.mono (Nat.le_trans hbwr.size hb5.size))
          clear j0 j1 kx
          go_wp2_with (go_at_call 8; refine (awake_any _).mono ?_; rintro e w' ⟨rfl, hb⟩)
          go_ret
          exact ⟨rfl, hbw6.trans (hb.mono hbw6.size)⟩

end Go.Proofs.Ytoihikeeaobemaa
