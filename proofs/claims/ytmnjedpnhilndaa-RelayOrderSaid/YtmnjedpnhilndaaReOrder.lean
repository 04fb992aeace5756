/- RelayOrder: for every list of byte lists and every list of bytes the call returns true (what is taken was put in, each once, in order, however many are taken at a time), and changes nothing that was there. No conditions. -/
import Derived.Test.YtmnjedpnhilndaaReP
import Derived.ChangeOld
namespace Go.Proofs.Ytmnjedpnhilndaa
open Go.ChangeShapes Go.WideShapes Go.ChangeAt Go.RowKit

set_option maxRecDepth 20000 in
theorem order_many (A : Option Addr) (n c : Nat) (v : Value) (w : World) (hn : 100 < n) : Calls Try.prog 4 #[.slice A n c, v] w fun e w' => e = .returned (.bool true) ∧ Below w.heap.size w w' := by
  have hd : decide ((100 : Int) < (n : Int)) = true := decide_eq_true (by omega)
  go_enter Try.func4, Try.ntmps4
  go_wp2_with fail
  refine (awake_any w).mono ?_
  rintro e w4 ⟨rfl, hb4⟩
  go_wp2
  go_ret
  exact ⟨rfl, hb4⟩

/-- What Take answers, and leaves. -/
theorem OrS.take {w wr : World} {g mb : Nat} {bs : List (List UInt8)} {n j r : Nat} (h : OrS w g mb ⟨(dtFs bs n).drop j, 0⟩ (fun _ => False) wr) (hr : j + r = n) (hn : n ≤ 100) (kk : Nat) :
    Calls Try.prog 15 #[.pointer (some ⟨g, 0, none⟩), .int .i64 (kk : Int), .slice none 0 0] wr fun e w' => ∃ A' c', e = .returned (.slice A' (min kk r) c') ∧ Hid (FrsAt w' wr.heap.size (((dtFs bs n).drop j).take (min kk r)) (.slice A' (min kk r) c')) ∧ Hid (OrS w g mb ⟨(dtFs bs n).drop (j + min kk r), 0⟩ (fun _ => False) w') := by
  obtain ⟨T, l, D, h1, h2, h3, h4⟩ := h
  have hlen : l.length = r := by rw [← List.length_map (f := Pf.F), h2]; simp [dtFs_len]; omega
  refine (take_any h1 (by omega) (kk : Int) none 0 0 [] rfl (by decide) LiesX.nil).mono ?_
  rintro e w4 ⟨k4, A4, n4, c4, hG, rfl, hn4, hF, hW⟩
  have e1 := gone_none hG
  rw [List.length_map, hlen, Int.toNat_natCast] at e1
  subst e1
  rw [outF_none, h2] at hn4 hF
  have hn5 := hn4.out
  rw [List.length_take] at hn5
  simp only [List.length_drop, dtFs_len] at hn5
  obtain rfl : n4 = min kk r := by omega
  have hB := hW.below (B := w.heap.size) (h1.din g h1.dg).1 (h1.din mb h1.dm).1 (fun b hb => (h1.din b (h1.dt hb)).1) h3.size
  refine ⟨A4, c4, rfl, hF, ?_⟩
  obtain ⟨T2, l2, D2, q1, q2, -, -, -, -⟩ := hW
  refine ⟨T2, l2, D2, q1, ?_, h3.trans hB, fun b hb => hb.elim⟩
  rw [q2, h2, List.drop_drop]
theorem OrS.len {w wr : World} {g mb : Nat} {bs : List (List UInt8)} {n j r : Nat} (h : OrS w g mb ⟨(dtFs bs n).drop j, 0⟩ (fun _ => False) wr) (hr : j + r = n) :
    Calls Try.prog 18 #[.pointer (some ⟨g, 0, none⟩)] wr fun e w' => e = .returned (.int .i64 (r : Int)) ∧ wr = w' := by
  obtain ⟨T, l, D, h1, h2, h3, h4⟩ := h
  have hlen : l.length = r := by rw [← List.length_map (f := Pf.F), h2]; simp [dtFs_len]; omega
  have := len_any h1
  rwa [List.length_map, hlen] at this

set_option maxRecDepth 40000 in
set_option maxHeartbeats 6400000 in
theorem order_walk (A : Option Addr) (n c : Nat) (vs : List Value) (bs : List (List UInt8)) (Am : Option Addr) (nm cm : Nat) (ms : List UInt8) (w : World) (hn : n ≤ 100) (hvn : vs.length = n) (hL : Lies w w.heap.size A vs) (hR : BytRows w w.heap.size vs bs) (hml : ms.length = nm) (hmm : nm ≤ cm) (hmc : cm ≤ maxLen) (hM : Lies w w.heap.size Am (bvs ms)) :
    Calls Try.prog 4 #[.slice A n c, .slice Am nm cm] w fun e w' => e = .returned (.bool true) ∧ Below w.heap.size w w' := by
  obtain ⟨i0, hi, hz0, hz1, hz2⟩ := info_parts Try.info5
  have hd : decide ((100 : Int) < (n : Int)) = false := decide_eq_false (by omega)
  have hN := new_any 100 w w.heap.size (Nat.le_refl _)
  rw [show roomN 100 = 100 from rfl] at hN
  have HL := Lib.hid hL
  have HR := Lib.hid hR
  have HM := Lib.hid hM
  have HVN := Lib.hid hvn
  have HML := Lib.hid hml
  have HBN : Hid (bs.length = n) := by show _ = _; rw [← hR.1, hvn]
  have hnm : (nm : Int) ≤ 9223372036854775807 := by unfold maxLen at hmc; omega
  clear hL hR hM hvn hml hmm hmc
  go_enter Try.func4, Try.ntmps4
  go_wp2_with fail
  refine hN.mono ?_
  rintro e w1 ⟨g, mb, rfl, hQ, -, -, hb1⟩
  have HS0 : Hid (OrS w g mb ⟨dtFs bs 0, 0⟩ (fun _ => False) w1) := ⟨_, [], _, hQ, rfl, hb1, fun b hb => hb.elim⟩
  clear hN hQ hb1
  unfold qptr
  go_wp2_with fail
  go_loopw [6, 7, 8] (fun s6 _ _ wr => ∃ i : Nat, i ≤ n ∧ s6 = .int .i64 i ∧ Hid (OrS w g mb ⟨dtFs bs i, 0⟩ (fun _ => False) wr)) (fun s6 _ _ _ => n - (intOf s6).toNat)
  case atStart => exact ⟨0, Nat.zero_le _, rfl, HS0⟩
  case round =>
    clear HS0
    obtain ⟨i, hin, rfl, HS⟩ := hrel
    by_cases hlt : i < n
    · have hiv : i < vs.length := by rw [HVN.out]; exact hlt
      have hib : i < bs.length := by rw [HBN.out]; exact hlt
      obtain ⟨Ai, ni, ci, e1, e2, -, -, hLi⟩ := (HR.out.later HS.out.below).2 i hiv hib
      obtain ⟨bA, off, rfl, hbA, cA⟩ := (HL.out.later HS.out.below).at_ (List.getElem?_eq_getElem hiv)
      rw [e1] at cA
      have HDP : Hid (bs[i].length ≤ 50 → (Qp.mk (dtFs bs i) 0).put 100 (dtF i bs[i]) = ⟨dtFs bs (i + 1), 0⟩) := fun _ => dt_put hib (by omega)
      generalize bs[i] = b at e2 hLi HDP
      subst e2
      by_cases h50 : 50 < b.length
      · have d50 : decide ((50 : Int) < (b.length : Int)) = true := by simp; omega
        clear hLi HDP e1
        go_wp2_with fail
        refine (awake_any wr).mono ?_
        rintro e w4 ⟨rfl, hb4⟩
        have HB4 := Lib.hid (HS.out.below.trans (hb4.mono HS.out.below.size))
        clear hb4
        go_wp2
        go_ret
        exact ⟨rfl, HB4.out⟩
      · have d50 : decide ((50 : Int) < (b.length : Int)) = false := by simp; omega
        have hb50 : b.length ≤ 50 := by omega
        have HDP2 := Lib.hid (HDP.out hb50)
        have hO : (wr.alloc (.cells #[] 5)).ownsRow wr.heap.size 5 1 (.slice (some ⟨wr.heap.size, 0, none⟩) 0 0) 0 [] := World.ownsRow_lit wr #[] 0 (Nat.le_refl _) (Nat.zero_le _) rfl
        have hL1 := hLi.below (alloc_below wr (.cells #[] 5))
        have hwk : IntKind.u32.wrap (i : Int) = (i : Int) := by simp [IntKind.wrap, IntKind.bits, IntKind.signed]; omega
        clear HDP e1 hLi h50
        go_wp2_with (at_builtin; refine wpList_append_lst rfl _ _ 38 rfl wr.heap.size 5 i0 (.int .u8 0) 1 Try.underlying38 hi hz0 hz1 hz2 rfl _ 0 [] rfl hO _ _ _ _ (bvs b) rfl ?d0 hL1 (bvs_one _) ?d2 ?d3 (by simp) ?_)
        case d0 => rw [bvs_length]
        case d2 => unfold maxLen; omega
        case d3 => omega
        intro v1 w2 hown2 _ hb2 _
        try rw [Nat.zero_add] at hown2
        try rw [List.nil_append] at hown2
        obtain ⟨Ao, co, rfl, -, -⟩ := own_sliceK hown2
        have hb12 : Below wr.heap.size wr w2 := (alloc_below wr _).trans (hb2.mono (by simp))
        have HG2 := Lib.hid (HS.out.grow hb12)
        have HO2 := Lib.hid hown2
        have hP1 := HG2.out.put (by simp [dtFs_len]; omega) rfl (dtP i b Ao co) (dtP_X fun hn => by
          obtain ⟨bo, oo, e1, e2, e3⟩ := Lies.of_ownK hown2 hn
          exact ⟨bo, oo, e1, e2, bytes_NB hown2 (by rw [e1]; rfl), e3⟩) (dtF_ok (by omega) hb50)
        have e1 : (Qp.mk (dtFs bs i) 0).put 100 (dtP i b Ao co).F = ⟨dtFs bs (i + 1), 0⟩ := HDP2.out
        rw [e1] at hP1
        simp only [dtFs_len] at hP1
        rw [show (((i + 1 : Nat) : Int) - (i : Int)) = 1 by omega] at hP1
        have HP1 := Lib.hid hP1
        generalize hX : (fun b => wr.heap.size ≤ b ∧ b < w2.heap.size) = X at HG2 HP1
        have HX : Hid (∀ b, wr.heap.size ≤ b → b < w2.heap.size → X b) := by rw [← hX]; exact fun b h1 h2 => ⟨h1, h2⟩
        clear hP1 e1 hX hown2 hb2 hb12 hO hL1 HDP2 cA hbA
        go_wp2_with fail
        refine HP1.out.mono ?_
        rintro e w3 ⟨rfl, hS3, hO3⟩
        have hrow3 := own_only HO2.out hO3 fun b hb hn => bytes_NB HO2.out hb hn
        have HXO : Hid (∀ q, (Value.slice Ao b.length co).ownBlock = some q → X q) := fun q hq => HX.out q (HO2.out.lt q hq).1 (HO2.out.lt q hq).2
        have hP2 := hS3.put (by simp [dtFs_len]; omega) rfl (atP i) (atP_X _ _ _) (atF_ok (by omega))
        have e1 : (Qp.mk (dtFs bs (i + 1)) 0).put 100 (atP i).F = ⟨dtFs bs (i + 1), 0⟩ := dt_again bs i
        rw [e1] at hP2
        simp only [dtFs_len, Int.sub_self] at hP2
        have HP2 := Lib.hid hP2
        have HO3 := Lib.hid hrow3
        clear hP2 e1 hrow3 hS3 hO3 HP1 HG2 HX HS
        go_wp2_with fail
        refine HP2.out.mono ?_
        rintro e w4 ⟨rfl, hS4, hO4⟩
        have HO4 := Lib.hid (own_only HO3.out hO4 fun b hb hn => bytes_NB HO3.out hb hn)
        have HS4 := Lib.hid hS4
        clear HP2 hS4 hO4 HO3 HO2
        obtain ⟨B0, HOB⟩ : ∃ B0, Hid (w4.ownsRow B0 5 1 (.slice Ao b.length co) b.length (bvs b)) := ⟨_, HO4⟩
        clear HO4
        go_wp2_with fail
        go_loopw [8] (fun s8 V => ∃ q : Nat, s8 = .int .i64 (q : Int) ∧ IncS w4 B0 b.length q (.slice Ao b.length co) V) (fun s8 _ => b.length - (intOf s8).toNat)
        case atStart => exact ⟨0, rfl, IncS.start HOB.out⟩
        case round =>
          obtain ⟨q, rfl, hR⟩ := hrel
          by_cases hq : q < b.length
          · obtain ⟨gO, c', kb, hv, hkb, hcell, hfr⟩ := hR.cell hq
            obtain ⟨rfl, rfl⟩ : Ao = some ⟨gO, 0, none⟩ ∧ co = c' := by injection hv with e1 _ e3; exact ⟨e1, e3⟩
            have hq2 : ¬ b.length ≤ q := by omega
            have HRR := Lib.hid hR
            clear hR hv
            go_wp2
            go_roundw
            case rel =>
              refine ⟨q + 1, by go_num, ?_⟩
              have := HRR.out.step hq ((kb + 1) % 256) (Nat.mod_lt _ (by decide))
              simpa using this
            case measure => simp [intOf]; omega
          · have hq0 := hR.1
            obtain rfl : q = b.length := by omega
            obtain ⟨_, _, _, _, hOO⟩ := hR
            have HS5 := Lib.hid (HS4.out.store HOB.out HXO.out hOO).drop
            clear hOO HOB HXO HS4
            go_wp2
            go_roundw
            case rel => exact ⟨i + 1, by omega, by go_num, HS5⟩
            case measure => simp [intOf]; omega
    · obtain rfl : i = n := by omega
      have HS0 : Hid (OrS w g mb ⟨(dtFs bs i).drop 0, 0⟩ (fun _ => False) wr) := HS
      clear HS
      go_wp2_with fail
      go_loopw [9, 10, 11, 12, 13] (fun s9 s10 _ _ _ wr => ∃ t j : Nat, t ≤ 300 ∧ s10 = .int .i64 t ∧ j ≤ i ∧ s9 = .int .i64 j ∧ Hid (OrS w g mb ⟨(dtFs bs i).drop j, 0⟩ (fun _ => False) wr)) (fun _ s10 _ _ _ _ => 300 - (intOf s10).toNat)
      case atStart => exact ⟨0, 0, Nat.zero_le _, rfl, Nat.zero_le _, rfl, HS0⟩
      case round =>
        clear HS0
        obtain ⟨t, j, ht, rfl, hj, rfl, HS⟩ := hrel
        obtain ⟨r, hr⟩ : ∃ r, j + r = i := ⟨i - j, by omega⟩
        have HLEN := Lib.hid (HS.out.len hr)
        by_cases ht3 : t < 300
        · have dt : decide ((t : Int) < 300) = true := by simp; omega
          go_wp2_with fail
          refine HLEN.out.mono ?_
          rintro e w5 ⟨rfl, rfl⟩
          by_cases hr0 : 0 < r
          · have dr : decide ((0 : Int) < (r : Int)) = true := by simp; omega
            have HLEN2 := HLEN
            by_cases hlm : t < nm
            · have hd9 : decide ((t : Int) < (nm : Int)) = true := by simp; omega
              have hml2 : t < ms.length := by rw [HML.out]; exact hlm
              obtain ⟨bm, om, rfl, hbm, cm5⟩ := (HM.out.later HS.out.below).at_ (bvs_at hml2)
              unfold bv at cm5
              have hx9 := ms[t].toNat_lt
              generalize ms[t].toNat = x at cm5 hx9
              have HTK := Lib.hid (HS.out.take hr (by omega) (x % 5))
              clear HLEN HLEN2 HS
              go_wp2_with fail
              refine HTK.out.mono ?_
              rintro e w6 ⟨A6, c6, rfl, HF, HS6⟩
              have hmin : min ((x % 5 : Nat) : Int) ((i : Int) - (j : Int)) = ((min (x % 5) r : Nat) : Int) := by omega
              have ht6 : min (x % 5) r ≤ r := Nat.min_le_right _ _
              generalize min (x % 5) r = t6 at HF HS6 hmin ht6 ⊢
              have dn : ((t6 : Int) != (t6 : Int)) = false := by simp
              clear HTK
              go_wp2_with fail
              clear hmin
              go_loopw [9, 13] (fun s9 s13 V => ∃ q p : Nat, q ≤ t6 ∧ Hid (p = j + q) ∧ s13 = .int .i64 q ∧ s9 = .int .i64 p ∧ Hid (Below w6.heap.size w6 V)) (fun _ s13 _ => t6 - (intOf s13).toNat)
              case atStart => exact ⟨0, j, Nat.zero_le _, rfl, rfl, rfl, Below.refl _ _⟩
              case round =>
                obtain ⟨q, p, hq, hp, rfl, rfl, hB6⟩ := hrel
                have HSr := Lib.hid (HS6.out.on hB6.out)
                have HFr := Lib.hid (HF.out.on hB6.out)
                by_cases hq6 : q < t6
                · have hpi : p < i := by have := hp.out; omega
                  have hiv : p < vs.length := by rw [HVN.out]; exact hpi
                  have hib : p < bs.length := by rw [HBN.out]; exact hpi
                  obtain ⟨Ai, ni, ci, e1, e2, -, -, hLi⟩ := (HR.out.later HSr.out.below).2 p hiv hib
                  obtain ⟨bA, off, rfl, hbA, cA⟩ := (HL.out.later HSr.out.below).at_ (List.getElem?_eq_getElem hiv)
                  rw [e1] at cA
                  obtain ⟨gb, og, y, rfl, hyF, hyX, -, hgl, hc⟩ := HFr.out.at_ q (by rw [List.length_take, List.length_drop, dtFs_len]; omega)
                  have hyF2 : y.F = dtF p bs[p] := by
                    rw [hyF, List.getElem_take, List.getElem_drop, dtFs_at, ← hp.out, List.getElem?_eq_getElem hib]
                    rfl
                  have cAt : wr.cell? ⟨gb, og + q * 16 + 6, none⟩ = some (.int .u32 (p : Int)) := by
                    have := hc 6 (.int .u32 (y.F.at_ : Int)) rfl
                    rw [hyF2] at this
                    exact this
                  have cD : wr.cell? ⟨gb, og + q * 16 + 15, none⟩ = some (.slice (y.p 4).1 ni (y.p 4).2) := by
                    have := hc 15 (.slice (y.p 4).1 y.F.data.length (y.p 4).2) rfl
                    rw [hyF2, show (dtF p bs[p]).data.length = ni from e2] at this
                    exact this
                  have hLy : Lies wr wr.heap.size (y.p 4).1 (bvs bs[p]) := by
                    have := hyX.2.2.2.2.lies
                    rw [hyF2] at this
                    exact this
                  have hst : ∀ k, (convert 38 9 (.slice (y.p 4).1 ni (y.p 4).2)).run Try.prog (wr.drewN k) = .ok (.string (str bs[p])) (wr.drewN k) := fun k => strs_of (W := wr.drewN k) e2 (hLy.below ⟨rfl, rfl, rfl, Nat.le_refl _, fun _ _ => rfl⟩) _
                  have hsp : ∀ k, (convert 38 9 (.slice Ai ni ci)).run Try.prog (wr.drewN k) = .ok (.string (str bs[p])) (wr.drewN k) := fun k => strs_of (W := wr.drewN k) e2 (hLi.below ⟨rfl, rfl, rfl, Nat.le_refl _, fun _ _ => rfl⟩) _
                  have hwk : IntKind.u32.wrap (p : Int) = (p : Int) := by simp [IntKind.wrap, IntKind.bits, IntKind.signed]; omega
                  have dp : ((p : Int) != (p : Int)) = false := by simp
                  generalize bs[p] = b at *
                  generalize y.p 4 = yp at *
                  clear hyF hyF2 hyX hc hLi hLy e1 e2 hbA hgl
                  go_wp2_with fail
                  go_quiet (fail)
                  go_wp2
                  go_roundw
                  case rel => exact ⟨q + 1, p + 1, by omega, by show _ = _; have := hp.out; omega, by go_num, by go_num, hB6.out.trans (Below.mono ⟨rfl, rfl, rfl, Nat.le_refl _, fun _ _ => rfl⟩ hB6.out.size)⟩
                  case measure => simp [intOf]; omega
                · obtain rfl : q = t6 := by omega
                  go_wp2
                  go_roundw
                  case rel => exact ⟨t + 1, p, by omega, by go_num, by have := hp.out; omega, rfl, by rw [hp.out]; exact HSr⟩
                  case measure => simp [intOf]; omega
            · have hd9 : decide ((t : Int) < (nm : Int)) = false := by simp; omega
              have HTK := Lib.hid (HS.out.take hr (by omega) (1))
              clear HLEN HLEN2 HS
              go_wp2_with fail
              refine HTK.out.mono ?_
              rintro e w6 ⟨A6, c6, rfl, HF, HS6⟩
              have hmin : min ((1 : Nat) : Int) ((i : Int) - (j : Int)) = ((min (1) r : Nat) : Int) := by omega
              have ht6 : min (1) r ≤ r := Nat.min_le_right _ _
              generalize min (1) r = t6 at HF HS6 hmin ht6 ⊢
              have dn : ((t6 : Int) != (t6 : Int)) = false := by simp
              clear HTK
              go_wp2_with fail
              clear hmin
              go_loopw [9, 13] (fun s9 s13 V => ∃ q p : Nat, q ≤ t6 ∧ Hid (p = j + q) ∧ s13 = .int .i64 q ∧ s9 = .int .i64 p ∧ Hid (Below w6.heap.size w6 V)) (fun _ s13 _ => t6 - (intOf s13).toNat)
              case atStart => exact ⟨0, j, Nat.zero_le _, rfl, rfl, rfl, Below.refl _ _⟩
              case round =>
                obtain ⟨q, p, hq, hp, rfl, rfl, hB6⟩ := hrel
                have HSr := Lib.hid (HS6.out.on hB6.out)
                have HFr := Lib.hid (HF.out.on hB6.out)
                by_cases hq6 : q < t6
                · have hpi : p < i := by have := hp.out; omega
                  have hiv : p < vs.length := by rw [HVN.out]; exact hpi
                  have hib : p < bs.length := by rw [HBN.out]; exact hpi
                  obtain ⟨Ai, ni, ci, e1, e2, -, -, hLi⟩ := (HR.out.later HSr.out.below).2 p hiv hib
                  obtain ⟨bA, off, rfl, hbA, cA⟩ := (HL.out.later HSr.out.below).at_ (List.getElem?_eq_getElem hiv)
                  rw [e1] at cA
                  obtain ⟨gb, og, y, rfl, hyF, hyX, -, hgl, hc⟩ := HFr.out.at_ q (by rw [List.length_take, List.length_drop, dtFs_len]; omega)
                  have hyF2 : y.F = dtF p bs[p] := by
                    rw [hyF, List.getElem_take, List.getElem_drop, dtFs_at, ← hp.out, List.getElem?_eq_getElem hib]
                    rfl
                  have cAt : wr.cell? ⟨gb, og + q * 16 + 6, none⟩ = some (.int .u32 (p : Int)) := by
                    have := hc 6 (.int .u32 (y.F.at_ : Int)) rfl
                    rw [hyF2] at this
                    exact this
                  have cD : wr.cell? ⟨gb, og + q * 16 + 15, none⟩ = some (.slice (y.p 4).1 ni (y.p 4).2) := by
                    have := hc 15 (.slice (y.p 4).1 y.F.data.length (y.p 4).2) rfl
                    rw [hyF2, show (dtF p bs[p]).data.length = ni from e2] at this
                    exact this
                  have hLy : Lies wr wr.heap.size (y.p 4).1 (bvs bs[p]) := by
                    have := hyX.2.2.2.2.lies
                    rw [hyF2] at this
                    exact this
                  have hst : ∀ k, (convert 38 9 (.slice (y.p 4).1 ni (y.p 4).2)).run Try.prog (wr.drewN k) = .ok (.string (str bs[p])) (wr.drewN k) := fun k => strs_of (W := wr.drewN k) e2 (hLy.below ⟨rfl, rfl, rfl, Nat.le_refl _, fun _ _ => rfl⟩) _
                  have hsp : ∀ k, (convert 38 9 (.slice Ai ni ci)).run Try.prog (wr.drewN k) = .ok (.string (str bs[p])) (wr.drewN k) := fun k => strs_of (W := wr.drewN k) e2 (hLi.below ⟨rfl, rfl, rfl, Nat.le_refl _, fun _ _ => rfl⟩) _
                  have hwk : IntKind.u32.wrap (p : Int) = (p : Int) := by simp [IntKind.wrap, IntKind.bits, IntKind.signed]; omega
                  have dp : ((p : Int) != (p : Int)) = false := by simp
                  generalize bs[p] = b at *
                  generalize y.p 4 = yp at *
                  clear hyF hyF2 hyX hc hLi hLy e1 e2 hbA hgl
                  go_wp2_with fail
                  go_quiet (fail)
                  go_wp2
                  go_roundw
                  case rel => exact ⟨q + 1, p + 1, by omega, by show _ = _; have := hp.out; omega, by go_num, by go_num, hB6.out.trans (Below.mono ⟨rfl, rfl, rfl, Nat.le_refl _, fun _ _ => rfl⟩ hB6.out.size)⟩
                  case measure => simp [intOf]; omega
                · obtain rfl : q = t6 := by omega
                  go_wp2
                  go_roundw
                  case rel => exact ⟨t + 1, p, by omega, by go_num, by have := hp.out; omega, rfl, by rw [hp.out]; exact HSr⟩
                  case measure => simp [intOf]; omega
          · obtain rfl : r = 0 := by omega
            have dr : decide ((0 : Int) < ((0 : Nat) : Int)) = false := by simp
            have HLEN2 := HLEN
            obtain rfl : j = i := by omega
            have de : ((j : Int) == (j : Int)) = true := by simp
            clear HLEN
            go_wp2_with fail
            refine HLEN2.out.mono ?_
            rintro e w6 ⟨rfl, rfl⟩

            go_wp2_with fail
            refine (awake_any _).mono ?_
            rintro e w7 ⟨rfl, hb7⟩
            have HB7 := Lib.hid (HS.out.below.trans (hb7.mono HS.out.below.size))
            clear hb7
            go_wp2
            go_ret
            exact ⟨rfl, HB7.out⟩
        · have dt : decide ((t : Int) < 300) = false := by simp; omega
          have HLEN2 := HLEN
          clear HLEN
          by_cases hr0 : 0 < r
          · have dr : decide ((0 : Int) < (r : Int)) = true := by simp; omega
            go_wp2_with fail
            refine HLEN2.out.mono ?_
            rintro e w6 ⟨rfl, rfl⟩

            go_wp2_with fail
            refine (awake_any _).mono ?_
            rintro e w7 ⟨rfl, hb7⟩
            have HB7 := Lib.hid (HS.out.below.trans (hb7.mono HS.out.below.size))
            clear hb7
            go_wp2
            go_ret
            exact ⟨rfl, HB7.out⟩
          · obtain rfl : r = 0 := by omega
            have dr : decide ((0 : Int) < ((0 : Nat) : Int)) = false := by simp
            obtain rfl : j = i := by omega
            have de : ((j : Int) == (j : Int)) = true := by simp
            go_wp2_with fail
            refine HLEN2.out.mono ?_
            rintro e w6 ⟨rfl, rfl⟩

            go_wp2_with fail
            refine (awake_any _).mono ?_
            rintro e w7 ⟨rfl, hb7⟩
            have HB7 := Lib.hid (HS.out.below.trans (hb7.mono HS.out.below.size))
            clear hb7
            go_wp2
            go_ret
            exact ⟨rfl, HB7.out⟩

theorem own : ownKnob Try.prog.godebug = none := by kernel_rfl
theorem laidOut : laidOutB Try.prog = true := by kernel_rfl

set_option maxRecDepth 100000 in
theorem relayOrder_lifted (os : Os) (started : os.Started) (H : Type) (enc : TypeId × Value → H) :
    ReturnsInHanded {} Try.checked os 4 .any (Rows.relayOrderSpec.pre6 enc Try.prog Try.f4 Rows.relayOrderRow.domain false) (Rows.relayOrderSpec.post enc Try.prog Try.f4 false true false false) := by
  refine returnsInHanded_of_change (C := Try.checked) own started (by kernel_rfl) Try.func4
    (ChangeSpec.witness6 (enc := enc) (C := Try.checked) false ⟨#[], #[.slice none 0 0, .slice none 0 0], []⟩ 8 (by kernel_rfl) (by kernel_rfl) (by kernel_rfl) (by kernel_rfl)) ?_
  intro W base args ds gs before hval0 hW _ _
  have hval : ∀ (j : Nat) t v, Try.f4.params[j]? = some t → args[j]? = some v → Value.okWide Try.prog W .any base t v := hval0
  have hW' := hW
  obtain ⟨p, q, hA0, hV, rfl, _, _⟩ := hW
  have hA : DataW.TrodAll enc Try.prog W 0 (fun _ => true) true Try.f4.params.toList args.toList ds p := hA0
  rw [Try.params4] at hA hval
  obtain ⟨v0, vs0, d0, ds0, p0, q0, hargs, rfl, rfl, h0, r0⟩ := trodAll_cons hA
  obtain ⟨v1, vs1, d1, ds1, p1, q1, rfl, rfl, rfl, h1, r1⟩ := trodAll_cons r0
  obtain ⟨rfl, rfl, rfl⟩ := trodAll_nil r1
  obtain rfl : args = #[v0, v1] := by cases args; simp_all
  obtain ⟨rfl, rfl⟩ := trodVars_none hV
  have k0 := h0
  have lt0 : ∀ x ∈ p0, x.block < W.heap.size := by obtain ⟨m, hm⟩ := k0; exact DataW.trod_lt m _ _ _ hm
  have k1 := h1
  have lt1 : ∀ x ∈ p1, x.block < W.heap.size := by obtain ⟨m, hm⟩ := k1; exact DataW.trod_lt m _ _ _ hm
  have hwalk : Calls Try.prog 4 #[v0, v1] W fun e w' => e = .returned (.bool true) ∧ Below W.heap.size W w' := by
    obtain ⟨x0, len0, cap0, rfl⟩ := okWide_slice Try.underlying56 (hval 0 56 v0 rfl rfl)
    obtain ⟨x1, len1, cap1, rfl⟩ := okWide_slice Try.underlying38 (hval 1 38 v1 rfl rfl)
    obtain ⟨fuel0, hf0⟩ := h0
    obtain ⟨fuel1, hf1⟩ := h1
    obtain ⟨ls, vs, A, n, c, hv, hvl, _, _, hL, hR⟩ := open_byteRows Try.underlying56 (by kernel_rfl) Try.underlying38 Try.underlying5 (by kernel_rfl) (by simpa [Value.cells] using hf0)
    obtain ⟨lb, A2, n2, c2, hv2, hl2, hc2, hm2, hL2⟩ := open_bytes Try.underlying38 Try.underlying5 (by kernel_rfl) (by simpa [Value.cells] using hf1)
    injection hv with e1 e2 e3
    subst e1 e2 e3
    injection hv2 with e1 e2 e3
    subst e1 e2 e3
    by_cases hn : 100 < len0
    · exact order_many _ _ _ _ W hn
    · exact order_walk x0 len0 cap0 vs ls x1 len1 cap1 lb W (by omega) hvl hL hR hl2 hc2 hm2 hL2
  clear hA0 hval0
  refine hwalk.mono fun e W' ⟨he, bel⟩ => ?_
  subst he
  exact ⟨_, rfl, _, _, _, [], _, [], hW', trodAll_mk1 (shut_bool Try.underlying4 _), (trodAll_cons_mk (Below.trod laidOut (by kernel_rfl) (of_decide_eq_true (by kernel_rfl)) k0 bel lt0) (trodAll_cons_mk (Below.trod laidOut (by kernel_rfl) (of_decide_eq_true (by kernel_rfl)) k1 bel lt1) trodAll_mk0)), rfl, bel.frame _, fun h => by cases h⟩

theorem relayOrder_proved : Rows.RelayOrderSaid :=
  OpenClaim.holds_of_wide 4 Try.f4 rfl rfl rfl rfl rfl rfl rfl ⟨rfl, rfl, rfl, rfl, rfl⟩ rfl rfl rfl rfl rfl (by kernel_rfl) Try.func4 (by kernel_rfl)
    (of_decide_eq_true (by kernel_rfl)) (by unfold Func.isWrapper; first | (rw [if_pos (by decide +kernel)]; kernel_rfl) | (rw [if_neg (by decide +kernel)]; exact ⟨rfl, rfl⟩))
    (fun os started H enc _ => relayOrder_lifted os started H enc)

end Go.Proofs.Ytmnjedpnhilndaa
