/- The walk of NumBack, where the numbers and the rows are few and small. -/
import Derived.Test.YthpdcoodfjficaaNumK
import Derived.Deep.RegionHeld3
namespace Go.Proofs.Ythpdcoodfjficaa
open Go.RowKit

theorem Rd.drew {w : World} {base hi g er : Nat} {l : List UInt8} (h : Rd w base hi g l er) : Rd w.drew base hi g l er := h
theorem encs_drop (ns : List Nat) (k : Nat) (h : k < ns.length) : encs (ns.drop k) = enc ns[k] ++ encs (ns.drop (k + 1)) := by
  rw [List.drop_eq_getElem_cons h]; rfl
theorem rows_drop (ls : List (List UInt8)) (k : Nat) (h : k < ls.length) : rows (ls.drop k) = row ls[k] ++ rows (ls.drop (k + 1)) := by
  rw [List.drop_eq_getElem_cons h]; rfl

theorem Lies.later {w w' : World} {A : Option Addr} {xs : List Value} (h : Lies w w.heap.size A xs) (hb : Below w.heap.size w w') : Lies w' w'.heap.size A xs := (h.below hb).more hb.size
theorem Byt.later {w w' : World} {v : Value} {l : List UInt8} (h : Byt w w.heap.size v l) (hb : Below w.heap.size w w') : Byt w' w'.heap.size v l := by
  obtain ⟨A, n, c, rfl, h1, h2, h3, h4⟩ := h
  exact ⟨A, n, c, rfl, h1, h2, h3, h4.later hb⟩
theorem BytRows.later {w w' : World} {vs : List Value} {ls : List (List UInt8)} (h : BytRows w w.heap.size vs ls) (hb : Below w.heap.size w w') : BytRows w' w'.heap.size vs ls :=
  ⟨h.1, fun i h1 h2 => (h.2 i h1 h2).later hb⟩

theorem cell_kept {w w' : World} {g b o : Nat} {v : Value} (hg : w.grownBy w' (some g)) (hb : b < w.heap.size) (hne : b ≠ g) (hc : w.cell? ⟨b, o, none⟩ = some v) : w'.cell? ⟨b, o, none⟩ = some v :=
  (World.cell?_of_block (w := w) (hg.block b hb (by intro e; injection e with e; exact hne e))).trans hc

theorem strs_kept {w w' : World} {B g n : Nat} {A : Option Addr} {l : List UInt8} (hl : l.length = n) (h : Lies w B A (bvs l)) (hg : w.grownBy w' (some g)) (hB : B ≤ g) (hs : B ≤ w.heap.size) : Strs w' A n l :=
  strs_of hl (h.below (below_of_grown hg hB hs))

/-- Put's and Rows' answer, as the next call wants it. -/
theorem Owned.use {w w' : World} {l : List UInt8} {e : Ending} (h : Owned w w.heap.size (bvs l) e w') : ∃ A n c, e = .returned (.slice A n c) ∧ Hid (l.length = n) ∧ Lies w' w'.heap.size A (bvs l) ∧ Below w.heap.size w w' := by
  obtain ⟨A, n, c, rfl, hn, _, _, ho, hb⟩ := h
  exact ⟨A, n, c, rfl, by have := hn.out; rw [bvs_length] at this; exact this, Lies.of_own ho, hb⟩

set_option maxHeartbeats 1600000 in
theorem numBack_walk (A A2 : Option Addr) (n c m c2 : Nat) (ns : List Nat) (vs : List Value) (ls : List (List UInt8)) (w : World) (hl : ns.length = n) (hn : n ≤ 60) (h : Lies w w.heap.size A (uvs ns)) (hns : ∀ x ∈ ns, x < 18446744073709551616)
    (hl2 : vs.length = m) (hm : m ≤ 60) (h2 : Lies w w.heap.size A2 vs) (hr : BytRows w w.heap.size vs ls) (hls : ∀ x ∈ ls, x.length ≤ 300) :
    Calls Try.prog 5 #[.slice A n c, .slice A2 m c2] w fun e w' => e = .returned (.bool true) ∧ Below w.heap.size w w' := by
  have hany : (ls.any fun x => decide (300 < x.length)) = false := by
    rw [List.any_eq_false]; intro x hx; have := hls x hx; simp; omega
  have HA := Lib.hid hany
  have HNS := Lib.hid hns
  have HLS := Lib.hid hls
  have HL := Lib.hid hl
  have HL2 := Lib.hid hl2
  have HR := Lib.hid hr
  have hel := encs_len hns
  have hlen0 : (encs ns).length ≤ 10000 := by omega
  have hrl := rows_len hls
  have hlen1 : (encs ns ++ rows ls).length ≤ 100000 := by have := hr.1; simp; omega
  have hd : decide (60 < (n : Int)) = false := by simp; omega
  clear hany hns hls hl hl2 hr hel hrl
  go_enter Try.func5, Try.ntmps5
  go_wp2_with (first
    | (go_at_call 8; refine (great_few A2 m c2 vs ls _ hm HL2.out h2 HR.out).mono ?_; rw [HA.out]; rintro e w' ⟨rfl, rfl⟩)
    | (go_at_call 12; refine (put_any none A 0 0 n c [] ns _ rfl (by decide) Lies.nil HL.out (by omega) h HNS.out).mono ?_; rw [List.nil_append]; intro e w1 ho; obtain ⟨A1, n1, c1, rfl, hn1, hL1, hb1⟩ := ho.use; clear ho; have hn1b : n1 ≤ 10000 := by have := hn1.out; omega)
    | (go_at_call 13; refine (rows_any A1 A2 n1 c1 m c2 (encs ns) vs ls _ hn1.out hn1b hL1 HL2.out (by omega) (h2.later hb1) (HR.out.later hb1) HLS.out).mono ?_; intro e w3 ho; obtain ⟨A3, n3, c3, rfl, hn3, hL3, hb3⟩ := ho.use; clear ho; have hn3b : n3 ≤ 100000 := by have := hn3.out; omega)
    | (go_at_call 15; refine (new_any A3 n3 c3 (encs ns ++ rows ls) _ hn3.out (by omega) hL3).mono ?_; rintro e w5 ⟨g, rfl, hR5, hb5⟩))
  have hb51 : Below w.heap.size w w5 := (hb1.trans (hb3.mono hb1.size)).trans (hb5.mono (Nat.le_trans hb1.size hb3.size))
  have hgw : w.heap.size ≤ g := Nat.le_trans (Nat.le_trans hb1.size hb3.size) hR5.lt.1
  have hlo := hR5.lt.1
  generalize w3.heap.size = lo at hR5 hlo
  generalize w5.heap.size = U at hR5
  clear hb1 hb3 hb5 hL1 hL3 hn1 hn3 hn1b hn3b
  go_loopw [6] (fun i wr => ∃ k : Nat, k ≤ n ∧ i = .int .i64 k ∧ Rd wr lo U g (encs (ns.drop k) ++ rows ls) 0 ∧ Below w.heap.size w wr) (fun i _ => n - (intOf i).toNat)
  case atStart => exact ⟨0, Nat.zero_le _, rfl, hR5, hb51⟩
  case round =>
    obtain ⟨k, hk, rfl, hRr, hbr⟩ := hrel
    by_cases hlt : k < n
    · have hk1 : k < ns.length := by rw [HL.out]; exact hlt
      have HD := Lib.hid (encs_drop ns k hk1)
      have HX := Lib.hid (HNS.out ns[k] (List.getElem_mem hk1))
      obtain ⟨b, off, rfl, hb, hc⟩ := (h.below hbr).at_ (uvs_at hk1)
      have hkn0 : (0 : Int) ≤ (k : Int) := by omega
      have hkn1 : (k : Int) < (n : Int) := by omega
      rw [HD.out, List.append_assoc] at hRr
      have hbs : b < wr.heap.size := Nat.lt_of_lt_of_le hb hbr.size
      have hbg : b ≠ g := by omega
      go_wp2
      go_region_held3 (fun w' => w'.cell? ⟨b, off + k, none⟩ = some (.int .u64 (ns[k] : Int))) (first | assumption | go_keep)
        (first | (go_at_call 19; refine (num_any ns[k] hRr.drew).mono ?_; rw [rnum_put ns[k] ns[k] _ HX.out (Nat.le_refl _)]; rintro e w6 ⟨rfl, hR6, hg6⟩; have hc6 := cell_kept hg6 hbs hbg hc))
      go_wp2
      go_roundw
      case rel => exact ⟨k + 1, by omega, by go_num, hR6, hbr.drew.trans (below_of_grown hg6 hgw hbr.size)⟩
      case measure => simp [intOf]; omega
    · have hkn : k = n := by omega
      subst hkn
      have HE : Hid (encs (ns.drop k) = []) := by show _ = _; rw [← HL.out, List.drop_length]; rfl
      rw [HE.out, List.nil_append] at hRr
      have hlenR : (rows ls).length ≤ 100000 := by rw [List.length_append] at hlen1; omega
      clear hR5 hb51 hlen1 hlen0 h
      go_wp2
      go_loopw [7] (fun i wr => ∃ j : Nat, j ≤ m ∧ i = .int .i64 j ∧ Rd wr lo U g (rows (ls.drop j)) 0 ∧ Below w.heap.size w wr) (fun i _ => m - (intOf i).toNat)
      case atStart => exact ⟨0, Nat.zero_le _, rfl, hRr, hbr⟩
      case round =>
        obtain ⟨j, hj, rfl, hRs, hbs⟩ := hrel
        by_cases hjlt : j < m
        · have hj1 : j < vs.length := by rw [HL2.out]; exact hjlt
          have hj2 : j < ls.length := by rw [← HR.out.1]; exact hj1
          have HD := Lib.hid (rows_drop ls j hj2)
          have HX := Lib.hid (HLS.out ls[j] (List.getElem_mem hj2))
          obtain ⟨Ar, nr, cr, hvr, hlr, _, _, hLr⟩ := (HR.out.2 j hj1 hj2).below hbs
          obtain ⟨b, off, rfl, hb, hc⟩ := (h2.below hbs).at_ (List.getElem?_eq_getElem hj1)
          rw [hvr] at hc
          have HLR := Lib.hid hlr
          have hjn0 : (0 : Int) ≤ (j : Int) := by omega
          have hjn1 : (j : Int) < (m : Int) := by omega
          have hnr : nr ≤ 300 := by have := HX.out; omega
          rw [HD.out] at hRs
          have HP := Lib.hid (rowOf_put ls[j] (rows (ls.drop (j + 1))) (nr : Int) (by have := HX.out; omega) (by omega))
          have hlj : (row ls[j] ++ rows (ls.drop (j + 1))).length ≤ 1000000 := by
            rw [← HD.out]
            have h1 := rows_len (ls := ls.drop j) (fun x hx => HLS.out x (List.mem_of_mem_drop hx))
            have h3 := HR.out.1
            have h4 := HL2.out
            have h5 : (ls.drop j).length ≤ 60 := by simp; omega
            omega
          have hbsz : b < wr.heap.size := Nat.lt_of_lt_of_le hb hbs.size
          have hbg : b ≠ g := by omega
          have HMO : Hid (-9223372036854775808 ≤ (nr : Int) ∧ (nr : Int) ≤ 9223372036854775807) := ⟨by omega, by omega⟩
          have hcv : (convert 22 9 (.slice Ar nr cr)).run Try.prog wr.drew = .ok (.string (str ls[j])) wr.drew := strs_of (W := wr.drew) HLR.out hLr cr
          clear hvr hlr
          go_wp2
          go_region_with (go_at_call 17; refine (row_any (nr : Int) HMO.out hRs.drew hlj).mono ?_; rw [HP.out]; intro e w6 hT; obtain ⟨A6, n6, c6, rfl, hn6, hL6, hR6, hg6⟩ := hT; have hc6 := cell_kept hg6 hbsz hbg hc; have hcv6 := strs_kept HLR.out hLr.drew hg6 hgw hbs.size cr; have hcv7 := strs_of hn6.out hL6 c6)
          all_goals
            go_wp2
            go_roundw
            case rel => exact ⟨j + 1, by omega, by go_num, hR6, hbs.drew.trans (below_of_grown hg6 hgw hbs.size)⟩
            case measure => simp [intOf]; omega
        · have hjm : j = m := by omega
          subst hjm
          have HE2 : Hid (rows (ls.drop j) = []) := by show _ = _; rw [← HL2.out, HR.out.1, List.drop_length]; rfl
          rw [HE2.out] at hRs
          obtain ⟨A7, n7, c7, hR7⟩ := hRs
          have HE7 : Hid (endOf 0 n7 = 0) := by have := hR7.2.2.1.out; simp at this; subst this; rfl
          go_wp2_with (first
            | (go_at_call 22; refine (end_any hR7).mono ?_; rw [HE7.out]; rintro e w' ⟨rfl, rfl⟩)
            | (go_at_call 9; refine (awake_any _).mono ?_; rintro e w8 ⟨rfl, hb8⟩))
          go_ret
          exact ⟨rfl, hbs.trans (hb8.mono hbs.size)⟩

end Go.Proofs.Ythpdcoodfjficaa
