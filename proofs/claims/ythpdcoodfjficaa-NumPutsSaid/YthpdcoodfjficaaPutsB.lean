/- The walk of NumPuts, where what is handed in is few and small. -/
import Derived.Test.YthpdcoodfjficaaPutsA
import Derived.Test.YthpdcoodfjficaaHeld
import Derived.Deep.Cut
import Derived.Deep.CutRange
namespace Go.Proofs.Ythpdcoodfjficaa
open Go.RowKit

/-- make([]byte, 0, n + 9) -/
theorem make_bytes (n : Nat) (hn : n ≤ 300) (W : World) : ∃ o : Array Value, o.size = n + 9 ∧ (Instr.makeSlice 22 (.int .i64 0) (.int .i64 ((n : Int) + 9))).run Try.prog W = .ok (.slice (some ⟨W.heap.size, 0, none⟩) 0 (n + 9)) (W.alloc (.cells o 5)) := by
  obtain ⟨i0, hi, hz0, hz1, hz2⟩ := info_parts Try.info5
  refine ⟨madeCells (Value.int .u8 0).cells (n + 9), by rw [size_madeCells], ?_⟩
  have := run_make (P := Try.prog) W 22 5 i0 _ Try.underlying22 hi hz0 .i64 .i64 0 ((n : Int) + 9) (by omega) (by omega) (by rw [hz2]; omega) (by omega)
  rw [hz1, show ((n : Int) + 9).toNat = n + 9 by omega] at this
  simpa using this

set_option maxRecDepth 100000 in
set_option maxHeartbeats 40000000 in
theorem numPuts_walk (A0 A A2 : Option Addr) (n0 c0 n c m c2 : Nat) (l : List UInt8) (ns : List Nat) (vs : List Value) (ls : List (List UInt8)) (w : World) (hl0 : l.length = n0) (hn0 : n0 ≤ 300) (hc0 : n0 ≤ c0 ∧ c0 ≤ maxLen) (h0 : Lies w w.heap.size A0 (bvs l))
    (hl : ns.length = n) (hn : n ≤ 60) (h : Lies w w.heap.size A (uvs ns)) (hns : ∀ x ∈ ns, x < 18446744073709551616)
    (hl2 : vs.length = m) (hm : m ≤ 60) (h2 : Lies w w.heap.size A2 vs) (hr : BytRows w w.heap.size vs ls) (hls : ∀ x ∈ ls, x.length ≤ 300) :
    Calls Try.prog 3 #[.slice A0 n0 c0, .slice A n c, .slice A2 m c2] w fun e w' => e = .returned (.bool true) ∧ Below w.heap.size w w' := by
  obtain ⟨i0, hi, hz0, hz1, hz2⟩ := info_parts Try.info5
  have hany : (ls.any fun x => decide (300 < x.length)) = false := by
    rw [List.any_eq_false]; intro x hx; have := hls x hx; simp; omega
  obtain ⟨o9, ho9, hmk⟩ := make_bytes n0 hn0 w
  have hown9 := World.ownsRow_made (base := w.heap.size) (e := 5) (size := 1) w o9 (n0 + 9) (Nat.le_refl _) (by unfold maxLen; omega) (by omega)
  have HA := Lib.hid hany
  have HNS := Lib.hid hns
  have HLS := Lib.hid hls
  have HL0 := Lib.hid hl0
  have HL := Lib.hid hl
  have HL2 := Lib.hid hl2
  have HR := Lib.hid hr
  have hd0 : decide (300 < (n0 : Int)) = false := by simp; omega
  have hd : decide (60 < (n : Int)) = false := by simp; omega
  clear hany hns hls hl hl2 hr hl0 ho9
  go_enter Try.func3, Try.ntmps3
  go_wp2_with (first
    | (go_at_call 8; refine (great_few A2 m c2 vs ls _ hm HL2.out h2 HR.out).mono ?_; rw [HA.out]; rintro e w' ⟨rfl, rfl⟩)
    | (at_builtin; refine wpList_append_lst rfl _ _ 22 rfl w.heap.size 5 i0 (.int .u8 0) 1 Try.underlying22 hi hz0 hz1 hz2 rfl _ 0 [] rfl hown9 _ A0 n0 c0 (bvs l) rfl ?e0 (h0.below ((Below.refl _ _).alloc (Nat.le_refl _) _)) (bvs_one _) ?e2 ?e3 ?e4 ?_))
  case e0 => rw [bvs_length]; exact HL0.out
  case e2 => unfold maxLen; omega
  case e3 => omega
  case e4 => simp
  intro v3 w3 hown3 hg3 hb3 _
  obtain ⟨A3, c3, hv3, _, _⟩ := own_slice hown3
  subst hv3
  have hb3' : Below w.heap.size w w3 := ((Below.refl _ _).alloc (Nat.le_refl _) _).trans hb3
  clear hmk hown9 hg3 hb3
  have hs3 := hb3'.size
  go_wp2_with (at_builtin; refine wpList_append_lst rfl _ _ 22 rfl w.heap.size 5 i0 (.int .u8 0) 1 Try.underlying22 hi hz0 hz1 hz2 rfl _ _ _ rfl (hown3.alloc _) _ _ 1 _ _ rfl ?f0 (lies_new _ _ _) ?f1 ?f2 ?f3 ?f4 ?_)
  case f1 => rfl
  case f2 => unfold maxLen; omega
  case f3 => omega
  case f4 => simp; omega
  intro v4 w4 hown4 hg4 hb4 _
  obtain ⟨A4, c4, hv4, hc4, hc4m⟩ := own_slice hown4
  subst hv4
  have hb4' : Below w.heap.size w w4 := (hb3'.alloc hs3 _).trans hb4
  clear hown3 hg4 hb4 hb3' hs3
  have hs4 := hb4'.size
  obtain ⟨j0, hj, hy0, hy1, hy2⟩ := info_parts Try.info22
  have hs4 := hb4'.size
  have hB5 : Below w.heap.size w ((w4.alloc (.cells #[.slice A0 n0 c0] 22)).alloc (.cells #[.slice A0 n0 c0] 22)) := (hb4'.alloc hs4 _).alloc (by simp; omega) _
  have hT1 := Tab.start (q := w4.heap.size) (p := w4.heap.size + 1) hB5 h0 HL0.out hc0 (by rw [Below.heap_alloc _ _ _ (by simp)]; exact heap_alloc_new w4 _) hs4 (by omega) (by simp)
  have hT2 := Tab.start (q := w4.heap.size + 1) (p := w4.heap.size) hB5 h0 HL0.out hc0 (by have := heap_alloc_new (w4.alloc (.cells #[.slice A0 n0 c0] 22)) (.cells #[.slice A0 n0 c0] 22); simpa using this) (by omega) hs4 (by simp; omega)
  have hO5 := (hown4.alloc (.cells #[.slice A0 n0 c0] 22)).alloc (.cells #[.slice A0 n0 c0] 22)
  have hOq : Hid (∀ q, (Value.slice A4 (n0 + 1) c4).ownBlock = some q → q < w4.heap.size) := fun q hq => (hown4.lt q (by simpa using hq)).2
  clear hown4 hb4'
  go_wp2
  generalize (w4.alloc (.cells #[.slice A0 n0 c0] 22)).alloc (.cells #[.slice A0 n0 c0] 22) = W5 at hB5 hT1 hT2 hO5 ⊢
  generalize w4.heap.size = q1 at hT1 hT2 hOq hs4 ⊢
  go_loopw [8, 10] (fun v i wr => ∃ (k : Nat) (A1 : Option Addr) (c1 : Nat), k ≤ n ∧ i = .int .i64 k ∧ v = .slice A1 (k + 1) c1 ∧ Tab W5 wr w.heap.size (q1 + 1) q1 A1 (k + 1) c1 ([l] ++ (ns.take k).map enc) ∧ Below w.heap.size w wr) (fun _ i _ => n - (intOf i).toNat)
  case atStart => exact ⟨0, _, _, Nat.zero_le _, rfl, rfl, hT1, hB5⟩
  case round =>
    obtain ⟨k, A1, c1, hk, rfl, rfl, hT, hbr⟩ := hrel
    by_cases hlt : k < n
    · have hk1 : k < ns.length := by rw [HL.out]; exact hlt
      have hx := HNS.out ns[k] (List.getElem_mem hk1)
      obtain ⟨b, off, rfl, hb, hc⟩ := (h.below hbr).at_ (uvs_at hk1)
      obtain ⟨vs1, q, t1, t2, t3, t4, t5, t6, t7, t8⟩ := hT
      have T2 := Lib.hid t2
      clear hT1 hT2 t2
      go_wp2_with (first
        | (go_at_call 10; refine (refNum_any ns[k] _ hx).mono ?_; rintro e w7 ⟨A7, n7, c7, rfl, _, hc71, hc72, ho7, hb7⟩)
        | (at_builtin; refine wpList_append_lst rfl _ _ 24 rfl w.heap.size 22 j0 (.slice none 0 0) 24 Try.underlying24 hj hy0 hy1 hy2 rfl _ _ _ rfl ((own_below t1 hb7).alloc _) _ _ 1 _ _ rfl ?d0 (lies_new _ _ _) ?d1 ?d2 ?d3 ?d4 ?_))
      case d1 => rfl
      case d2 => unfold maxLen; omega
      case d3 => omega
      case d4 => have := hb7.size; simp; omega
      intro v8 w8 hown8 hg8 hb8 hat8
      obtain ⟨A8, c8, hv8, _, _⟩ := own_slice hown8
      subst hv8
      go_wp2
      go_roundw
      case rel =>
        refine ⟨k + 1, A8, c8, by omega, by go_num, by rfl, ?_, ?_⟩
        · rw [table_snoc l enc ns k hk1]
          exact Tab.step t1 T2.out t3 t4 t5 t6 t7 t8 ho7 hc71 hc72 hb7 hown8 rfl hg8 (by simpa using hat8)
        · exact ((hbr.trans (hb7.mono hbr.size)).alloc (Nat.le_trans hbr.size hb7.size) _).trans hb8
      case measure => simp [intOf]; omega
    · have hkn : k = n := by omega
      subst hkn
      rw [← HL.out, List.take_length] at hT
      obtain ⟨vs1, q, t1, t2, t3, t4, t5, t6, t7, t8⟩ := hT
      have hq1 : q < wr.heap.size := (t1.lt q t2).2
      have hT3 := Tab.other hT2 t5 (by omega) rfl t3 hq1
      have hO6 := own_onlyD hO5 t5 (fun k hk e => by have := hOq.out k hk; omega)
      rw [HL.out] at t1 t2 t8
      have hqq : q ≠ q1 + 1 := by rcases t3 with h' | h' <;> omega
      have T2 := Lib.hid t2
      clear hT1 hT2 hO5 t5 hB5 t2 hlt hk
      go_wp2
      generalize wr = w6 at hbr t1 t4 t7 hq1 hT3 hO6 ⊢
      go_loopw [9, 11] (fun v i ws => ∃ (j : Nat) (A5 : Option Addr) (c5 : Nat), j ≤ m ∧ i = .int .i64 j ∧ v = .slice A5 (j + 1) c5 ∧ Tab w6 ws w.heap.size q (q1 + 1) A5 (j + 1) c5 ([l] ++ (ls.take j).map row) ∧ Below w.heap.size w ws) (fun _ i _ => m - (intOf i).toNat)
      case atStart => exact ⟨0, _, _, Nat.zero_le _, rfl, rfl, hT3, hbr⟩
      case round =>
        clear hbr hT3
        obtain ⟨j, A5, c5, hj5, rfl, rfl, hT, hbr⟩ := hrel
        by_cases hjlt : j < m
        · have hj1 : j < vs.length := by rw [HL2.out]; exact hjlt
          have hj2 : j < ls.length := by rw [← HR.out.1]; exact hj1
          obtain ⟨Ar, nr, cr, hvr, hlr, _, _, hLr⟩ := (HR.out.later hbr).2 j hj1 hj2
          obtain ⟨b, off, rfl, hb, hc⟩ := (h2.below hbr).at_ (List.getElem?_eq_getElem hj1)
          rw [hvr] at hc
          have HLR := Lib.hid hlr
          have hnr : nr ≤ 300 := by have := HLS.out ls[j] (List.getElem_mem hj2); omega
          obtain ⟨vs2, r, s1, s2, s3, s4, s5, s6, s7, s8⟩ := hT
          have S2 := Lib.hid s2
          clear s2 hvr hlr
          go_wp2_with (first
            | (go_at_call 11; refine (refRow_any Ar nr cr ls[j] _ HLR.out (by omega) hLr).mono ?_; rintro e w7 ⟨A7, n7, c7, rfl, _, hc71, hc72, ho7, hb7⟩)
            | (at_builtin; refine wpList_append_lst rfl _ _ 24 rfl w.heap.size 22 j0 (.slice none 0 0) 24 Try.underlying24 hj hy0 hy1 hy2 rfl _ _ _ rfl ((own_below s1 hb7).alloc _) _ _ 1 _ _ rfl ?k0 (lies_new _ _ _) ?k1 ?k2 ?k3 ?k4 ?_))
          case k1 => rfl
          case k2 => unfold maxLen; omega
          case k3 => omega
          case k4 => have := hb7.size; simp; omega
          intro v8 w8 hown8 hg8 hb8 hat8
          obtain ⟨A8, c8, hv8, _, _⟩ := own_slice hown8
          subst hv8
          go_wp2
          go_roundw
          case rel =>
            refine ⟨j + 1, A8, c8, by omega, by go_num, by rfl, ?_, ?_⟩
            · rw [table_snoc l row ls j hj2]
              exact Tab.step s1 S2.out s3 s4 s5 s6 s7 s8 ho7 hc71 hc72 hb7 hown8 rfl hg8 (by simpa using hat8)
            · exact ((hbr.trans (hb7.mono hbr.size)).alloc (Nat.le_trans hbr.size hb7.size) _).trans hb8
          case measure => simp [intOf]; omega
        · have hjm : j = m := by omega
          subst hjm
          have hjl : ls.length = j := by rw [← HR.out.1]; exact HL2.out
          rw [← hjl, List.take_length] at hT
          obtain ⟨vs2, r, s1, s2, s3, s4, s5, s6, s7, s8⟩ := hT
          rw [hjl] at s1 s2 s8
          have hN1 := own_onlyD t1 s5 (fun k hk e => by rw [T2.out] at hk; injection hk with hk; omega)
          have hN2 := t4.kept (D' := fun b => b = q ∨ b = q1 + 1) ⟨s5.1, fun k hk hn => s5.2 k hk (fun e => hn (.inr e))⟩ (fun k hk hD => hD)
          have hO7 := own_onlyD hO6 s5 (fun k hk e => by have := hOq.out k hk; omega)
          obtain ⟨g4, cap4, hv4, _, _⟩ := hO7.form (by omega)
          obtain ⟨rfl, rfl⟩ : A4 = some ⟨g4, 0, none⟩ ∧ c4 = cap4 := by injection hv4 with e1 _ e3; exact ⟨e1, e3⟩
          have hown7 : bvs l ++ [Value.int IntKind.u8 7] = bvs (l ++ [7]) := by rw [bvs_append]; rfl
          rw [hown7] at hO7
          have hLown := Lies.of_own hO7
          have HJL := Lib.hid hjl
          have hLl : Lies wr wr.heap.size (some ⟨g4, 0, none⟩) (bvs l) := lies_front hLown
          have hL0 := h0.later hbr
          have hL1 := h.later hbr
          have hL2 := h2.later hbr
          have hR2 := HR.out.later hbr
          have HR2 := Lib.hid hR2
          have hC7 : wr.cell? ⟨g4, n0, none⟩ = some (.int .u8 7) := by
            obtain ⟨b', off', e, _, hcc⟩ := hLown (by simp [bvs])
            injection e with e
            injection e with e1 e2
            subst e1 e2
            have := hcc n0 (.int .u8 7) (by rw [bvs_append, List.getElem?_append_right (by rw [bvs_length, HL0.out]; exact Nat.le_refl _), bvs_length, HL0.out, Nat.sub_self]; rfl)
            simpa using this
          have hNl := Lies.of_own hN1
          have hNr := hN2.rows
          have hNn := own_len hN1
          have hTl := Lies.of_own s1
          have hTr := s4.rows
          have hTn := own_len s1
          have hslo : (0 : Int) ≤ (n0 : Int) := by omega
          have hs4c : (n0 : Int) ≤ (c4 : Int) := by omega
          have PE : Hid (∀ (wx : World) (Ax : Option Addr) (nx cx : Nat) (Ay : Option Addr) (ny cy : Nat), KeepS wx Ax nx cx (l ++ encs ns) → KeepS wx Ay ny cy (l ++ rows ls) → Below wr.heap.size wr wx → PutsEnd w wx l ns ls (.slice Ax nx cx) (.slice Ay ny cy) A0 n0 c0 g4 c4 A1 (k + 1) A5 (j + 1)) := by
            intro wx Ax nx cx Ay ny cy kx ky hbx
            exact ⟨Ax, nx, cx, Ay, ny, cy, vs1, vs2, rfl, rfl, kx, ky, keepS_later (keepS_of HL0.out hL0) hbx, keepS_later (keepS_of HL0.out hLl) hbx,
              fun W hW => ((hbx.trans (hW.mono hbx.size)).cell (p := ⟨g4, n0, none⟩) (World.block_lt_of_cell? wr _ hC7)).trans hC7, hNl.later hbx, hNr.later hbx, hNn, hTl.later hbx, hTr.later hbx, hTn, hbr.trans (hbx.mono hbr.size)⟩
          clear hjl hown7 hC7 hNl hNr hNn hTl hTr hTn s1 s2 s3 s4 s5 s6 s7 s8 hN1 hN2 hO7 hO6 t1 t4 hv4 hR2
          go_upto_region 13 with fail
          go_cut [12, 13] from 14 to 113 (fun x y wx => PutsEnd w wx l ns ls x y A0 n0 c0 g4 c4 A1 (k + 1) A5 (j + 1))
          case first =>
            have hbW : Below wr.heap.size wr wr.drew := (Below.refl _ _).drew
            go_region_with (first
              | (go_at_call 12; refine (put_any _ A n0 c4 k c l ns _ HL0.out (by omega) (hLl.later hbR) HL.out (by omega) (hL1.later hbR) HNS.out).mono ?_; intro e w7 ho7; obtain ⟨A7, n7, c7, rfl, hn7, hL7, hb7⟩ := ho7.use; clear ho7; have kx := keepS_of (c := c7) hn7.out hL7; have hbP := Below.trans hbR (hb7.mono (Below.size hbR)))
              | (go_at_call 12; refine (put_any _ A n0 c4 k c l ns _ HL0.out (by omega) (hLl.later hbW) HL.out (by omega) (hL1.later hbW) HNS.out).mono ?_; intro e w7 ho7; obtain ⟨A7, n7, c7, rfl, hn7, hL7, hb7⟩ := ho7.use; clear ho7; have kx := keepS_of (c := c7) hn7.out hL7; have hbP := Below.trans hbW (hb7.mono (Below.size hbW)))
              | (go_at_call 13; refine (rows_any _ A2 n0 c4 j c2 l vs ls _ HL0.out (by omega) (hLl.later hbP) HL2.out (by omega) (hL2.later hbP) (HR2.out.later hbP) HLS.out).mono ?_; intro e w8 ho8; obtain ⟨A8, n8, c8, rfl, hn8, hL8, hb8⟩ := ho8.use; clear ho8; have ky := keepS_of (c := c8) hn8.out hL8; have hbR := Below.trans hbP (hb8.mono (Below.size hbP)))
              | (go_at_call 13; refine (rows_any _ A2 n0 c4 j c2 l vs ls _ HL0.out (by omega) (hLl.later hbW) HL2.out (by omega) (hL2.later hbW) (HR2.out.later hbW) HLS.out).mono ?_; intro e w8 ho8; obtain ⟨A8, n8, c8, rfl, hn8, hL8, hb8⟩ := ho8.use; clear ho8; have ky := keepS_of (c := c8) hn8.out hL8; have hbR := Below.trans hbW (hb8.mono (Below.size hbW))))
            all_goals
              go_wp2_with fail
              go_meet
              first
                | exact PE.out _ _ _ _ _ _ _ (keepS_later kx hb8) ky hbR
                | exact PE.out _ _ _ _ _ _ _ kx (keepS_later ky hb7) hbP
          case rest =>
            clear PE hbr hLown hLl hL0 hL1 hL2 HR2 h0 h h2
            obtain ⟨Ax, nx, cx, Ay, ny, cy, ws1, ws2, rfl, rfl, kx, ky, kb, ko, kc, e1, e2, e3, e4, e5, e6, e7⟩ := hcut
            unfold KeepS at kx ky kb ko
            have hbW : Below wc.heap.size wc wc.drew := (Below.refl _ _).drew
            have SN := Lib.hid (small_nums (l := l) (by rw [HL0.out]; exact hn0) HNS.out)
            have SR := Lib.hid (small_rows (l := l) (by rw [HL0.out]; exact hn0) HLS.out)
            have hk100 : k + 1 ≤ 100 := by omega
            have hj100 : j + 1 ≤ 100 := by omega
            have J1 : Hid (∀ W : World, Below wc.heap.size wc W → Calls Try.prog 14 #[.slice A1 (k + 1) c1] W (Owned W W.heap.size (bvs (l ++ encs ns)))) := by
              intro W hW
              have t := refJoin_any A1 (k + 1) c1 ws1 _ _ e3.out hk100 (e1.later hW) (e2.later hW) SN.out
              rwa [join_nums] at t
            have J2 : Hid (∀ W : World, Below wc.heap.size wc W → Calls Try.prog 14 #[.slice A5 (j + 1) c5] W (Owned W W.heap.size (bvs (l ++ rows ls)))) := by
              intro W hW
              have t := refJoin_any A5 (j + 1) c5 ws2 _ _ e6.out hj100 (e4.later hW) (e5.later hW) SR.out
              rwa [join_rows] at t
            clear e1 e2 e3 e4 e5 e6 SN SR hk100 hj100 HNS HLS HR HL HL2 HJL
            have hnlt : (n0 : Int) < (n0 : Int) + 1 := by omega
            go_wp2
            refine wp_region_held_drew (S := fun W => Below wc.heap.size wc W) (by kernel_rfl) hbW (fun hHeld => ?_)
            refine wpAnyH_takeAt (i := 0) (d := 79) (v := ?_) rfl rfl (by kernel_rfl) (by kernel_rfl) (by kernel_rfl) (fun _ _ _ h => h) (Or.inl ⟨by rfl, ?_⟩) hHeld ?_
            rotate_left
            · (intro _ hSw; go_simp; try with_reducible rfl)
            simp only [List.setIfInBounds_toArray, List.set_cons_zero, List.set_cons_succ]
            refine wpAnyH_takeAt (i := 1) (d := 80) (v := ?_) rfl rfl (by kernel_rfl) (by kernel_rfl) (by kernel_rfl) (fun _ _ _ h => h) (Or.inl ⟨by rfl, ?_⟩) hHeld ?_
            rotate_left
            · (intro _ hSw; go_simp; try with_reducible rfl)
            simp only [List.setIfInBounds_toArray, List.set_cons_zero, List.set_cons_succ]
            refine wpAnyH_takeAt (i := 2) (d := 81) (v := ?_) rfl rfl (by kernel_rfl) (by kernel_rfl) (by kernel_rfl) (fun _ _ _ h => h) (Or.inl ⟨by rfl, ?_⟩) hHeld ?_
            rotate_left
            · (intro _ hSw; go_simp; try with_reducible rfl)
            simp only [List.setIfInBounds_toArray, List.set_cons_zero, List.set_cons_succ]
            refine wpAnyH_ready (rs := [3]) (by kernel_rfl) (by simp) ?_
            refine AllReadyH.cons rfl (fun K hK => ?_) AllReadyH.nil
            go_simp
            refine (J1.out _ hbW).mono ?_
            intro e w7 ho7
            obtain ⟨A7, n7, c7, rfl, hn7, hL7, hb7⟩ := ho7.use
            have k7 := keepS_of (c := c7) hn7.out hL7
            have hbJ := hbW.trans (hb7.mono hbW.size)
            have ky7 : KeepS w7 Ay ny cy (l ++ rows ls) := fun W hW => ky W (hbJ.trans (hW.mono hbJ.size))
            have kb7 : KeepS w7 A0 n0 c0 l := fun W hW => kb W (hbJ.trans (hW.mono hbJ.size))
            have ko7 : KeepS w7 (some ⟨g4, 0, none⟩) n0 c4 l := fun W hW => ko W (hbJ.trans (hW.mono hbJ.size))
            have kc7 := fun W (hW : Below w7.heap.size w7 W) => kc W (hbJ.trans (hW.mono hbJ.size))
            have KC7 := Lib.hid kc7
            clear ho7 hL7 hn7 kx ky kb ko kc kc7
            unfold KeepS at k7 ky7
            dsimp only
            refine hK.out _ _ hbJ (fun hHeld => ?_)
            clear hK K hHeld
            refine wpAnyH_mono (S' := fun W => Below w7.heap.size w7 W) (fun W hW => hbJ.trans (Below.mono hW hbJ.size)) _ _ _ _ ?_
            have hHeld : (fun W => Below w7.heap.size w7 W) w7 := Below.refl _ _
            refine wpAnyH_takeAt (i := 4) (d := 83) (v := ?_) rfl rfl (by kernel_rfl) (by kernel_rfl) (by kernel_rfl) (fun _ _ _ h => h) (Or.inl ⟨by rfl, ?_⟩) hHeld ?_
            rotate_left
            · (intro _ hSw; go_simp; try with_reducible rfl)
            simp only [List.setIfInBounds_toArray, List.set_cons_zero, List.set_cons_succ]
            refine wpAnyH_takeAt (i := 5) (d := 84) (v := ?_) rfl rfl (by kernel_rfl) (by kernel_rfl) (by kernel_rfl) (fun _ _ _ h => h) (Or.inl ⟨by rfl, ?_⟩) hHeld ?_
            rotate_left
            · (intro _ hSw; go_simp; try with_reducible rfl)
            simp only [List.setIfInBounds_toArray, List.set_cons_zero, List.set_cons_succ]
            refine wpAnyH_takeAt (i := 6) (d := 85) (v := ?_) rfl rfl (by kernel_rfl) (by kernel_rfl) (by kernel_rfl) (fun _ _ _ h => h) (Or.inl ⟨by rfl, ?_⟩) hHeld ?_
            rotate_left
            · (intro _ hSw; go_simp; try with_reducible rfl)
            simp only [List.setIfInBounds_toArray, List.set_cons_zero, List.set_cons_succ]
            refine wpAnyH_takeAt (i := 7) (d := 86) (v := ?_) rfl rfl (by kernel_rfl) (by kernel_rfl) (by kernel_rfl) (fun _ _ _ h => h) (Or.inl ⟨by rfl, ?_⟩) hHeld ?_
            rotate_left
            · (intro _ hSw; go_simp; try with_reducible rfl)
            simp only [List.setIfInBounds_toArray, List.set_cons_zero, List.set_cons_succ]
            refine wpAnyH_takeAt (i := 8) (d := 87) (v := ?_) rfl rfl (by kernel_rfl) (by kernel_rfl) (by kernel_rfl) (fun _ _ _ h => h) (Or.inl ⟨by rfl, ?_⟩) hHeld ?_
            rotate_left
            · (intro _ hSw; go_simp; try with_reducible rfl)
            simp only [List.setIfInBounds_toArray, List.set_cons_zero, List.set_cons_succ]
            refine wpAnyH_takeAt (i := 9) (d := 88) (v := ?_) rfl rfl (by kernel_rfl) (by kernel_rfl) (by kernel_rfl) (fun _ _ _ h => h) (Or.inl ⟨by rfl, ?_⟩) hHeld ?_
            rotate_left
            · (intro _ hSw; go_simp; try with_reducible rfl)
            simp only [List.setIfInBounds_toArray, List.set_cons_zero, List.set_cons_succ]
            refine wpAnyH_ready (rs := [10]) (by kernel_rfl) (by simp) ?_
            refine AllReadyH.cons rfl (fun K hK => ?_) AllReadyH.nil
            go_simp
            refine (J2.out _ hbJ).mono ?_
            intro e w8 ho8
            obtain ⟨A8, n8, c8, rfl, hn8, hL8, hb8⟩ := ho8.use
            have k8 := keepS_of (c := c8) hn8.out hL8
            have hbK := hbJ.trans (hb8.mono hbJ.size)
            have hb8' : Below w7.heap.size w7 w8 := hb8
            have kb8 : KeepS w8 A0 n0 c0 l := fun W hW => kb7 W (hb8'.trans (hW.mono hb8'.size))
            have ko8 : KeepS w8 (some ⟨g4, 0, none⟩) n0 c4 l := fun W hW => ko7 W (hb8'.trans (hW.mono hb8'.size))
            have kc8 := fun W (hW : Below w8.heap.size w8 W) => KC7.out W (hb8'.trans (hW.mono hb8'.size))
            clear ho8 hL8 hn8 k7 ky7 kb7 ko7 KC7
            unfold KeepS at k8 kb8 ko8
            dsimp only
            refine hK.out _ _ hb8' (fun hHeld => ?_)
            clear hK K hHeld
            refine wpAnyH_mono (S' := fun W => Below w8.heap.size w8 W) (fun W hW => hb8'.trans (Below.mono hW hb8'.size)) _ _ _ _ ?_
            have hHeld : (fun W => Below w8.heap.size w8 W) w8 := Below.refl _ _
            refine wpAnyH_takeAt (i := 11) (d := 90) (v := ?_) rfl rfl (by kernel_rfl) (by kernel_rfl) (by kernel_rfl) (fun _ _ _ h => h) (Or.inl ⟨by rfl, ?_⟩) hHeld ?_
            rotate_left
            · (intro _ hSw; go_simp; try with_reducible rfl)
            simp only [List.setIfInBounds_toArray, List.set_cons_zero, List.set_cons_succ]
            refine wpAnyH_takeAt (i := 12) (d := 91) (v := ?_) rfl rfl (by kernel_rfl) (by kernel_rfl) (by kernel_rfl) (fun _ _ _ h => h) (Or.inl ⟨by rfl, ?_⟩) hHeld ?_
            rotate_left
            · (intro _ hSw; go_simp; try with_reducible rfl)
            simp only [List.setIfInBounds_toArray, List.set_cons_zero, List.set_cons_succ]
            refine wpAnyH_takeAt (i := 13) (d := 92) (v := ?_) rfl rfl (by kernel_rfl) (by kernel_rfl) (by kernel_rfl) (fun _ _ _ h => h) (Or.inl ⟨by rfl, ?_⟩) hHeld ?_
            rotate_left
            · (intro _ hSw; go_simp; try with_reducible rfl)
            simp only [List.setIfInBounds_toArray, List.set_cons_zero, List.set_cons_succ]
            refine wpAnyH_takeAt (i := 14) (d := 93) (v := ?_) rfl rfl (by kernel_rfl) (by kernel_rfl) (by kernel_rfl) (fun _ _ _ h => h) (Or.inl ⟨by rfl, ?_⟩) hHeld ?_
            rotate_left
            · (intro _ hSw; go_simp; try with_reducible rfl)
            simp only [List.setIfInBounds_toArray, List.set_cons_zero, List.set_cons_succ]
            refine wpAnyH_takeAt (i := 15) (d := 94) (v := ?_) rfl rfl (by kernel_rfl) (by kernel_rfl) (by kernel_rfl) (fun _ _ _ h => h) (Or.inl ⟨by rfl, ?_⟩) hHeld ?_
            rotate_left
            · (intro _ hSw; go_simp; try with_reducible rfl)
            simp only [List.setIfInBounds_toArray, List.set_cons_zero, List.set_cons_succ]
            refine wpAnyH_takeAt (i := 16) (d := 95) (v := ?_) rfl rfl (by kernel_rfl) (by kernel_rfl) (by kernel_rfl) (fun _ _ _ h => h) (Or.inl ⟨by rfl, ?_⟩) hHeld ?_
            rotate_left
            · (intro _ hSw; go_simp; try with_reducible rfl)
            simp only [List.setIfInBounds_toArray, List.set_cons_zero, List.set_cons_succ]
            refine wpAnyH_takeAt (i := 17) (d := 96) (v := ?_) rfl rfl (by kernel_rfl) (by kernel_rfl) (by kernel_rfl) (fun _ _ _ h => h) (Or.inl ⟨by rfl, ?_⟩) hHeld ?_
            rotate_left
            · (intro _ hSw; go_simp; try with_reducible rfl)
            simp only [List.setIfInBounds_toArray, List.set_cons_zero, List.set_cons_succ]
            refine wpAnyH_takeAt (i := 18) (d := 97) (v := ?_) rfl rfl (by kernel_rfl) (by kernel_rfl) (by kernel_rfl) (fun _ _ _ h => h) (Or.inl ⟨by rfl, ?_⟩) hHeld ?_
            rotate_left
            · (intro _ hSw; go_simp; try with_reducible rfl)
            simp only [List.setIfInBounds_toArray, List.set_cons_zero, List.set_cons_succ]
            refine wpAnyH_takeAt (i := 19) (d := 98) (v := ?_) rfl rfl (by kernel_rfl) (by kernel_rfl) (by kernel_rfl) (fun _ _ _ h => h) (Or.inl ⟨by rfl, ?_⟩) hHeld ?_
            rotate_left
            · (intro _ hSw; go_simp; try with_reducible rfl)
            simp only [List.setIfInBounds_toArray, List.set_cons_zero, List.set_cons_succ]
            refine wpAnyH_takeAt (i := 20) (d := 99) (v := ?_) rfl rfl (by kernel_rfl) (by kernel_rfl) (by kernel_rfl) (fun _ _ _ h => h) (Or.inl ⟨by rfl, ?_⟩) hHeld ?_
            rotate_left
            · (intro _ hSw; go_simp; try with_reducible rfl)
            simp only [List.setIfInBounds_toArray, List.set_cons_zero, List.set_cons_succ]
            refine wpAnyH_takeAt (i := 21) (d := 100) (v := ?_) rfl rfl (by kernel_rfl) (by kernel_rfl) (by kernel_rfl) (fun _ _ _ h => h) (Or.inl ⟨by rfl, ?_⟩) hHeld ?_
            rotate_left
            · (intro _ hSw; go_simp; try with_reducible rfl)
            simp only [List.setIfInBounds_toArray, List.set_cons_zero, List.set_cons_succ]
            refine wpAnyH_takeAt (i := 22) (d := 101) (v := ?_) rfl rfl (by kernel_rfl) (by kernel_rfl) (by kernel_rfl) (fun _ _ _ h => h) (Or.inl ⟨by rfl, ?_⟩) hHeld ?_
            rotate_left
            · (intro _ hSw; go_simp; try with_reducible rfl)
            simp only [List.setIfInBounds_toArray, List.set_cons_zero, List.set_cons_succ]
            refine wpAnyH_takeAt (i := 23) (d := 102) (v := ?_) rfl rfl (by kernel_rfl) (by kernel_rfl) (by kernel_rfl) (fun _ _ _ h => h) (Or.inl ⟨by rfl, ?_⟩) hHeld ?_
            rotate_left
            · (intro _ hSw; go_simp; try with_reducible rfl)
            simp only [List.setIfInBounds_toArray, List.set_cons_zero, List.set_cons_succ]
            refine wpAnyH_takeAt (i := 24) (d := 103) (v := ?_) rfl rfl (by kernel_rfl) (by kernel_rfl) (by kernel_rfl) (fun _ _ _ h => h) (Or.inl ⟨by rfl, ?_⟩) hHeld ?_
            rotate_left
            · (intro _ hSw; go_simp; try with_reducible rfl)
            simp only [List.setIfInBounds_toArray, List.set_cons_zero, List.set_cons_succ]
            refine wpAnyH_takeAt (i := 25) (d := 104) (v := ?_) rfl rfl (by kernel_rfl) (by kernel_rfl) (by kernel_rfl) (fun _ _ _ h => h) (Or.inl ⟨by rfl, ?_⟩) hHeld ?_
            rotate_left
            · (intro _ hSw; go_simp; try with_reducible rfl)
            simp only [List.setIfInBounds_toArray, List.set_cons_zero, List.set_cons_succ]
            refine wpAnyH_takeAt (i := 26) (d := 105) (v := ?_) rfl rfl (by kernel_rfl) (by kernel_rfl) (by kernel_rfl) (fun _ _ _ h => h) (Or.inl ⟨by rfl, ?_⟩) hHeld ?_
            rotate_left
            · (intro _ hSw; go_simp; try with_reducible rfl)
            simp only [List.setIfInBounds_toArray, List.set_cons_zero, List.set_cons_succ]
            refine wpAnyH_takeAt (i := 27) (d := 106) (v := ?_) rfl rfl (by kernel_rfl) (by kernel_rfl) (by kernel_rfl) (fun _ _ _ h => h) (Or.inl ⟨by rfl, ?_⟩) hHeld ?_
            rotate_left
            · (intro _ hSw; go_simp; try with_reducible rfl)
            simp only [List.setIfInBounds_toArray, List.set_cons_zero, List.set_cons_succ]
            refine wpAnyH_takeAt (i := 28) (d := 107) (v := ?_) rfl rfl (by kernel_rfl) (by kernel_rfl) (by kernel_rfl) (fun _ _ _ h => h) (Or.inl ⟨by rfl, ?_⟩) hHeld ?_
            rotate_left
            · (intro _ hSw; go_simp; try with_reducible rfl)
            simp only [List.setIfInBounds_toArray, List.set_cons_zero, List.set_cons_succ]
            refine wpAnyH_takeAt (i := 29) (d := 108) (v := ?_) rfl rfl (by kernel_rfl) (by kernel_rfl) (by kernel_rfl) (fun _ _ _ h => h) (Or.inl ⟨by rfl, ?_⟩) hHeld ?_
            rotate_left
            · (intro _ hSw; go_simp; try with_reducible rfl)
            simp only [List.setIfInBounds_toArray, List.set_cons_zero, List.set_cons_succ]
            refine wpAnyH_takeAt (i := 30) (d := 109) (v := ?_) rfl rfl (by kernel_rfl) (by kernel_rfl) (by kernel_rfl) (fun _ _ _ h => h) (Or.inl ⟨by rfl, ?_⟩) hHeld ?_
            rotate_left
            · (intro _ hSw; go_simp; try with_reducible rfl)
            simp only [List.setIfInBounds_toArray, List.set_cons_zero, List.set_cons_succ]
            refine wpAnyH_takeAt (i := 31) (d := 110) (v := ?_) rfl rfl (by kernel_rfl) (by kernel_rfl) (by kernel_rfl) (fun _ _ _ h => h) (Or.inl ⟨by rfl, ?_⟩) hHeld ?_
            rotate_left
            · (intro _ hSw; go_simp; try with_reducible rfl)
            simp only [List.setIfInBounds_toArray, List.set_cons_zero, List.set_cons_succ]
            refine wpAnyH_takeAt (i := 32) (d := 111) (v := ?_) rfl rfl (by kernel_rfl) (by kernel_rfl) (by kernel_rfl) (fun _ _ _ h => h) (Or.inl ⟨by rfl, ?_⟩) hHeld ?_
            rotate_left
            · (intro _ hSw; go_simp; try with_reducible rfl)
            simp only [List.setIfInBounds_toArray, List.set_cons_zero, List.set_cons_succ]
            refine wpAnyH_ready (rs := [33]) (by kernel_rfl) (by simp) ?_
            refine AllReadyH.cons rfl (fun K hK => ?_) AllReadyH.nil
            go_simp
            refine (awake_any _).mono ?_
            rintro e w9 ⟨rfl, hb9⟩
            have hbL := hbK.trans (hb9.mono hbK.size)
            dsimp only
            refine hK.out _ _ hb9 (fun hHeld => ?_)
            clear hK K hHeld
            have hHeld : (fun W => Below w8.heap.size w8 W) w9 := hb9
            refine wpAnyH_takeAt (i := 34) (d := 113) (v := ?_) rfl rfl (by kernel_rfl) (by kernel_rfl) (by kernel_rfl) (fun _ _ _ h => h) (Or.inl ⟨by rfl, ?_⟩) hHeld ?_
            rotate_left
            · (intro _ hSw; go_simp; try with_reducible rfl)
            simp only [List.setIfInBounds_toArray, List.set_cons_zero, List.set_cons_succ]
            refine wpAnyH_takeAt (i := 35) (d := 6) (v := ?_) rfl rfl (by kernel_rfl) (by kernel_rfl) (by kernel_rfl) (fun _ _ _ h => h) (Or.inl ⟨by rfl, ?_⟩) hHeld ?_
            rotate_left
            · (intro _ hSw; go_simp; try with_reducible rfl)
            simp only [List.setIfInBounds_toArray, List.set_cons_zero, List.set_cons_succ]
            refine wpAnyH_done (by kernel_rfl) ?_ _
            go_wp2
            go_ret
            exact ⟨rfl, e7.trans (hbL.mono e7.size)⟩

end Go.Proofs.Ythpdcoodfjficaa
