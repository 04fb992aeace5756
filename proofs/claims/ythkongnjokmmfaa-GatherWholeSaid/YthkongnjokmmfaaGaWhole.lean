/- GatherWhole: for every id, every payload, every chunk's size and every row of places the call returns true (of the chunks of a payload, in whatever order, and however often, it is told when the last one of them comes, once, and it is the payload; the others are kept, or old), and changes nothing that was there. No conditions. -/
import Derived.Test.YthkongnjokmmfaaGaW
import Derived.ChangeOld
namespace Go.Proofs.Ythkongnjokmmfaa
open Go.ChangeShapes Go.WideShapes Go.ChangeAt Go.RowKit

theorem whl_new (x : Id) (p : List UInt8) (k : Nat) (hk : 1 ≤ k) (hk2 : k ≤ 65536) (hp : p.length ≤ 300) : Whl (newG (k : Int) 300 300) x p k (List.replicate (cntN p.length k) false) := by
  refine ⟨newG_ok _ _ _, ?_, ?_, by simp, ?_, .inl ⟨by simp, rfl⟩⟩
  · show (max 1 (min (k : Int) 65536)).toNat = k; omega
  · show p.length ≤ (max 0 (min (300 : Int) 1048576)).toNat; omega
  · rw [count_all, decide_eq_false_iff_not, List.count_replicate]
    have := cntN_pos p.length k
    simp; omega
theorem infoBool : (Try.prog.info? 4).map (fun i => (i.zero, i.size, i.bytes)) = some (some (.bool false), 1, 1) := by kernel_rfl

set_option maxRecDepth 100000 in
set_option maxHeartbeats 6400000 in
theorem gatherWhole_walk (x : Id) (A : Option Addr) (c : Nat) (p : List UInt8) (by' : Nat) (hby : by' < 256) (Ao : Option Addr) (co : Nat) (ord : List Nat) (w : World) (hc : p.length ≤ c) (hcm : c ≤ maxLen) (hL : Lies w w.heap.size A (bvs p)) (hLo : Lies w w.heap.size Ao (svs ord)) (hord : ∀ o ∈ ord, o < 65536) (hp : p.length ≤ 300) (ho : ord.length ≤ 200) (hmay : mayB x = true) :
    Calls Try.prog 3 #[valId x, .slice A p.length c, .int .u8 (by' : Int), .slice Ao ord.length co] w fun e w' => e = .returned (.bool true) ∧ RowKit.Below w.heap.size w w' := by
  have HM : Hid (∀ W, Calls Try.prog 5 #[valId x, .int .i64 64] W fun e w' => e = .returned (.bool true) ∧ Grew W w') := fun W => by
    have := refMay_any x 64 W (by omega)
    rw [may64, hmay] at this
    exact this
  obtain ⟨k, hk⟩ : ∃ k : Nat, k = by' + 1 := ⟨_, rfl⟩
  have hk1 : 1 ≤ k := by omega
  have hk2 : k ≤ 65536 := by omega
  obtain ⟨N, hN⟩ : ∃ N, N = cntN p.length k := ⟨_, rfl⟩
  have hNp : 1 ≤ N := by rw [hN]; exact cntN_pos _ _
  have hNl : N ≤ 301 := by rw [hN]; have := cntN_le p.length k; omega
  have HCN : Hid (∀ W, Calls Try.prog 7 #[.int .i64 (p.length : Int), .int .i64 (1 + (by' : Int))] W fun e w' => e = .returned (.int .i64 (N : Int)) ∧ W = w') := fun W => by
    have := refCount_any (p.length : Int) (1 + (by' : Int)) W
    rw [show (1 + (by' : Int)) = (k : Int) by omega, cntZ_yes (by omega) hk1 hk2, ← hN] at this
    rw [show (1 + (by' : Int)) = (k : Int) by omega]
    exact this.mono fun _ _ ⟨e1, e2⟩ => ⟨e1, e2.symm⟩
  have hmk : ∀ W : World, (Instr.makeSlice 32 (.int .i64 (N : Int)) (.int .i64 (N : Int))).run Try.prog W = .ok (.slice (some ⟨W.heap.size, 0, none⟩) N N) (W.alloc (.cells (madeCells #[.bool false] N) 4)) := fun W =>
    run_make_row' 32 4 (.bool false) 1 Try.underlying32 infoBool rfl .i64 .i64 N (by omega) (by omega) W
  have HNW : Hid (∀ W, Calls Try.prog 8 #[.int .i64 (1 + (by' : Int)), .int .i64 300, .int .i64 300] W fun e w' => e = .returned (.pointer (some ⟨W.heap.size, 0, none⟩)) ∧ GtAt w' W.heap.size W.heap.size (.slice none 0 0) [] (newG (k : Int) 300 300) (fun b => b = W.heap.size) ∧ RowKit.Below W.heap.size W w' ∧ w'.heap.size = W.heap.size + 1) := fun W => by
    have := newG_any (1 + (by' : Int)) 300 300 (by omega) W
    rw [show (1 + (by' : Int)) = (k : Int) by omega] at this ⊢
    exact this
  have hd1 : decide ((300 : Int) < (p.length : Int)) = false := decide_eq_false (by omega)
  have hd2 : decide ((200 : Int) < (ord.length : Int)) = false := decide_eq_false (by omega)
  have ewk : IntKind.i64.wrap (by' : Int) = (by' : Int) := by rw [IntKind.wrap_i64] <;> omega
  have HL := Lib.hid hL
  have HLO := Lib.hid hLo
  have HORD := Lib.hid hord
  have HMAY := Lib.hid hmay
  have HNE := Lib.hid hN
  clear hL hLo hord hmay hN
  unfold valId at *
  go_enter Try.func3, Try.ntmps3
  go_wp2_with fail
  generalize hw0 : World.alloc w _ = w0
  obtain ⟨hs0, hG, hcc⟩ := box1 w w0 _ _ hw0
  have hb0 : RowKit.Below w.heap.size w w0 := hG.below
  have x0 := hcc 0 _ rfl
  have x1 := hcc 1 _ rfl
  clear hcc hw0 hG
  refine (HM.out w0).mono ?_
  rintro e w1 ⟨rfl, hg1⟩
  have hb1 := hg1.below
  have y0 := (hb1.cell (p := ⟨w.heap.size, 0, none⟩) (by show w.heap.size < w0.heap.size; omega)).trans x0
  have y1 := (hb1.cell (p := ⟨w.heap.size, 1, none⟩) (by show w.heap.size < w0.heap.size; omega)).trans x1
  have hs1 := hb1.size
  have HB1 := Lib.hid (hb0.trans (hb1.mono hb0.size))
  clear x0 x1 hg1 hb0 hb1 HM
  go_wp2_with fail
  refine (HCN.out w1).mono ?_
  rintro e w1 ⟨rfl, rfl⟩
  clear HCN
  go_wp2_with fail
  refine (HNW.out w1).mono ?_
  rintro e w2 ⟨rfl, hg2, hb2, hs2⟩
  have HS : Hid (∀ w3, w3 = w2.alloc (.cells (madeCells #[.bool false] N) 4) → WhS w w1.heap.size (w1.heap.size + 1) x p k 0 (List.replicate N false) w3) := by
    rintro w3 rfl
    have hb3 : RowKit.Below w2.heap.size w2 (w2.alloc (.cells (madeCells #[.bool false] N) 4)) := (RowKit.Below.refl _ _).alloc (Nat.le_refl _) _
    have hb13 := hb2.trans (hb3.mono hb2.size)
    refine ⟨HB1.out.trans (hb13.mono HB1.out.size), (hb13.cell (p := ⟨w.heap.size, 0, none⟩) (by show w.heap.size < w1.heap.size; omega)).trans y0, (hb13.cell (p := ⟨w.heap.size, 1, none⟩) (by show w.heap.size < w1.heap.size; omega)).trans y1, ?_, by omega, by omega, by rw [List.length_replicate]; exact HNE.out, _, _, _, _, hg2.on hb3, by omega, Nat.le_refl _, newG_ok _ _ _, fun _ => ?_, fun _ => rfl⟩
    · rw [← hs2]
      have := heap_alloc_new w2 (.cells (madeCells #[.bool false] N) 4 (0, 0))
      rw [this]
      have e : madeCells #[.bool false] N = bvz (List.replicate N false) := by
        have h1 := toList_madeCells_one' #[Value.bool false] (v := .bool false) rfl N
        have h2 : (bvz (List.replicate N false)).toList = List.replicate N (.bool false) := by simp [bvz]
        exact Array.ext' (h1.trans h2.symm)
      rw [e]
    · rw [HNE.out]; exact whl_new x p k hk1 hk2 hp
  have HS2 := Lib.hid hs2
  clear hg2 hb2 HNW y0 y1
  have HPC : Hid (∀ V, RowKit.Below w.heap.size w V → ∀ a, a < N → Calls Try.prog 9 #[.agg #[.int .u8 (x.f : Int), .int .u64 (x.s : Int)], .slice A p.length c, .int .i64 (1 + (by' : Int)), .int .i64 (a : Int)] V fun e w' => ∃ y : Pf, e = .returned (.agg y.cs) ∧ y.F = frAt x p k (cntN p.length k) a ∧ y.Own w' V.heap.size ∧ RowKit.Below V.heap.size V w') := fun V hV a ha => by
    have := piece_any x A c p k a V (by omega) hc hcm (HL.out.later (hV.mono (Nat.le_refl _))) hk1 hk2 (by rw [← HNE.out]; exact ha)
    rw [show (1 + (by' : Int)) = (k : Int) by omega]
    exact this
  go_wp2_with fail
  have hSS := HS.out _ rfl
  generalize w2.alloc (.cells (madeCells #[.bool false] N) 4) = w3 at hSS ⊢
  have HSS := Lib.hid hSS
  clear hSS HS HS2 hmk hd1 hd2
  have hcnt0 : (List.replicate N false).count false = N := by rw [List.count_replicate]; simp
  generalize w1.heap.size = gp at *
  go_loopw [13, 14, 15, 16, 17, 18, 19, 20] (fun s13 s14 _ _ _ _ _ _ wr => ∃ (i : Nat) (has : List Bool), i ≤ ord.length ∧ s14 = .int .i64 (i : Int) ∧ s13 = .int .i64 (has.count false : Int) ∧ Hid (WhS w gp (gp + 1) x p k i has wr)) (fun _ s14 _ _ _ _ _ _ _ => ord.length - (intOf s14).toNat)
  case atStart => exact ⟨0, _, Nat.zero_le _, rfl, by rw [hcnt0], HSS⟩
  case round =>
    clear HSS hcnt0
    obtain ⟨i, has, hi, rfl, rfl, HST⟩ := hrel
    by_cases hlt : i < ord.length
    · by_cases hcnt : 0 < has.count false
      · obtain ⟨o, hoe⟩ : ∃ o, ord[i] = o := ⟨_, rfl⟩
        have ho16 : o < 65536 := by rw [← hoe]; exact HORD.out _ (List.getElem_mem hlt)
        obtain ⟨a, hae⟩ : ∃ a, a = o % N := ⟨_, rfl⟩
        have haN : a < N := by rw [hae]; exact Nat.mod_lt _ (by omega)
        have hrem : (o : Int) % (N : Int) = (a : Int) := by rw [hae]; omega
        have htm : (o : Int).tmod (N : Int) = (a : Int) := by rw [Int.tmod_eq_emod_of_nonneg (by omega)]; exact hrem
        have hN0 : ((N : Int) == 0) = false := beq_eq_false_iff_ne.2 (by omega)
        have ewo : IntKind.i64.wrap (o : Int) = (o : Int) := by rw [IntKind.wrap_i64] <;> omega
        have hcb : decide ((0 : Int) < (has.count false : Int)) = true := decide_eq_true (by omega)
        obtain ⟨bo, off, rfl, hbo, hco⟩ := (HLO.out.later HST.out.below).at_ (k := i) (u := .int .u16 (o : Int)) (by rw [← hoe]; simp [svs, hlt])
        have z0 := HST.out.c0
        have z1 := HST.out.c1
        have HPC1 := Lib.hid (HPC.out wr HST.out.below a haN)
        have HHN := Lib.hid hcnt
        clear hae hoe hcnt
        have hcnm : has.count false ≤ 301 := by have h1 := List.count_le_length (a := false) (l := has); have h2 := HST.out.len; have h3 := HNE.out; omega
        generalize hcn : has.count false = cn at *
        have HCNT := Lib.hid hcn
        clear hcn
        go_wp2_with fail
        refine HPC1.out.mono ?_
        rintro e w4 ⟨y, rfl, hyF, hyO, hb4⟩
        have hs4 := hb4.size
        generalize hw5 : w4.alloc (.cells y.cs 40) = w5
        have hb45 : RowKit.Below w4.heap.size w4 w5 := by rw [← hw5]; exact (RowKit.Below.refl _ _).alloc (Nat.le_refl _) _
        have hs5 : w5.heap.size = w4.heap.size + 1 := by rw [← hw5]; simp
        have hrow5 : w5.heap[w4.heap.size]? = some (.cells y.cs 40 (0, 0)) := by rw [← hw5]; exact heap_alloc_new w4 (.cells y.cs 40 (0, 0))
        have HPUT := Lib.hid (wh_put HST.out HMAY.out hp (by rw [← HNE.out]; exact haN) (by rw [HCNT.out]; exact HHN.out) (by omega) (hb4.trans (hb45.mono hb4.size)) hyF (hyO.on hb45))
        have HY5 := Lib.hid (hyO.on hb45)
        have HYL := Lib.hid (And.intro hs4 hyO)
        have hdlm : y.F.data.length ≤ 300 := by rw [hyF]; show (chL p k a).length ≤ 300; rw [chL_len]; omega
        have HW5 := Lib.hid hw5
        have HR5 := Lib.hid hrow5
        clear hb4 hb45 hrow5 z0 z1 hco hbo HPC1 hyF hyO
        go_wp2_with (first | (refine store_frame_new (.tmp 16) (.tmp 68) rfl rfl rfl rfl (Pf.size y) (Pf.one y) ?_; rw [HW5.out]) | (refine load_frame (.tmp 16) rfl HR5.out (Pf.size y) ?_) | fail)
        refine HPUT.out.mono ?_
        rintro e w6 ⟨vp, rfl, hT, hO6⟩
        have HIN := Lib.hid (InS.start hT hO6 (HYL.out).1 HW5.out.symm (HYL.out).2)
        have ha' : a < has.length := by rw [HST.out.len, ← HNE.out]; exact haN
        clear hT hO6 HPUT HST HY5 HR5 HW5 HYL HPC hs4 hs5
        generalize w5.heap.size = hi5 at *
        generalize w4.heap.size = fb at *
        generalize wr.heap.size = lo at *
        go_wp2_with fail
        generalize hdl : y.F.data.length = dl at *
        have HDL := Lib.hid hdl
        clear hdl
        go_loopw [19] (fun s19 wv => ∃ j : Nat, j ≤ dl ∧ s19 = .int .i64 (j : Int) ∧ Hid (InS w gp (gp + 1) x p k (i + 1) has (has.set a true) vp (toldW p has a) lo hi5 fb y wv)) (fun s19 _ => dl - (intOf s19).toNat)
        case atStart => exact ⟨0, Nat.zero_le _, rfl, HIN⟩
        case round =>
          clear HIN
          obtain ⟨j, hj, rfl, HI⟩ := hrel
          have q15 := HI.out.c15
          rw [HDL.out] at q15
          by_cases hjl : j < dl
          · obtain ⟨db, z, hA, hdb, cz, fz, hset⟩ := HI.out.at_ (j := j) (by rw [HDL.out]; exact hjl)
            have HSET := Lib.hid hset
            rw [hA] at q15
            clear hset hA
            go_wp2_with fail
            go_roundw
            case rel => exact ⟨j + 1, by omega, by go_num, HSET.out _⟩
            case measure => simp [intOf]; omega
          · have ht := HI.out.t
            obtain ⟨cw, fw⟩ := ht.was ha'
            have HT := Lib.hid ht
            obtain ⟨T0, L0, g0, D0, -, hnD, -, -, -, -, hTold, -⟩ := ht.g
            obtain ⟨At, nt, ct, rfl, t1, t2, t3, t4⟩ := hTold
            have HT4 := Lib.hid t4
            have HND := Lib.hid hnD
            clear ht HI t4 hnD
            by_cases hh : has.getD a false = true
            · have hmk : madeW has a = 2 := by unfold madeW; rw [if_pos hh]
              have htd : toldW p has a = [] := by unfold toldW; rw [hmk]; exact if_neg (by decide)
              rw [htd] at t1
              obtain rfl : nt = 0 := t1.symm
              rw [hmk]
              rw [hh] at cw
              have HNX := Lib.hid (HT.out.there hh)
              have hcne : ((cn : Int) == 0) = false := beq_eq_false_iff_ne.2 (by have := HHN.out; omega)
              have HC2 : Hid (((has.set a true).count false : Nat) = cn) := by rw [set_there hh]; exact HCNT.out
              clear HT HT4 hh hmk htd fw t1
              go_wp2
              go_roundw
              case rel => exact ⟨i + 1, has.set a true, by omega, by go_num, by rw [HC2.out], HNX⟩
              case measure => simp [intOf]; omega
            · have hh' : has.getD a false = false := by simpa using hh
              have hcs := count_set ha' hh'
              rw [HCNT.out] at hcs
              have HNX := Lib.hid (HT.out.noted)
              rw [hh'] at cw
              obtain ⟨c2, hc2⟩ : ∃ c2, (has.set a true).count false = c2 := ⟨_, rfl⟩
              rw [hc2] at hcs
              have hcn1 : (cn : Int) - 1 = (c2 : Int) := by omega
              by_cases h0 : c2 = 0
              · have hmk : madeW has a = 5 := by unfold madeW; rw [if_neg hh, if_pos (hc2.trans h0)]
                have htd : toldW p has a = p := by unfold toldW; rw [hmk]; exact if_pos rfl
                rw [htd] at t1 HT4
                rw [hmk]
                have hset := (HT4.out.kept (OnlyE.mono (onlyE_set (D := fun b => b = gp + 1) rfl a (.bool true)) fun b hb => Or.inr (hb ▸ HND.out))).lies
                have hst := strs_of t1 hset
                have hsp := strs_of rfl (HL.out.later HNX.out.below)
                unfold Strs at hst hsp
                have hceq : ((cn : Int) - 1 == 0) = true := by rw [beq_iff_eq]; omega
                have HC2 : Hid (Value.int .i64 ((cn : Int) - 1) = .int .i64 ((has.set a true).count false : Nat)) := by show Value.int .i64 _ = .int .i64 _; rw [hc2, ← hcn1]
                clear HT HT4 HND hh hh' hmk htd t1 hset hcn1 hcs hc2 h0
                go_wp2
                go_roundw
                case rel => exact ⟨i + 1, has.set a true, by omega, by go_num, HC2.out, HNX⟩
                case measure => simp [intOf]; omega
              · have hmk : madeW has a = 4 := by unfold madeW; rw [if_neg hh, if_neg (by rw [hc2]; exact h0)]
                have htd : toldW p has a = [] := by unfold toldW; rw [hmk]; exact if_neg (by decide)
                rw [htd] at t1
                obtain rfl : nt = 0 := t1.symm
                rw [hmk]
                have hcne : ((cn : Int) - 1 == 0) = false := beq_eq_false_iff_ne.2 (by omega)
                have HC2 : Hid (Value.int .i64 ((cn : Int) - 1) = .int .i64 ((has.set a true).count false : Nat)) := by show Value.int .i64 _ = .int .i64 _; rw [hc2, ← hcn1]
                clear HT HT4 HND hh hh' hmk htd t1 hcn1 hcs hc2 h0
                go_wp2
                go_roundw
                case rel => exact ⟨i + 1, has.set a true, by omega, by go_num, HC2.out, HNX⟩
                case measure => simp [intOf]; omega
      · have hlb : decide ((i : Int) < (ord.length : Int)) = true := decide_eq_true (by omega)
        have hc0 : has.count false = 0 := by omega
        obtain ⟨hU, hI⟩ := wh_end HST.out hc0
        have HU := Lib.hid hU
        have HI := Lib.hid hI
        have HB := Lib.hid HST.out.below
        clear hU hI HST hcnt
        generalize has.count false = cn at *
        subst hc0
        go_wp2_with (first
          | (go_at_call 11; refine HU.out.mono ?_; rintro e w' ⟨rfl, rfl⟩)
          | (go_at_call 12; refine HI.out.mono ?_; rintro e w' ⟨rfl, rfl⟩)
          | (go_at_call 6; refine (awake_any _).mono ?_; rintro e w' ⟨rfl, hb⟩))
        go_ret
        exact ⟨rfl, HB.out.trans (hb.mono HB.out.size)⟩
    · have hlb : decide ((i : Int) < (ord.length : Int)) = false := decide_eq_false (by omega)
      by_cases hcnt : 0 < has.count false
      · have HB := Lib.hid HST.out.below
        clear HST
        generalize has.count false = cn at *
        obtain ⟨c3, rfl⟩ : ∃ c3, cn = c3 + 1 := ⟨cn - 1, by omega⟩
        have hcb : decide ((0 : Int) < ((c3 + 1 : Nat) : Int)) = true := decide_eq_true (by omega)
        clear hcnt
        go_wp2_with (go_at_call 6; refine (awake_any _).mono ?_; rintro e w' ⟨rfl, hb⟩)
        go_ret
        exact ⟨rfl, HB.out.trans (hb.mono HB.out.size)⟩
      · have hc0 : has.count false = 0 := by omega
        obtain ⟨hU, hI⟩ := wh_end HST.out hc0
        have HU := Lib.hid hU
        have HI := Lib.hid hI
        have HB := Lib.hid HST.out.below
        clear hU hI HST hcnt
        generalize has.count false = cn at *
        subst hc0
        go_wp2_with (first
          | (go_at_call 11; refine HU.out.mono ?_; rintro e w' ⟨rfl, rfl⟩)
          | (go_at_call 12; refine HI.out.mono ?_; rintro e w' ⟨rfl, rfl⟩)
          | (go_at_call 6; refine (awake_any _).mono ?_; rintro e w' ⟨rfl, hb⟩))
        go_ret
        exact ⟨rfl, HB.out.trans (hb.mono HB.out.size)⟩

theorem whole_long (x : Id) (A : Option Addr) (n c by' : Nat) (Ao : Option Addr) (no co : Nat) (w : World) (hn : 300 < n) : Calls Try.prog 3 #[valId x, .slice A n c, .int .u8 (by' : Int), .slice Ao no co] w fun e w' => e = .returned (.bool true) ∧ RowKit.Below w.heap.size w w' := by
  have hd : decide ((300 : Int) < (n : Int)) = true := decide_eq_true (by omega)
  unfold valId
  go_enter Try.func3, Try.ntmps3
  go_wp2_with fail
  generalize hw0 : World.alloc w _ = w0
  have hb0 : RowKit.Below w.heap.size w w0 := by rw [← hw0]; exact (RowKit.Below.refl _ _).alloc (Nat.le_refl _) _
  clear hw0
  refine (awake_any w0).mono ?_
  rintro e w1 ⟨rfl, hb1⟩
  have HB := Lib.hid (hb0.trans (hb1.mono hb0.size))
  clear hb0 hb1
  go_wp2
  go_ret
  exact ⟨rfl, HB.out⟩
theorem whole_many (x : Id) (A : Option Addr) (n c by' : Nat) (Ao : Option Addr) (no co : Nat) (w : World) (hn : n ≤ 300) (ho : 200 < no) : Calls Try.prog 3 #[valId x, .slice A n c, .int .u8 (by' : Int), .slice Ao no co] w fun e w' => e = .returned (.bool true) ∧ RowKit.Below w.heap.size w w' := by
  have hd : decide ((300 : Int) < (n : Int)) = false := decide_eq_false (by omega)
  have hd2 : decide ((200 : Int) < (no : Int)) = true := decide_eq_true (by omega)
  unfold valId
  go_enter Try.func3, Try.ntmps3
  go_wp2_with fail
  generalize hw0 : World.alloc w _ = w0
  have hb0 : RowKit.Below w.heap.size w w0 := by rw [← hw0]; exact (RowKit.Below.refl _ _).alloc (Nat.le_refl _) _
  clear hw0
  refine (awake_any w0).mono ?_
  rintro e w1 ⟨rfl, hb1⟩
  have HB := Lib.hid (hb0.trans (hb1.mono hb0.size))
  clear hb0 hb1
  go_wp2
  go_ret
  exact ⟨rfl, HB.out⟩
theorem whole_not (x : Id) (A : Option Addr) (n c by' : Nat) (Ao : Option Addr) (no co : Nat) (w : World) (hn : n ≤ 300) (ho : no ≤ 200) (hm : mayB x = false) : Calls Try.prog 3 #[valId x, .slice A n c, .int .u8 (by' : Int), .slice Ao no co] w fun e w' => e = .returned (.bool true) ∧ RowKit.Below w.heap.size w w' := by
  have HM : Hid (∀ W, Calls Try.prog 5 #[valId x, .int .i64 64] W fun e w' => e = .returned (.bool false) ∧ Grew W w') := fun W => by
    have := refMay_any x 64 W (by omega)
    rw [may64, hm] at this
    exact this
  have hd : decide ((300 : Int) < (n : Int)) = false := decide_eq_false (by omega)
  have hd2 : decide ((200 : Int) < (no : Int)) = false := decide_eq_false (by omega)
  unfold valId at *
  clear hm
  go_enter Try.func3, Try.ntmps3
  go_wp2_with fail
  generalize hw0 : World.alloc w _ = w0
  have hb0 : RowKit.Below w.heap.size w w0 := by rw [← hw0]; exact (RowKit.Below.refl _ _).alloc (Nat.le_refl _) _
  clear hw0
  refine (HM.out w0).mono ?_
  rintro e w1 ⟨rfl, hg1⟩
  have HB1 := Lib.hid (hb0.trans (hg1.below.mono hb0.size))
  clear hb0 hg1 HM
  go_wp2_with fail
  refine (awake_any w1).mono ?_
  rintro e w2 ⟨rfl, hb2⟩
  have HB := Lib.hid (HB1.out.trans (hb2.mono HB1.out.size))
  clear HB1 hb2
  go_wp2
  go_ret
  exact ⟨rfl, HB.out⟩

theorem own : ownKnob Try.prog.godebug = none := by kernel_rfl
theorem laidOut : laidOutB Try.prog = true := by kernel_rfl

set_option maxRecDepth 100000 in
theorem gatherWhole_lifted (os : Os) (started : os.Started) (H : Type) (enc : TypeId × Value → H) :
    ReturnsInHanded {} Try.checked os 3 .any (Rows.gatherWholeSpec.pre6 enc Try.prog Try.f3 Rows.gatherWholeRow.domain false) (Rows.gatherWholeSpec.post enc Try.prog Try.f3 false true false false) := by
  refine returnsInHanded_of_change (C := Try.checked) own started (by kernel_rfl) Try.func3
    (ChangeSpec.witness6 (enc := enc) (C := Try.checked) false ⟨#[], #[.agg #[.int .u8 0, .int .u64 0], .slice none 0 0, .int .u8 0, .slice none 0 0], []⟩ 8 (by kernel_rfl) (by kernel_rfl) (by kernel_rfl) (by kernel_rfl)) ?_
  intro W base args ds gs before hval0 hW _ _
  have hval : ∀ (j : Nat) t v, Try.f3.params[j]? = some t → args[j]? = some v → Value.okWide Try.prog W .any base t v := hval0
  have hW' := hW
  obtain ⟨p, q, hA0, hV, rfl, _, _⟩ := hW
  have hA : DataW.TrodAll enc Try.prog W 0 (fun _ => true) true Try.f3.params.toList args.toList ds p := hA0
  rw [Try.params3] at hA hval
  obtain ⟨v0, vs0, d0, ds0, p0, q0, hargs, rfl, rfl, h0, r0⟩ := trodAll_cons hA
  obtain ⟨v1, vs1, d1, ds1, p1, q1, rfl, rfl, rfl, h1, r1⟩ := trodAll_cons r0
  obtain ⟨v2, vs2, d2, ds2, p2, q2, rfl, rfl, rfl, h2, r2⟩ := trodAll_cons r1
  obtain ⟨v3, vs3, d3, ds3, p3, q3, rfl, rfl, rfl, h3, r3⟩ := trodAll_cons r2
  obtain ⟨rfl, rfl, rfl⟩ := trodAll_nil r3
  obtain rfl : args = #[v0, v1, v2, v3] := by cases args; simp_all
  obtain ⟨rfl, rfl⟩ := trodVars_none hV
  have k0 := h0
  have lt0 : ∀ x ∈ p0, x.block < W.heap.size := by obtain ⟨m, hm⟩ := k0; exact DataW.trod_lt m _ _ _ hm
  have k1 := h1
  have lt1 : ∀ x ∈ p1, x.block < W.heap.size := by obtain ⟨m, hm⟩ := k1; exact DataW.trod_lt m _ _ _ hm
  have k2 := h2
  have lt2 : ∀ x ∈ p2, x.block < W.heap.size := by obtain ⟨m, hm⟩ := k2; exact DataW.trod_lt m _ _ _ hm
  have k3 := h3
  have lt3 : ∀ x ∈ p3, x.block < W.heap.size := by obtain ⟨m, hm⟩ := k3; exact DataW.trod_lt m _ _ _ hm
  obtain ⟨x0, rfl⟩ := open_id (hval 0 24 v0 rfl rfl) h0
  obtain ⟨a2, rfl, _, _, wf2⟩ := open_int Try.underlying5 (hval 2 5 v2 rfl rfl) h2
  have b2 := bounds_u8 wf2
  obtain ⟨kk, rfl⟩ : ∃ k : Nat, a2 = (k : Int) := ⟨a2.toNat, by omega⟩
  have hwalk : Calls Try.prog 3 #[valId x0, v1, .int .u8 (kk : Int), v3] W fun e w' => e = .returned (.bool true) ∧ Below W.heap.size W w' := by
    obtain ⟨x1, len1, cap1, rfl⟩ := okWide_slice Try.underlying25 (hval 1 25 v1 rfl rfl)
    obtain ⟨x3, len3, cap3, rfl⟩ := okWide_slice Try.underlying26 (hval 3 26 v3 rfl rfl)
    obtain ⟨fuel1, hf1⟩ := h1
    obtain ⟨fuel3, hf3⟩ := h3
    obtain ⟨l, A, n, c, hv, hl, hc, hcm, hL⟩ := open_bytes Try.underlying25 Try.underlying5 (by kernel_rfl) (by simpa [Value.cells] using hf1)
    injection hv with e1 e2 e3
    subst e1 e2 e3
    obtain ⟨lo, Ao, no, co, hv, hlo, hco, hcmo, hLo, hord⟩ := open_u16s Try.underlying26 Try.underlying33 (by kernel_rfl) (by simpa [Value.cells] using hf3)
    injection hv with e1 e2 e3
    subst e1 e2 e3
    subst hl hlo
    by_cases hn : 300 < l.length
    · exact whole_long x0 _ _ _ _ _ _ _ W hn
    · by_cases hn2 : 200 < lo.length
      · exact whole_many x0 _ _ _ _ _ _ _ W (by omega) hn2
      · by_cases hm : mayB x0 = true
        · exact gatherWhole_walk x0 x1 cap1 l kk (by omega) x3 cap3 lo W hc hcm hL hLo hord (by omega) (by omega) hm
        · exact whole_not x0 _ _ _ _ _ _ _ W (by omega) (by omega) (by simpa using hm)
  clear hA0 hval0
  refine hwalk.mono fun e W' ⟨he, bel⟩ => ?_
  subst he
  exact ⟨_, rfl, _, _, _, [], _, [], hW', trodAll_mk1 (shut_bool Try.underlying4 _), (trodAll_cons_mk (Below.trod laidOut (by kernel_rfl) (of_decide_eq_true (by kernel_rfl)) k0 bel lt0) (trodAll_cons_mk (Below.trod laidOut (by kernel_rfl) (of_decide_eq_true (by kernel_rfl)) k1 bel lt1) (trodAll_cons_mk (Below.trod laidOut (by kernel_rfl) (of_decide_eq_true (by kernel_rfl)) k2 bel lt2) (trodAll_cons_mk (Below.trod laidOut (by kernel_rfl) (of_decide_eq_true (by kernel_rfl)) k3 bel lt3) trodAll_mk0)))), rfl, bel.frame _, fun h => by cases h⟩

theorem gatherWhole_proved : Rows.GatherWholeSaid :=
  OpenClaim.holds_of_wide 3 Try.f3 rfl rfl rfl rfl rfl rfl rfl ⟨rfl, rfl, rfl, rfl, rfl⟩ rfl rfl rfl rfl rfl (by kernel_rfl) Try.func3 (by kernel_rfl)
    (of_decide_eq_true (by kernel_rfl)) (by unfold Func.isWrapper; first | (rw [if_pos (by decide +kernel)]; kernel_rfl) | (rw [if_neg (by decide +kernel)]; exact ⟨rfl, rfl⟩))
    (fun os started H enc _ => gatherWhole_lifted os started H enc)

end Go.Proofs.Ythkongnjokmmfaa
