/- Stage 16: the document's Drop. -/
import Derived.Test.YtmnjedpnhilndaaReR
set_option maxRecDepth 20000
namespace Go.Proofs.Ytmnjedpnhilndaa
open Go.RowKit Go.Sort Go.Maps

/-- What the document's Drop answers. -/
def DropQ (w : World) (room : Nat) (A : Option Addr) (ds : List Pf) (lost : Nat) (ls : List (List Nat)) (e : Ending) (w' : World) : Prop :=
  ∃ A' c' r, e = .returned (.tuple #[.agg (qc room (.slice A' (staysP (goesV ls) ds).length c') lost), .int .i64 r]) ∧ r = (ds.length : Int) - ((staysP (goesV ls) ds).length : Int) ∧ (staysP (goesV ls) ds).length ≤ c' ∧ c' ≤ maxLen ∧ RowKit.Below w.heap.size w w' ∧
    ∀ D, (∀ b, D b → b < w.heap.size) → RowX w D A ds → RowX w' D A' (staysP (goesV ls) ds)

theorem stays_snoc_gone {P : Pl → Bool} {l : List Pf} {k : Nat} (h : k < l.length) (hp : P l[k].pl = true) : staysP P (l.take (k + 1)) = staysP P (l.take k) := by
  unfold staysP
  rw [List.take_succ_eq_append_getElem h, List.filter_append]
  simp [hp]
theorem stays_snoc_kept {P : Pl → Bool} {l : List Pf} {k : Nat} (h : k < l.length) (hp : P l[k].pl = false) : staysP P (l.take (k + 1)) = staysP P (l.take k) ++ [l[k]] := by
  unfold staysP
  rw [List.take_succ_eq_append_getElem h, List.filter_append]
  simp [hp]
theorem stays_len (P : Pl → Bool) (l : List Pf) : (staysP P l).length ≤ l.length := List.length_filter_le _ _

/-- What stands in the document's Drop. -/
structure DqS (w : World) (room : Nat) (A : Option Addr) (n c lost : Nat) (os : List Pf) (v : Value) (wr : World) : Prop where
  box : TBox w (qc room (.slice A n c) lost) zeroQ wr
  row : wr.ownsRow (w.heap.size + 2) 40 16 v os.length (flat encPf os)
theorem DqS.on {w wr W : World} {room : Nat} {A : Option Addr} {n c lost : Nat} {os : List Pf} {v : Value} (h : DqS w room A n c lost os v wr) (hb : RowKit.Below wr.heap.size wr W) : DqS w room A n c lost os v W := ⟨h.box.on hb, own_below h.row hb⟩

set_option maxHeartbeats 6400000 in
theorem refDrop_any (room lost : Nat) (A : Option Addr) (c : Nat) (ds : List Pf) (Am : Option Addr) (nm cm : Nat) (vs : List Value) (ls : List (List Nat)) (w : World) (hR : RowX w (fun _ => False) A ds) (hlen : ds.length ≤ 4096) (hc : ds.length ≤ c) (hcm : c ≤ maxLen) (hl : ls.length = nm) (hn : nm ≤ 1000) (hL : Lies w w.heap.size Am vs) (hv : VecRows w w.heap.size vs ls) :
    Calls Try.prog 16 #[.agg (qc room (.slice A ds.length c) lost), .slice Am nm cm] w (DropQ w room A ds lost ls) := by
  have mixed := mixedOrders
  have HR := Lib.hid hR
  have HCC : Hid (ds.length ≤ c ∧ c ≤ maxLen) := ⟨hc, hcm⟩
  have HLL := Lib.hid hl
  have HLV := Lib.hid hL
  have HVR := Lib.hid hv
  clear hR hc hcm hl hL hv
  obtain ⟨n, hN⟩ : ∃ n, ds.length = n := ⟨_, rfl⟩
  have HN := Lib.hid hN
  rw [hN] at hlen ⊢
  clear hN
  unfold qc
  go_enter Try.func16, Try.ntmps16
  go_wp2_with fail
  generalize hw0 : World.alloc (World.alloc w _) _ = w0
  have HB : Hid (TBox w (qc room (.slice A n c) lost) zeroQ w0) := TBox.start hw0
  have hs0 : w0.heap.size = w.heap.size + 1 + 1 := by rw [← hw0]; simp
  clear hw0
  have HS0 : Hid (DqS w room A n c lost (staysP (goesV ls) (ds.take 0)) (.slice (some ⟨w.heap.size + 1 + 1, 0, none⟩) 0 0) (w0.alloc (.cells #[] 40))) :=
    ⟨HB.out.on (alloc_below _ _), by
      rw [List.take_zero]
      show World.ownsRow _ _ _ _ _ 0 []
      rw [← hs0]; exact World.ownsRow_made w0 #[] 0 (Nat.le_refl _) (Nat.zero_le _) rfl⟩
  clear HB hs0
  go_loopw [6, 7, 8, 15] (fun s6 _ _ s15 V => ∃ (i : Nat) (Ao : Option Addr) (no co : Nat), i ≤ n ∧ s15 = .int .i64 i ∧ s6 = .slice Ao no co ∧ Hid ((staysP (goesV ls) (ds.take i)).length = no) ∧ Hid (DqS w room A n c lost (staysP (goesV ls) (ds.take i)) (.slice Ao no co) V)) (fun _ _ _ s15 _ => n - (intOf s15).toNat)
  case atStart => exact ⟨0, _, 0, 0, Nat.zero_le _, rfl, rfl, by show _ = _; rw [List.take_zero]; rfl, HS0⟩
  case round =>
    clear HS0
    obtain ⟨i, Ao, no, co, hi, rfl, rfl, HNO, HS⟩ := hrel
    by_cases hlt : i < n
    · have hid : i < ds.length := by rw [HN.out]; exact hlt
      have HG1 := Lib.hid (stays_snoc_gone (P := goesV ls) hid)
      have HG0 := Lib.hid (stays_snoc_kept (P := goesV ls) hid)
      have hno4 : no ≤ 4096 := by have h1 := stays_len (goesV ls) (ds.take i); have h2 := HNO.out; rw [List.length_take] at h1; omega
      obtain ⟨bd, off, rfl, -, hcy0⟩ := row_at (HR.out.on HS.out.box.below).row.lies hid
      have HCY : Hid (∀ V, RowKit.Below w.heap.size w V → V.rangeAt bd (off + i * 16) (encPf ds[i])) := fun V hV => by
        obtain ⟨b', o', e, -, hc'⟩ := row_at (HR.out.on hV).row.lies hid
        injection e with e
        injection e with e1 e2
        subst e1 e2
        exact hc'
      clear hcy0
      generalize ds[i] = x at HG1 HG0 HCY
      go_wp2_with fail
      go_loopw [8, 9, 20] (fun s8 _ s20 V => ∃ k : Nat, k ≤ nm ∧ s20 = .int .i64 k ∧ s8 = .bool ((ls.take k).any (uptoV x.pl)) ∧ Hid (DqS w room (some ⟨bd, off, none⟩) n c lost (staysP (goesV ls) (ds.take i)) (.slice Ao no co) V)) (fun _ _ s20 _ => nm - (intOf s20).toNat)
      case atStart => exact ⟨0, Nat.zero_le _, rfl, by simp, HS⟩
      case round =>
        clear HS
        obtain ⟨k, hk, rfl, rfl, HS⟩ := hrel
        by_cases hkn : k < nm
        · have hkl : k < ls.length := by rw [HLL.out]; exact hkn
          have HST : Hid ((ls.take (k + 1)).any (uptoV x.pl) = ((ls.take k).any (uptoV x.pl) || uptoV x.pl ls[k])) := by
            show _ = _
            rw [List.take_succ_eq_append_getElem hkl, List.any_append]
            simp
          have hbV := HS.out.box.below
          have hkv : k < vs.length := by rw [(HVR.out.later hbV).1]; exact hkl
          obtain ⟨Av, nv, cv, e1, e2, -, -, hLv⟩ := (HVR.out.later hbV).2 k hkv hkl
          obtain ⟨bm, om, rfl, hbm, cv0⟩ := (HLV.out.later hbV).at_ (List.getElem?_eq_getElem hkv)
          rw [e1] at cv0
          have hcx := HCY.out wr hbV
          have x3 : wr.cell? ⟨bd, off + i * 16 + 3, none⟩ = some (.int .u8 (x.F.id.f : Int)) := hcx 3 _ rfl
          have x4 : wr.cell? ⟨bd, off + i * 16 + 3 + 1, none⟩ = some (.int .u64 (x.F.id.s : Int)) := hcx 4 _ rfl
          have hP := HS.out.box
          have g1 := hP.cellG 1
          simp only [qc, List.getElem?_toArray, List.getElem?_cons_succ, List.getElem?_cons_zero] at g1
          have w1lt := hP.lt
          have HC : Hid (∀ V : Later wr, Calls Try.prog 26 #[.slice Av nv cv, .int .i64 (x.F.id.f : Int)] V.w fun e w' => e = .returned (.int .u64 (num ls[k] x.F.id.f : Int)) ∧ RowKit.Below V.w.heap.size V.w w') := fun V => by
            refine (refAt_nat Av nv cv x.F.id.f V.w.heap.size ls[k] V.w e2 (hLv.later V.hb)).mono ?_
            rintro e w' ⟨rfl, rfl⟩
            exact ⟨rfl, RowKit.Below.refl _ _⟩
          have HD : Hid (uptoV x.pl ls[k] = decide (x.F.id.s ≤ num ls[k] x.F.id.f)) := rfl
          have hf := x.F.id.hf
          have hwr : IntKind.i64.wrap (x.F.id.f : Int) = (x.F.id.f : Int) := by simp [IntKind.wrap, IntKind.bits, IntKind.signed]; omega
          have z1 := later_cell (w0 := wr) (b := w.heap.size) (by omega) g1
          have z3 := later_cell (w0 := wr) (World.block_lt_of_cell? _ _ x3) x3
          have z4 := later_cell (w0 := wr) (World.block_lt_of_cell? _ _ x4) x4
          have zv := later_cell (w0 := wr) hbm cv0
          generalize ls[k] = lv at *
          clear g1 x3 x4 cv0 hcx hP hbV e1 e2 hLv hbm
          generalize (ls.take k).any (uptoV x.pl) = q at HST ⊢
          cases q with
          | true =>
            clear HC HD
            have HS2 : Hid (∀ p : Later wr, DqS w room (some ⟨bd, off, none⟩) n c lost (staysP (goesV ls) (ds.take i)) (.slice Ao no co) p.w) := fun p => HS.out.on p.hb
            go_wp2_with fail
            refine wp_region_later mixed (by kernel_rfl) ?_
            repeat (go_big_quiet_step (fail))
            refine wpQuiet_nil ?_
            intro _ hw'
            obtain ⟨p, rfl⟩ := hw'
            have HS3 := Lib.hid (HS2.out p)
            clear z1 z3 z4 zv HS2 HS
            go_wp2
            go_roundw
            case rel => exact ⟨k + 1, by omega, by go_num, by rw [HST.out]; first | done | rfl, HS3⟩
            case measure => simp [intOf]; omega
          | false =>
            rw [HD.out, Bool.false_or] at HST
            generalize num lv x.F.id.f = m at HC HST
            generalize x.F.id.s = s at z4 HST
            have HS2 : Hid (∀ p : Later wr, DqS w room (some ⟨bd, off, none⟩) n c lost (staysP (goesV ls) (ds.take i)) (.slice Ao no co) p.w) := fun p => HS.out.on p.hb
            go_wp2_with fail
            refine wp_region_later mixed (by kernel_rfl) ?_
            repeat (go_big_quiet_step ((go_at_call 26; exact later_of (HC.out _))))
            refine wpQuiet_nil ?_
            intro _ hw'
            obtain ⟨p, rfl⟩ := hw'
            have HS3 := Lib.hid (HS2.out p)
            clear z1 z3 z4 zv HS2 HS
            go_wp2
            go_roundw
            case rel => exact ⟨k + 1, by omega, by go_num, by rw [HST.out]; first | done | rfl, HS3⟩
            case measure => simp [intOf]; omega
        · obtain rfl : k = nm := by omega
          have HE : Hid ((ls.take k).any (uptoV x.pl) = goesV ls x.pl) := by show _ = _; rw [List.take_of_length_le (by rw [HLL.out]; exact Nat.le_refl _)]; rfl
          rw [HE.out]
          cases hq : goesV ls x.pl with
          | true =>
            have hg1 := HG1.out hq
            have HNO2 : Hid ((staysP (goesV ls) (ds.take (i + 1))).length = no) := by show _ = _; rw [hg1]; exact HNO.out
            rw [← hg1] at HS
            clear HG1 HG0 hg1 hq HE HCY
            go_wp2
            go_roundw
            case rel => exact ⟨i + 1, Ao, no, co, by omega, by go_num, rfl, HNO2, HS⟩
            case measure => simp [intOf]; omega
          | false =>
            have hg0 := HG0.out hq
            have HNO2 : Hid ((staysP (goesV ls) (ds.take (i + 1))).length = no + 1) := by show _ = _; rw [hg0, List.length_append, HNO.out]; rfl
            have hcx := HCY.out wr HS.out.box.below
            have hP := HS.out.box
            have g1 := hP.cellG 1
            simp only [qc, List.getElem?_toArray, List.getElem?_cons_succ, List.getElem?_cons_zero] at g1
            have HAP : Hid (∃ A6 c6 W6, (Builtin.append_ #[26, 26] 26 #[.slice Ao no co, .slice (some ⟨wr.heap.size, 0, none⟩) 1 1]).run Try.prog (wr.alloc (.cells x.cs 40)) = .ok (.slice A6 (no + 1) c6) W6 ∧
                DqS w room (some ⟨bd, off, none⟩) n c lost (staysP (goesV ls) (ds.take (i + 1))) (.slice A6 (no + 1) c6) W6) := by
              have hbA := alloc_below wr (.cells x.cs 40)
              have hrA := own_below HS.out.row hbA
              have hL := lies_new wr x.cs 40
              rw [← flat_single] at hL
              obtain ⟨A6, c6, W6, hrun, hown, hg, hb6, -, -⟩ := app_frames (m := 1) (c := 1) hrA (List.length_singleton : [x].length = 1) hL (HS.out.box.on hbA).lt (by rw [HNO.out]; omega)
              rw [HNO.out, ← flat_append, ← hg0] at hown
              rw [HNO.out] at hrun
              exact ⟨A6, c6, W6, hrun, (HS.out.box.on hbA).up hb6, by rw [HNO2.out]; exact hown⟩
            obtain ⟨A6, c6, W6, hrun, hS6⟩ := HAP.out
            have HRUN := Lib.hid hrun
            have HS6 := Lib.hid hS6
            clear HAP hrun hS6 HG1 HG0 hg0 hq HE HCY hP HS
            go_wp2_with (first | (refine load_elem (.tmp 54) rfl hcx ?_) | (refine wpList_build1 rfl (x := .tmp 55) (y := x) rfl rfl ?_) | (at_builtin; refine wpList_append_run rfl (.tmp 50) (.tmp 56) 26 rfl rfl rfl HRUN.out ?_) | fail)
            go_roundw
            case rel => exact ⟨i + 1, A6, no + 1, c6, by omega, by go_num, rfl, HNO2, HS6⟩
            case measure => simp [intOf]; omega
    · obtain rfl : i = n := by omega
      have HE : Hid (staysP (goesV ls) (ds.take i) = staysP (goesV ls) ds) := by show _ = _; rw [List.take_of_length_le (by rw [HN.out]; exact Nat.le_refl _)]
      rw [HE.out] at HS HNO
      have hP := HS.out.box
      have hno4 : no ≤ 4096 := by have := stays_len (goesV ls) ds; have := HNO.out; have := HN.out; omega
      have g0 := hP.cellG 0
      have g1 := hP.cellG 1
      have g2 := hP.cellG 2
      have gf := hP.frG 1
      have q0 := hP.cellR 0
      have q1 := hP.cellR 1
      have q2 := hP.cellR 2
      have r0 := hP.frR 0
      have r1 := hP.frR 1
      have r2 := hP.frR 2
      have HP := Lib.hid hP
      have HROW := Lib.hid HS.out.row
      simp only [qc, zeroQ, List.getElem?_toArray, List.getElem?_cons_succ, List.getElem?_cons_zero] at g0 g1 g2 q0 q1 q2
      clear hP HS HE
      go_wp2
      have hR := (((HP.out.setG 1 (.slice Ao no co)).setR 0 (.int .i64 (room : Int))).setR 1 (.slice Ao no co)).setR 2 (.int .i64 (lost : Int))
      have hbw := hR.below
      refine bodyPost_ret (results_cell_tmp rfl _ _ (w.heap.size + 1) _ rfl (load_rowW hR.r rfl)) rfl ?_
      obtain ⟨A', c', hv, hnc', hcm'⟩ := own_sliceK HROW.out
      injection hv with e1 e2 e3
      subst e1 e3
      rw [HNO.out] at hnc'
      refine ⟨_, _, (i : Int) - (no : Int), by rw [HNO.out]; rfl, by rw [HN.out, HNO.out], by rw [HNO.out]; exact hnc', hcm', hbw, fun D hD hX => ⟨?_, fun y hy => (hX.frs y (List.mem_filter.1 hy).1).on hbw, fun y hy => hX.oks y (List.mem_filter.1 hy).1⟩⟩
      have h3 := own_only HROW.out ((onlyE_set (D := fun b => b = w.heap.size ∨ b = w.heap.size + 1) (Or.inl rfl) 1 (.slice Ao no co)).trans (OnlyE.set3 (D := fun b => b = w.heap.size ∨ b = w.heap.size + 1) (Or.inr rfl) 0 1 2 (.int .i64 (room : Int)) (.slice Ao no co) (.int .i64 (lost : Int)))) fun b hb e => by have := (HROW.out.lt b hb).1; omega
      rw [HNO.out] at h3
      exact LiesX.of_own h3 fun b hb => by have := hD b hb; omega

end Go.Proofs.Ytmnjedpnhilndaa
