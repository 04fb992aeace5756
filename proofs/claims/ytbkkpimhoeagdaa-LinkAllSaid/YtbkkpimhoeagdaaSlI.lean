/- Put: as many as there is room for. -/
import Derived.Test.YtbkkpimhoeagdaaSlHb
namespace Go.Proofs.Ytbkkpimhoeagdaa
open Go.RowKit Go.Sort

/-- What a window is while, and when, frames have been put in. -/
def PutIn (w : World) (base p : Nat) (T : Value) (width last : Nat) (l : List Pf) (D : Nat → Prop) (Fs : List Fr) (w' : World) : Prop :=
  ∃ T' l' D', WinAt w' base p T' width (last + Fs.length) l' D' ∧ l'.map Pf.F = l.map Pf.F ++ num last Fs ∧ OnlyE w w' (WD p T) ∧ (∀ b, D' b → D b ∨ w.heap.size ≤ b) ∧ (∀ b, D b → D' b) ∧ (∀ b, T'.ownBlock = some b → T.ownBlock = some b ∨ w.heap.size ≤ b)

def Put_ (w : World) (base p : Nat) (T : Value) (width last : Nat) (l : List Pf) (D : Nat → Prop) (Fs : List Fr) (e : Ending) (w' : World) : Prop :=
  e = .returned (.int .i64 ((min Fs.length (width - l.length) : Nat) : Int)) ∧ PutIn w base p T width last l D (Fs.take (min Fs.length (width - l.length))) w'

section
variable {w : World} {base p : Nat} {T : Value} {width last : Nat} {l : List Pf} {D : Nat → Prop}

theorem PutIn.start (h : WinAt w base p T width last l D) {w1 : World} (hb : RowKit.Below w.heap.size w w1) : PutIn w base p T width last l D [] w1 :=
  ⟨T, l, D, h.on hb, by simp [num], OnlyE.of_below hb, fun _ => .inl, fun _ => id, fun _ => .inl⟩

theorem PutIn.len {Fs : List Fr} {l' : List Pf} (h : l'.map Pf.F = l.map Pf.F ++ num last Fs) : l'.length = l.length + Fs.length := by
  have := congrArg List.length h
  simpa [num_length] using this

/-- One more. -/
theorem PutIn.step {wr W w2 w3 : World} {Fs : List Fr} {k : Nat} (hk : Fs.length = k) {T' T2 : Value} {l' : List Pf} {D' : Nat → Prop} {x : Pf} {F : Fr} (hp : l'.map Pf.F = l.map Pf.F ++ num last Fs) (ho : OnlyE w wr (WD p T)) (hd : ∀ b, D' b → D b ∨ w.heap.size ≤ b) (hd2 : ∀ b, D b → D' b)
    (ht : ∀ b, T'.ownBlock = some b → T.ownBlock = some b ∨ w.heap.size ≤ b) (hdt : ∀ b, T'.ownBlock = some b → D' b) (hW : RowKit.Below wr.heap.size wr W) (h : Pushed W base p T' width (last + k) l' D' x T2 w2) (hx : x.F = seqd F (last + k + 1))
    (hw3 : RowKit.Below (w2.setCell ⟨p, 0, none⟩ T2).heap.size (w2.setCell ⟨p, 0, none⟩ T2) w3) : PutIn w base p T width last l D (Fs ++ [F]) w3 := by
  subst hk
  have hs := ho.size
  have hs2 := hW.size
  obtain ⟨h1, h2, -, -, h3⟩ := h
  refine ⟨T2, l' ++ [x], fun k => D' k ∨ T2.ownBlock = some k, ?_, ?_, ?_, ?_, fun k hk => Or.inl (hd2 k hk), ?_⟩
  · rw [List.length_append, List.length_singleton, ← Nat.add_assoc]
    exact h1.on hw3
  · rw [List.map_append, hp, num_snoc, List.append_assoc]
    show _ = _ ++ (_ ++ [seqd F (last + Fs.length + 1)])
    rw [← hx]
    rfl
  · have h4 : OnlyE wr w3 (WD p T') := (OnlyE.of_below hW).trans (h2.trans (OnlyE.of_below hw3))
    refine ⟨Nat.le_trans hs h4.size, fun k hk hn => ?_, ho.base.trans h4.base⟩
    refine (h4.same k (Nat.lt_of_lt_of_le hk hs) fun hk' => ?_).trans (ho.same k hk hn)
    rcases hk' with e | e
    · exact hn (.inl e)
    · rcases ht k e with e | e
      · exact hn (.inr e)
      · omega
  · rintro k (hk | hk)
    · exact hd k hk
    · rcases h3 k hk with e | e
      · exact hd k (hdt k e)
      · right; omega
  · intro b hb
    rcases h3 b hb with e | e
    · exact ht b e
    · right; omega

/-- The window's box, and that of a frame. -/
def TwoF (p : Nat) (bx : Array Value) (g : Nat) (cs : Array Value) (V : World) : Prop := V.heap[p]? = some (.cells bx 92 (0, 0)) ∧ V.heap[g]? = some (.cells cs 44 (0, 0))

set_option maxRecDepth 20000 in
set_option maxHeartbeats 3200000 in
theorem put_any (h : WinAt w base p T width last l D) (A : Option Addr) (n c : Nat) (xs : List Pf) (hl : xs.length = n) (hn : n ≤ 100) (hnc : n ≤ c) (hA : LiesX w (WD p T) A (flat encPf xs)) (hX : ∀ x ∈ xs, x.X w (WD p T)) (hok : ∀ x ∈ xs, x.F.Ok) (hlow : last + n ≤ 1000000) :
    Calls Try.prog 31 #[.pointer (some ⟨p, 0, none⟩), .slice A n c] w (Put_ w base p T width last l D (xs.map Pf.F)) := by
  have hfree := room_any h
  unfold Put_
  rw [List.length_map, hl]
  have hfit := h.fit
  have hroom := h.wid2
  have HM : Hid (min (n : Int) ((width - l.length : Nat) : Int) = ((min n (width - l.length) : Nat) : Int)) := by show _ = _; omega
  have hf1 : min n (width - l.length) ≤ n := Nat.min_le_left _ _
  have hf2 : min n (width - l.length) ≤ width - l.length := Nat.min_le_right _ _
  generalize min n (width - l.length) = fit at HM hf1 hf2 ⊢
  have HF2 := Lib.hid hf2
  have HFL := Lib.hid hfit
  have hfc : fit ≤ c := by omega
  have hf3 : fit ≤ 100 := by omega
  have HH := Lib.hid h
  have HA := Lib.hid hA
  have HX := Lib.hid hX
  have HOK := Lib.hid hok
  have HL := Lib.hid hl
  have hd0 : ((some ⟨p, 0, none⟩ : Option Addr) == none) = false := rfl
  generalize ((width - l.length : Nat) : Int) = fr at hfree HM
  clear h hA hX hok hl hf2 hfit
  go_enter Try.func31, Try.ntmps31
  go_wp2_with fail
  refine hfree.mono ?_
  rintro e w1 ⟨rfl, hb1⟩
  have HS : Hid (PutIn w base p T width last l D [] w1) := PutIn.start HH.out hb1
  clear hfree hb1
  have hmin := HM.out
  clear HM
  go_wp2_with fail
  go_loopw [7, 8, 18] (fun _ _ i wr => ∃ k : Nat, k ≤ fit ∧ i = .int .i64 k ∧ PutIn w base p T width last l D ((xs.map Pf.F).take k) wr) (fun _ _ i _ => fit - (intOf i).toNat)
  case atStart => exact ⟨0, Nat.zero_le _, rfl, by rw [List.take_zero]; exact HS.out⟩
  case round =>
    clear HS hmin
    obtain ⟨k, hk, rfl, hR⟩ := hrel
    by_cases hlt : k < fit
    · obtain ⟨T', l', D', hB, hpl, ho, hd, hd2, ht⟩ := hR
      have hkl : k < xs.length := by rw [HL.out]; omega
      have hkF : k < (xs.map Pf.F).length := by rw [List.length_map]; exact hkl
      have hTL : ((xs.map Pf.F).take k).length = k := by rw [List.length_take]; omega
      obtain ⟨b, off, rfl, hbw, hc⟩ := row_at (HA.out.kept ho).lies hkl
      have hx := (HX.out xs[k] (List.getElem_mem hkl)).kept ho
      have hxo := HOK.out xs[k] (List.getElem_mem hkl)
      have HTK : Hid ((xs.map Pf.F).take (k + 1) = (xs.map Pf.F).take k ++ [xs[k].F]) := by show _ = _; rw [List.take_succ_eq_append_getElem hkF, List.getElem_map]
      generalize xs[k] = x at hc hx hxo HTK
      have HXX := Lib.hid hx
      have HXO := Lib.hid hxo
      have HPL := Lib.hid hpl
      have HO := Lib.hid ho
      have HD := Lib.hid hd
      have HD2 := Lib.hid hd2
      have HT := Lib.hid ht
      have HTL := Lib.hid hTL
      have HLEN : Hid (l'.length < width) := by
        have h1 := PutIn.len HPL.out
        have h2 := HF2.out
        have h3 := HFL.out
        show _ < _
        rw [HTL.out] at h1
        omega
      rw [hTL] at hB
      have HB := Lib.hid hB
      obtain ⟨At, ct, rfl, -, -⟩ := hB.slice
      have c2 := hB.c2
      have f2 := hB.fr 2
      have hplt := hB.plt
      have hlk : (last : Int) + (k : Int) ≤ 2000000 := by omega
      clear hB hpl ho hd hd2 ht hx hxo hTL hkl hkF
      go_upto_region 6 with (first | (refine load_elem (.tmp 20) rfl hc ?_) | (refine store_frame_new (.tmp 7) (.tmp 21) rfl rfl rfl rfl (Pf.size x) (Pf.one x) ?_) | fail)
      have HV : Hid ((last : Int) + (k : Int) + 1 = ((last + k + 1 : Nat) : Int)) := by show _ = _; omega
      have HO5 : Hid (OnlyE wr ((wr.setCell ⟨p, 2, none⟩ (.int .u64 ((last : Int) + (k : Int) + 1))).alloc (.cells x.cs 44)) (fun b => b = p)) := (onlyE_set (D := fun b => b = p) rfl 2 _).trans (OnlyE.of_below ((RowKit.Below.refl _ _).alloc (Nat.le_refl _) _))
      have HBX5 : Hid (((wr.setCell ⟨p, 2, none⟩ (.int .u64 ((last : Int) + (k : Int) + 1))).alloc (.cells x.cs 44)).heap[p]? = some (.cells #[.slice At l'.length ct, .int .i64 (width : Int), .int .u64 ((last : Int) + (k : Int) + 1)] 92 (0, 0))) := (heap_alloc_old _ _ (by simpa using hplt)).trans (heap_setCell_same wr p 2 _ _ _ HB.out.box)
      have HR5 : Hid (((wr.setCell ⟨p, 2, none⟩ (.int .u64 ((last : Int) + (k : Int) + 1))).alloc (.cells x.cs 44)).heap[wr.heap.size]? = some (.cells x.cs 44 (0, 0))) := by
        show _ = _
        have := heap_alloc_new (wr.setCell ⟨p, 2, none⟩ (.int .u64 ((last : Int) + (k : Int) + 1))) (.cells x.cs 44)
        simpa using this
      generalize (wr.setCell ⟨p, 2, none⟩ (.int .u64 ((last : Int) + (k : Int) + 1))).alloc (.cells x.cs 44) = W5 at HO5 HBX5 HR5 ⊢
      have hcp := fresh_any x.F x.cs W5 (HXX.out.kept (HO5.out.mono fun b hb => .inl hb)).frl HXO.out
      have hs5 := HO5.out.size
      clear c2 f2 hc
      go_wp2_with (first | (refine load_frame (.tmp 7) rfl HR5.out (Pf.size x) ?_) | fail)
      refine hcp.mono ?_
      rintro e w6 ⟨x6, hF6, rfl, ho6, hb6⟩
      have hs6 := hb6.size
      have HB6 := Lib.hid hb6
      have HO6 := Lib.hid ho6
      have HF6 := Lib.hid hF6
      have hbx6 : w6.heap[p]? = some (.cells #[.slice At l'.length ct, .int .i64 (width : Int), .int .u64 ((last : Int) + (k : Int) + 1)] 92 (0, 0)) := (hb6.block p (by omega)).trans HBX5.out
      have c2 := cell_of_row w6 p 2 _ _ _ hbx6
      simp only [List.getElem?_toArray, List.getElem?_cons_succ, List.getElem?_cons_zero] at c2
      have HBX6 := Lib.hid hbx6
      have hplt6 : p < w6.heap.size := by omega
      clear hcp hb6 ho6 hF6 hbx6
      go_upto_region 8 with (first | (refine store_frame_new (.tmp 8) (.tmp 30) rfl rfl rfl rfl (Pf.size x6) (Pf.one x6) ?_) | fail)
      -- the drawn region
      rw [show (Value.int .u64 ((last : Int) + (k : Int) + 1)) = .int .u64 ((last + k + 1 : Nat) : Int) from by rw [HV.out], Pf.seqd_cs]
      have hbA : RowKit.Below w6.heap.size w6 (w6.alloc (.cells (x6.seqd (last + k + 1)).cs 44)) := (RowKit.Below.refl _ _).alloc (Nat.le_refl _) _
      have HY7 : Hid ((w6.alloc (.cells (x6.seqd (last + k + 1)).cs 44)).drew.heap[w6.heap.size]? = some (.cells (x6.seqd (last + k + 1)).cs 44 (0, 0))) := heap_alloc_new _ _
      have HBX7 : Hid ((w6.alloc (.cells (x6.seqd (last + k + 1)).cs 44)).drew.heap[p]? = some (.cells #[.slice At l'.length ct, .int .i64 (width : Int), .int .u64 ((last + k + 1 : Nat) : Int)] 92 (0, 0))) := by
        have h1 := (hbA.block p hplt6).trans HBX6.out
        rw [HV.out] at h1
        exact h1
      have hbD : RowKit.Below w6.heap.size w6 (w6.alloc (.cells (x6.seqd (last + k + 1)).cs 44)).drew := hbA.drew
      have HO7 : Hid (OnlyE wr (w6.alloc (.cells (x6.seqd (last + k + 1)).cs 44)).drew (fun b => b = p)) := HO5.out.trans (OnlyE.of_below (HB6.out.trans (hbD.mono hs6)))
      have HOW : Hid ((x6.seqd (last + k + 1)).Own (w6.alloc (.cells (x6.seqd (last + k + 1)).cs 44)).drew wr.heap.size) := (Pf.seqd_Own (last + k + 1) (HO6.out.on hbD)).base hs5
      have HSQ : Hid ((x6.seqd (last + k + 1)).F = seqd x.F (last + k + 1)) := by show seqd x6.F _ = _; rw [HF6.out]
      have HYO : Hid ((x6.seqd (last + k + 1)).F.Ok) := by show Fr.Ok _; rw [HSQ.out]; exact seqd_ok HXO.out (by omega)
      have HYS : Hid ((x6.seqd (last + k + 1)).F.seq = last + k + 1) := rfl
      have hg6 : wr.heap.size ≤ w6.heap.size := by omega
      clear c2 hbA hbD
      refine wp_region_Z 10 (TwoF p #[.slice At l'.length ct, .int .i64 (width : Int), .int .u64 ((last + k + 1 : Nat) : Int)] w6.heap.size (x6.seqd (last + k + 1)).cs) (by kernel_rfl) ?_
      generalize (w6.alloc (.cells (x6.seqd (last + k + 1)).cs 44)).drew = W7 at HY7 HBX7 HO7 HOW ⊢
      generalize x6.seqd (last + k + 1) = y at HY7 HOW HSQ HYO HYS ⊢
      have hHeld : TwoF p #[.slice At l'.length ct, .int .i64 (width : Int), .int .u64 ((last + k + 1 : Nat) : Int)] w6.heap.size y.cs W7 := ⟨HBX7.out, HY7.out⟩
      obtain ⟨A2, c2, w2, hrun, hg2, hP⟩ := HB.out.push y HO7.out HBX7.out HOW.out HYS.out HYO.out HLEN.out (by omega)
      have HP := Lib.hid hP
      have HG2 := Lib.hid hg2
      have HRUN := Lib.hid hrun
      clear hP hg2 hrun
      refine wpZ_take (i := 0) (d := 36) (v := ?_) rfl rfl (by kernel_rfl) (by kernel_rfl) (by kernel_rfl) (by kernel_rfl) (fun _ _ _ h => h) (Or.inl ⟨by rfl, ?_⟩) hHeld ?_
      rotate_left
      · (intro _ hSw; go_simp; try with_reducible rfl)
      simp only [List.setIfInBounds_toArray, List.set_cons_zero, List.set_cons_succ]
      refine wpZ_take (i := 1) (d := 37) (v := ?_) rfl rfl (by kernel_rfl) (by kernel_rfl) (by kernel_rfl) (by kernel_rfl) (fun _ _ _ h => h) (Or.inl ⟨by rfl, ?_⟩) hHeld ?_
      rotate_left
      · (intro _ hSw; go_simp; try with_reducible rfl)
      simp only [List.setIfInBounds_toArray, List.set_cons_zero, List.set_cons_succ]
      refine wpZ_take (i := 2) (d := 38) (v := ?_) rfl rfl (by kernel_rfl) (by kernel_rfl) (by kernel_rfl) (by kernel_rfl) (fun _ _ _ h => h) (Or.inl ⟨by rfl, ?_⟩) hHeld ?_
      rotate_left
      · (intro _ hSw; go_simp; try with_reducible rfl)
      simp only [List.setIfInBounds_toArray, List.set_cons_zero, List.set_cons_succ]
      refine wpZ_take (i := 3) (d := 39) (v := ?_) rfl rfl (by kernel_rfl) (by kernel_rfl) (by kernel_rfl) (by kernel_rfl) (fun _ _ _ h => h) (Or.inl ⟨by rfl, ?_⟩) hHeld ?_
      rotate_left
      · (intro _ hSw; go_simp; try with_reducible rfl)
      simp only [List.setIfInBounds_toArray, List.set_cons_zero, List.set_cons_succ]
      refine wpZ_take (i := 4) (d := 40) (v := ?_) rfl rfl (by kernel_rfl) (by kernel_rfl) (by kernel_rfl) (by kernel_rfl) (fun _ _ _ h => h) (Or.inl ⟨by rfl, ?_⟩) hHeld ?_
      rotate_left
      · (intro _ hSw; have y0 := cell_of_row _ p 0 _ _ _ hSw.1; simp only [List.getElem?_toArray, List.getElem?_cons_zero] at y0; go_simp; try with_reducible rfl)
      simp only [List.setIfInBounds_toArray, List.set_cons_zero, List.set_cons_succ]
      refine wpZ_take (i := 5) (d := 41) (v := .agg y.cs) rfl rfl (by kernel_rfl) (by kernel_rfl) (by kernel_rfl) (by kernel_rfl) (fun _ _ _ h => h) (yields_frame (S := TwoF p #[.slice At l'.length ct, .int .i64 (width : Int), .int .u64 ((last + k + 1 : Nat) : Int)] w6.heap.size y.cs) (x := .tmp 8) (g := w6.heap.size) rfl rfl rfl (Pf.size y) (fun V hV => hV.2)) hHeld ?_
      simp only [List.setIfInBounds_toArray, List.set_cons_zero, List.set_cons_succ]
      refine wpZ_ready (rs := [6]) (by kernel_rfl) (by simp) ?_
      refine AllReadyZ.cons rfl (fun K hK => ?_) AllReadyZ.nil
      refine wp_build1_step (x := .tmp 41) (y := y) rfl rfl rfl ?_
      go_simp
      have hS1 : TwoF p #[.slice At l'.length ct, .int .i64 (width : Int), .int .u64 ((last + k + 1 : Nat) : Int)] w6.heap.size y.cs (W7.alloc (.cells y.cs 44)) :=
        ⟨(heap_alloc_old _ _ (Array.getElem?_eq_some_iff.1 hHeld.1).1).trans hHeld.1, (heap_alloc_old _ _ (Array.getElem?_eq_some_iff.1 hHeld.2).1).trans hHeld.2⟩
      have hHeld2 := hS1
      refine hK.out _ _ (fun _ => hHeld2) ?_
      clear hK K hHeld
      have hHeld := hHeld2
      clear hHeld2
      clear hS1
      refine wpZ_ready (rs := [7]) (by kernel_rfl) (by simp) ?_
      refine AllReadyZ.cons rfl (fun K hK => ?_) AllReadyZ.nil
      refine wp_append_step (s := .tmp 40) (x := .tmp 42) (t := 26) rfl rfl rfl rfl HRUN.out ?_
      go_simp
      have hS2 : TwoF p #[.slice At l'.length ct, .int .i64 (width : Int), .int .u64 ((last + k + 1 : Nat) : Int)] w6.heap.size y.cs w2 :=
        ⟨(HG2.out.block p (Array.getElem?_eq_some_iff.1 hHeld.1).1 (fun e => HB.out.ne_row e.symm rfl)).trans hHeld.1, (HG2.out.block w6.heap.size (Array.getElem?_eq_some_iff.1 hHeld.2).1 (fun e => by have := HB.out.wlt (.inr e.symm); omega)).trans hHeld.2⟩
      have hHeld2 := hS2
      refine hK.out _ _ (fun _ => hHeld2) ?_
      clear hK K hHeld
      have hHeld := hHeld2
      clear hHeld2
      clear hS2
      refine wpZ_ready (rs := [8]) (by kernel_rfl) (by simp) ?_
      refine AllReadyZ.cons rfl (fun K hK => ?_) AllReadyZ.nil
      go_simp
      have hHeld2 := hHeld
      refine hK.out _ _ (fun _ => hHeld2) ?_
      clear hK K hHeld
      have hHeld := hHeld2
      clear hHeld2
      refine wpZ_take (i := 9) (d := 45) (v := ?_) rfl rfl (by kernel_rfl) (by kernel_rfl) (by kernel_rfl) (by kernel_rfl) (fun _ _ _ h => h) (Or.inl ⟨by rfl, ?_⟩) hHeld ?_
      rotate_left
      · (intro _ hSw; go_simp; try with_reducible rfl)
      simp only [List.setIfInBounds_toArray, List.set_cons_zero, List.set_cons_succ]
      have d0 := HP.out.2.2.1
      have f0 := HP.out.2.2.2.1
      refine wpZ_ready (rs := [10]) (by kernel_rfl) (by simp) ?_
      refine AllReadyZ.cons rfl (fun K hK => ?_) AllReadyZ.nil
      go_simp
      refine hK.out _ _ (fun h => absurd rfl h) ?_
      clear hK K
      refine wpZ_done (by kernel_rfl) ?_ _
      clear d0 f0 hHeld
      go_wp2
      go_roundw
      case rel =>
        refine ⟨k + 1, by omega, by go_num, ?_⟩
        rw [HTK.out]
        exact PutIn.step HTL.out HPL.out HO.out HD.out HD2.out HT.out (fun b hb => HB.out.dt hb) (RowKit.Below.refl _ _) HP.out HSQ.out (RowKit.Below.refl _ _)
      case measure => simp [intOf]; omega
    · obtain rfl : k = fit := by omega
      have HR := Lib.hid hR
      clear hR hlt
      go_wp2
      go_ret
      exact ⟨rfl, HR.out⟩
end

end Go.Proofs.Ytbkkpimhoeagdaa
