/- First in, first out: the calls, in terms of what is kept. -/
import Derived.Test.YtbkkpimhoeagdaaLkP
namespace Go.Proofs.Ytbkkpimhoeagdaa
open Go.RowKit Go.Sort
set_option maxRecDepth 20000

section
variable {w W : World} {a b : Pl} {g : Nat} {x : Pk} {vf vb : Value} {nf nb sent lt N M : Nat}

theorem FfP.on {W' : World} (h : FfP w a b g x vf vb nf nb sent lt N M W) (hb : RowKit.Below W.heap.size W W') : FfP w a b g x vf vb nf nb sent lt N M W' := by
  obtain ⟨T, l, s, T', l', s', D, fw, bk, hS, h1, h2, h3⟩ := h
  exact ⟨T, l, s, T', l', s', D, fw, bk, hS.on hb, h1, h2, h3⟩
theorem FfP.below (h : FfP w a b g x vf vb nf nb sent lt N M W) : RowKit.Below w.heap.size w W := by
  obtain ⟨T, l, s, T', l', s', D, fw, bk, hS, -⟩ := h
  exact hS.duo.below
theorem FfP.pk (h : FfP w a b g x vf vb nf nb sent lt N M W) : PkRow g x W := by
  obtain ⟨T, l, s, T', l', s', D, fw, bk, hS, -⟩ := h
  exact hS.pk

theorem FfP.send (h : FfP w a b g x vf vb nf nb sent lt N M W) (hs : sent < 100000) : ∃ sN : Nat, sN ≤ 1 ∧ Calls Try.prog 14 #[.pointer (some ⟨a.p, 0, none⟩), .slice (some ⟨W.heap.size, 0, none⟩) 1 1] (W.alloc (.cells #[.int .u8 0, .int .u8 0, .int .u8 0, .int .u8 0, .int .u64 0, .int .u64 0, .int .u32 (sent : Int), .int .u32 0, .int .u32 0, .int .u64 0, .int .u64 0, .slice none 0 0, .slice none 0 0, .slice none 0 0, .slice none 0 0, .slice none 0 0] 44)) fun e w' =>
    e = .returned (.int .i64 (sN : Int)) ∧ FfP w a b g x vf vb nf nb (sent + sN) lt N M w' := by
  obtain ⟨T, l, s, T', l', s', D, fw, bk, hS, h1, h2, h3⟩ := h
  refine ⟨s.sendN, by unfold Ls.sendN; split <;> omega, ?_⟩
  refine (lsend_new hS.duo.la sent _ rfl (by omega) (by rw [hS.sa.last]; omega)).mono ?_
  rintro e w' ⟨rfl, ht⟩
  obtain ⟨T1, l1, D1, hS1⟩ := hS.opA ht (hS.sa.send (by omega) hS.duo.la.me8 hS.duo.la.peer8) (Nat.le_add_right _ _)
  exact ⟨rfl, _, _, _, _, _, _, _, _, _, hS1, h1, h2, by omega⟩

theorem FfP.outA (h : FfP w a b g x vf vb nf nb sent lt N M W) (now : Int) (hM : M ≤ 9900) : Calls Try.prog 20 #[.pointer (some ⟨a.p, 0, none⟩), .int .i64 now] W fun e w' => ∃ A1 n1 c1, e = .returned (.slice A1 n1 c1) ∧ n1 ≤ 65 ∧
    ∃ A' c' w2, (Builtin.append_ #[26, 26] 26 #[vf, .slice A1 n1 c1]).run Try.prog w' = .ok (.slice A' (nf + n1) c') w2 ∧ FfP w a b g x (.slice A' (nf + n1) c') vb (nf + n1) nb sent lt N (M + n1) w2 := by
  obtain ⟨T, l, s, T', l', s', D, fw, bk, hS, h1, h2, h3⟩ := h
  have hf := hS.duo.la.len
  have hw1 := hS.duo.la.win.fit
  have hw2 := hS.duo.la.win.wid2
  refine (lout_any hS.duo.la now).mono ?_
  rintro e w' ⟨A1, n1, c1, rfl, hn1, hO, hI⟩
  have hn65 : n1 ≤ 65 := by
    rw [← hn1.out]
    unfold Ls.outF
    rw [List.length_append]
    have h4 := wordF_len (s.ask now)
    have h5 := chunkF_len ((s.ask now).told)
    have h6 : ((s.ask now).told).fs.length = s.fs.length := rfl
    omega
  obtain ⟨T1, l1, D1, hS1⟩ := hS.opA hI.to (hS.sa.outS now) (Nat.le_refl _)
  obtain ⟨A', c', w2, fw', hrun, hS2, hl⟩ := hS1.addF hO hn1.out (hS.sa.outF now) (by omega) h1
  exact ⟨A1, n1, c1, rfl, hn65, A', c', w2, hrun, _, _, _, _, _, _, _, _, _, hS2, hl, h2, h3⟩

theorem FfP.outB (h : FfP w a b g x vf vb nf nb sent lt N M W) (now : Int) (hM : M ≤ 9980) (hN : N < 1000000) : Calls Try.prog 20 #[.pointer (some ⟨b.p, 0, none⟩), .int .i64 now] W fun e w' => ∃ A1 n1 c1, e = .returned (.slice A1 n1 c1) ∧ n1 ≤ 1 ∧
    ∃ A' c' w2, (Builtin.append_ #[26, 26] 26 #[vb, .slice A1 n1 c1]).run Try.prog w' = .ok (.slice A' (nb + n1) c') w2 ∧ FfP w a b g x vf (.slice A' (nb + n1) c') nf (nb + n1) sent lt N (M + n1) w2 := by
  obtain ⟨T, l, s, T', l', s', D, fw, bk, hS, h1, h2, h3⟩ := h
  refine (lout_any hS.duo.lb now).mono ?_
  rintro e w' ⟨A1, n1, c1, rfl, hn1, hO, hI⟩
  have hn65 : n1 ≤ 1 := by
    rw [← hn1.out]
    unfold Ls.outF
    rw [List.length_append]
    have h4 := wordF_len (s'.ask now)
    have h5 := chunkF_len ((s'.ask now).told)
    have h6 : ((s'.ask now).told).fs.length = 0 := by show s'.fs.length = 0; rw [hS.sb.fs]; rfl
    omega
  obtain ⟨T1, l1, D1, hS1⟩ := hS.opB hI.to (hS.sb.outS now) (Nat.le_refl _)
  obtain ⟨A', c', w2, bk', hrun, hS2, hl⟩ := hS1.addB hO hn1.out (hS.sb.outF hS.duo.lb.me8 hS.duo.lb.peer8 hN now) (by omega) h2
  exact ⟨A1, n1, c1, rfl, hn65, A', c', w2, hrun, _, _, _, _, _, _, _, _, _, hS2, h1, hl, h3⟩

theorem FfP.comeA {Ab : Option Addr} {cb k : Nat} (h : FfP w a b g x vf (.slice Ab nb cb) nf nb sent lt N M W) (hk : k < nb) : ∃ gb y, Ab = some ⟨gb, 0, none⟩ ∧ W.rangeAt gb (k * 16) (encPf y) ∧
    Calls Try.prog 16 #[.pointer (some ⟨a.p, 0, none⟩), .agg y.cs] W fun e w' => (∃ v, e = .returned v) ∧ FfP w a b g x vf (.slice Ab nb cb) nf nb sent lt N M w' := by
  obtain ⟨T, l, s, T', l', s', D, fw, bk, hS, h1, h2, h3⟩ := h
  obtain ⟨gb, hy, hA, hc⟩ := hS.rb.frame h2 hk
  have hw := hS.cb _ (List.getElem_mem hy)
  refine ⟨gb, bk[k], hA, hc, ?_⟩
  refine (lcome_any hS.duo.la bk[k] hw.bare.X hw.ok (by rw [hS.sa.g]; decide)).mono ?_
  rintro e w' ⟨y2, rfl, -, -, hd⟩
  obtain ⟨T1, l1, D1, hS1⟩ := hS.opA hd.to (hS.sa.come hw) (Nat.le_refl _)
  exact ⟨⟨_, rfl⟩, _, _, _, _, _, _, _, _, _, hS1, h1, h2, h3⟩

theorem FfP.comeB {Af : Option Addr} {cf k : Nat} (h : FfP w a b g x (.slice Af nf cf) vb nf nb sent lt N M W) (hk : k < nf) (hN : N < 1000000) : ∃ gf y, Af = some ⟨gf, 0, none⟩ ∧ W.rangeAt gf (k * 16) (encPf y) ∧
    Calls Try.prog 16 #[.pointer (some ⟨b.p, 0, none⟩), .agg y.cs] W fun e w' => ∃ (y2 : Pf) (ok : Bool), e = .returned (.tuple #[.agg y2.cs, .bool ok]) ∧ (ok = true → y2.F.at_ = lt ∧ lt < sent) ∧ FfP w a b g x (.slice Af nf cf) vb nf nb sent (lt + if ok then 1 else 0) (N + 1) M w' := by
  obtain ⟨T, l, s, T', l', s', D, fw, bk, hS, h1, h2, h3⟩ := h
  obtain ⟨gf, hy, hA, hc⟩ := hS.rf.frame h1 hk
  have hw := hS.cf _ (List.getElem_mem hy)
  refine ⟨gf, fw[k], hA, hc, ?_⟩
  obtain ⟨hc1, hc2⟩ := hS.sb.come hw
  refine (lcome_any hS.duo.lb fw[k] hw.bare.X hw.ok (by have := hS.sb.sum; omega)).mono ?_
  rintro e w' ⟨y2, rfl, hF, -, hd⟩
  obtain ⟨T1, l1, D1, hS1⟩ := hS.opB hd.to hc2 (by split <;> omega)
  refine ⟨y2, _, rfl, fun h => ?_, _, _, _, _, _, _, _, _, _, hS1, h1, h2, ?_⟩
  · rw [hF, if_pos h]
    exact hc1 h
  · split
    · rename_i h
      have := (hc1 h).2
      omega
    · exact h3

theorem FfP.capB {Ab : Option Addr} {cb : Nat} (h : FfP w a b g x vf (.slice Ab nb cb) nf nb sent lt N M W) : nb ≤ cb ∧ (cb : Int) ≤ 9223372036854775807 ∧ (nb : Int) ≤ 10000 + M ∧ (0 < nb → ∃ gb, Ab = some ⟨gb, 0, none⟩) := by
  obtain ⟨T, l, s, T', l', s', D, fw, bk, hS, h1, h2, h3⟩ := h
  have ho := hS.rb.own
  have hlb := hS.lb
  rw [h2] at ho
  obtain ⟨A', c', e, h4, h5⟩ := own_sliceK ho
  injection e with e1 e2 e3
  subst e1 e3
  refine ⟨h4, by unfold maxLen at h5; omega, by omega, fun hp => ?_⟩
  obtain ⟨gb, c2, hv, -, -⟩ := ho.form (by omega)
  injection hv with e1
  exact ⟨gb, e1⟩
theorem FfP.capF {Af : Option Addr} {cf : Nat} (h : FfP w a b g x (.slice Af nf cf) vb nf nb sent lt N M W) : nf ≤ cf ∧ (cf : Int) ≤ 9223372036854775807 ∧ (nf : Int) ≤ 10000 + M ∧ (0 < nf → ∃ gf, Af = some ⟨gf, 0, none⟩) := by
  obtain ⟨T, l, s, T', l', s', D, fw, bk, hS, h1, h2, h3⟩ := h
  have ho := hS.rf.own
  have hlf := hS.lf
  rw [h1] at ho
  obtain ⟨A', c', e, h4, h5⟩ := own_sliceK ho
  injection e with e1 e2 e3
  subst e1 e3
  refine ⟨h4, by unfold maxLen at h5; omega, by omega, fun hp => ?_⟩
  obtain ⟨gb, c2, hv, -, -⟩ := ho.form (by omega)
  injection hv with e1
  exact ⟨gb, e1⟩

theorem FfP.le_ (h : FfP w a b g x vf vb nf nb sent lt N M W) : lt ≤ sent := by
  obtain ⟨T, l, s, T', l', s', D, fw, bk, hS, h1, h2, h3⟩ := h
  exact h3

theorem FfP.upto (h : FfP w a b g x vf vb nf nb sent lt N M W) : Calls Try.prog 23 #[.pointer (some ⟨b.p, 0, none⟩)] W fun e w' => e = .returned (.int .u64 (lt : Int)) ∧ w' = W := by
  obtain ⟨T, l, s, T', l', s', D, fw, bk, hS, h1, h2, h3⟩ := h
  have h4 := lupto_any hS.duo.lb
  rw [hS.sb.u] at h4
  exact h4
theorem FfP.waits (h : FfP w a b g x vf vb nf nb sent lt N M W) : ∃ m, m ≤ sent ∧ Calls Try.prog 22 #[.pointer (some ⟨a.p, 0, none⟩)] W fun e w' => e = .returned (.int .i64 (m : Int)) ∧ w' = W := by
  obtain ⟨T, l, s, T', l', s', D, fw, bk, hS, h1, h2, h3⟩ := h
  exact ⟨s.fs.length, by have := hS.duo.la.fit2; rw [hS.sa.last] at this; exact this, lwaits_any hS.duo.la⟩

theorem FfP.lostF {Af : Option Addr} {cf k : Nat} (h : FfP w a b g x (.slice Af nf cf) vb nf nb sent lt N M W) (hk : k < nf) (hM : M ≤ 9900) :
    ∃ A1 c1 W2, (Builtin.append_ #[26, 26] 26 #[.slice (some ⟨W.heap.size, 0, none⟩) 0 0, .slice Af k cf]).run Try.prog (W.alloc (.cells #[] 44)) = .ok (.slice A1 k c1) W2 ∧
      ∀ (A2 : Option Addr) (c2 : Nat), (k + 1 < nf → ∃ gf, Af = some ⟨gf, 0, none⟩ ∧ A2 = some ⟨gf, (k + 1) * 16, none⟩) → ∃ A3 c3 W3, (Builtin.append_ #[26, 26] 26 #[.slice A1 k c1, .slice A2 (nf - (k + 1)) c2]).run Try.prog W2 = .ok (.slice A3 (nf - 1) c3) W3 ∧
        FfP w a b g x (.slice A3 (nf - 1) c3) vb (nf - 1) nb sent lt N M W3 := by
  obtain ⟨T, l, s, T', l', s', D, fw, bk, hS, h1, h2, h3⟩ := h
  obtain ⟨A1, c1, W2, hr, hX⟩ := hS.lostF h1 hk hM
  refine ⟨A1, c1, W2, hr, fun A2 c2 hA2 => ?_⟩
  obtain ⟨A3, c3, W3, hr3, fw', hS3, hl⟩ := hX A2 c2 hA2
  exact ⟨A3, c3, W3, hr3, _, _, _, _, _, _, _, _, _, hS3, hl, h2, h3⟩
theorem FfP.lostB {Ab : Option Addr} {cb k : Nat} (h : FfP w a b g x vf (.slice Ab nb cb) nf nb sent lt N M W) (hk : k < nb) (hM : M ≤ 9900) :
    ∃ A1 c1 W2, (Builtin.append_ #[26, 26] 26 #[.slice (some ⟨W.heap.size, 0, none⟩) 0 0, .slice Ab k cb]).run Try.prog (W.alloc (.cells #[] 44)) = .ok (.slice A1 k c1) W2 ∧
      ∀ (A2 : Option Addr) (c2 : Nat), (k + 1 < nb → ∃ gf, Ab = some ⟨gf, 0, none⟩ ∧ A2 = some ⟨gf, (k + 1) * 16, none⟩) → ∃ A3 c3 W3, (Builtin.append_ #[26, 26] 26 #[.slice A1 k c1, .slice A2 (nb - (k + 1)) c2]).run Try.prog W2 = .ok (.slice A3 (nb - 1) c3) W3 ∧
        FfP w a b g x vf (.slice A3 (nb - 1) c3) nf (nb - 1) sent lt N M W3 := by
  obtain ⟨T, l, s, T', l', s', D, fw, bk, hS, h1, h2, h3⟩ := h
  obtain ⟨A1, c1, W2, hr, hX⟩ := hS.lostB h2 hk hM
  refine ⟨A1, c1, W2, hr, fun A2 c2 hA2 => ?_⟩
  obtain ⟨A3, c3, W3, hr3, bk', hS3, hl⟩ := hX A2 c2 hA2
  exact ⟨A3, c3, W3, hr3, _, _, _, _, _, _, _, _, _, hS3, h1, hl, h3⟩
end

end Go.Proofs.Ytbkkpimhoeagdaa
