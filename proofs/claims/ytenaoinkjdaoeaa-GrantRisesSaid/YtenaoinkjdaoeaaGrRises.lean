/- GrantRises: for every two ints and every list of acts the call returns true (whatever is told, and whoever is gone, the limit never falls, and nobody who isn't gone told less), and changes nothing that was there. No conditions. -/
import Derived.Test.YtenaoinkjdaoeaaGrG
import Derived.ChangeOld
import Derived.Deep.Cut
namespace Go.Proofs.Ytenaoinkjdaoeaa
open Go.ChangeShapes Go.WideShapes Go.ChangeAt Go.RowKit

theorem rises_many (n me : Int) (A : Option Addr) (m c : Nat) (w : World) (hm : 200 < m) : Calls Try.prog 4 #[.int .i64 n, .int .i64 me, .slice A m c] w fun e w' => e = .returned (.bool true) ∧ Below w.heap.size w w' := by
  have hd : decide (200 < m) = true := decide_eq_true hm
  go_enter Try.func4, Try.ntmps4
  go_wp2_with (go_at_call 7; refine (awake_any _).mono ?_; rintro e w' ⟨rfl, hb⟩)
  go_ret
  exact ⟨rfl, hb⟩

set_option maxRecDepth 20000 in
set_option maxHeartbeats 6400000 in
theorem rises_few (n me : Int) (hn : -9223372036854775808 ≤ n ∧ n ≤ 9223372036854775807) (A : Option Addr) (m c : Nat) (ls : List Ac) (w : World) (hm : m ≤ 200) (hl : ls.length = m) (hL : Lies w w.heap.size A (Go.Proofs.Ytenaoinkjdaoeaa.flat encAc ls)) (hok : ∀ y ∈ ls, AcOk y) :
    Calls Try.prog 4 #[.int .i64 n, .int .i64 me, .slice A m c] w fun e w' => e = .returned (.bool true) ∧ Below w.heap.size w w' := by
  obtain ⟨i0, hi0, hz0, hz1, hz2⟩ := info_parts Try.infoBo
  have HLen := Lib.hid hl
  have HL := Lib.hid hL
  have HOK := Lib.hid hok
  have hd : decide (200 < m) = false := decide_eq_false (by omega)
  have hN := new_any n me hn w w.heap.size (Nat.le_refl _)
  have HGK := Lib.hid (Gok.new n me)
  have HNE : Hid (∀ k : Nat, k < clampN n → k ≠ clampM n me → (k : Int) ≠ me) := fun k h1 h2 => clampM_ne h1 h2
  have hNP := clampN_pos n
  have HMX : Hid (∀ p : Nat, p < 64 → (decide ((p : Int) < max 1 n) = decide (p < clampN n))) := fun p hp => by
    rw [decide_eq_decide]
    unfold clampN
    omega
  generalize clampM n me = M at HNE HGK hN
  generalize clampN n = N at HNE HGK hN hNP HMX
  clear hl hL hok
  go_enter Try.func4, Try.ntmps4
  go_wp2_with fail
  refine hN.mono ?_
  rintro e w1 ⟨g, q, rfl, hG, -, -, hb1⟩
  unfold gptr
  have HG := Lib.hid hG
  have HB1 := Lib.hid hb1
  clear hN hG hb1
  go_wp2_with (first | (at_make; refine wpList_make_full w1 rfl (.const (.int .i64 64)) (.const (.int .i64 64)) 46 rfl w.heap.size 4 i0 (.bool false) 1 Try.underlying46 hi0 hz0 hz1 .i64 .i64 _ _ 64 rfl rfl rfl rfl (by rw [hz2]; decide) (by decide) HB1.out.size ?_) | fail)
  intro w2 hown2 hg2
  have hb2 : Below w1.heap.size w1 w2 := (Below.refl _ _).grown hg2 (Nat.le_refl _) (fun q hq => by cases hq)
  rw [made_bls _ rfl] at hown2
  have hS0 : RiS w g q w1.heap.size M N (List.replicate N zeroW) (List.replicate 64 false) w2 := ⟨HB1.out.trans (hb2.mono HB1.out.size), HG.out.on hb2, hown2, HGK.out, by simp, by simp, fun j _ => by
    rw [wat_new, List.getD_eq_getElem?_getD, List.getElem?_replicate]
    split <;> rfl⟩
  generalize w1.heap.size = r at hS0 ⊢
  generalize List.replicate N zeroW = l0 at hS0
  generalize List.replicate 64 false = G0 at hS0
  have HS0 := Lib.hid hS0
  clear hown2 hg2 hb2 HG HB1 HGK hS0
  go_wp2_with fail
  refine (limit_any HS0.out.gr HS0.out.ok.len).mono ?_
  rintro e w3 ⟨rfl, hb3⟩
  have HS := Lib.hid (HS0.out.on hb3)
  clear HS0 hb3
  go_wp2
  go_loopw [9, 10] (fun s9 s10 wr => ∃ i : Nat, i ≤ m ∧ s10 = .int .i64 (i : Int) ∧ ∃ l G, s9 = .int .u64 (lim l : Int) ∧ Hid (RiS w g q r M N l G wr)) (fun _ s10 _ => m - (intOf s10).toNat)
  case atStart => exact ⟨0, Nat.zero_le _, rfl, _, _, rfl, HS⟩
  case round =>
    clear HS
    obtain ⟨i, hi, rfl, l, G, rfl, HR⟩ := hrel
    by_cases hlt : i < m
    · have hil : i < ls.length := by rw [HLen.out]; exact hlt
      obtain ⟨bb, off, rfl, hbl, c0, c1, c2⟩ := acts_at HL.out hil
      have HY := Lib.hid (HOK.out _ (List.getElem_mem hil))
      generalize ls[i] = y at c0 c1 c2 HY
      obtain ⟨yg, P, u⟩ := y
      dsimp only at c0 c1 c2
      have z0 := (HR.out.below.cell (p := ⟨bb, off + i * 3, none⟩) hbl).trans c0
      have z1 := (HR.out.below.cell (p := ⟨bb, off + i * 3 + 1, none⟩) hbl).trans c1
      have z2 := (HR.out.below.cell (p := ⟨bb, off + i * 3 + 2, none⟩) hbl).trans c2
      clear c0 c1 c2 hil
      go_upto_region 10 with fail
      clear z0 z1 z2
      have HR1 := Lib.hid (HR.out.on (alloc_below wr (.cells #[.bool yg, .int .i64 P, .int .u64 (u : Int)] 32)))
      have a0 : (wr.alloc (.cells #[.bool yg, .int .i64 P, .int .u64 (u : Int)] 32)).cell? ⟨wr.heap.size, 0, none⟩ = some (.bool yg) := cell_of_row _ _ 0 _ _ _ (heap_alloc_new wr _)
      have a1 : (wr.alloc (.cells #[.bool yg, .int .i64 P, .int .u64 (u : Int)] 32)).cell? ⟨wr.heap.size, 1, none⟩ = some (.int .i64 P) := cell_of_row _ _ 1 _ _ _ (heap_alloc_new wr _)
      have a2 : (wr.alloc (.cells #[.bool yg, .int .i64 P, .int .u64 (u : Int)] 32)).cell? ⟨wr.heap.size, 2, none⟩ = some (.int .u64 (u : Int)) := cell_of_row _ _ 2 _ _ _ (heap_alloc_new wr _)
      have hab : wr.heap.size < (wr.alloc (.cells #[.bool yg, .int .i64 P, .int .u64 (u : Int)] 32)).heap.size := by simp
      have hqa : ¬ wr.heap.size = q := by have := HR.out.gr.qlt.2; omega
      generalize wr.alloc (.cells #[.bool yg, .int .i64 P, .int .u64 (u : Int)] 32) = W1 at HR1 a0 a1 a2 hab ⊢
      generalize wr.heap.size = ab at a0 a1 a2 hab hqa ⊢
      clear HR hbl
      go_upto_if 35 with fail
      go_cut [11] from 36 to 65 (fun _ wx => ∃ l' G', Hid (RiS w g q r M N l' G' wx) ∧ Hid (lim l ≤ lim l'))
      case first =>
        cases yg
        · go_wp2_with fail
          refine (tell_any HR1.out.gr P u).mono ?_
          intro e w5 hc
          have HR5 := Lib.hid (HR1.out.tell P HY.out.u hc)
          obtain ⟨rfl, -⟩ := hc
          clear HR1
          go_wp2
          go_meet
          exact ⟨_, _, HR5, lim_tell l P u⟩
        · go_wp2_with fail
          have HC := Lib.hid (gone_one HR1.out.gr P)
          refine HC.out.mono ?_
          rintro e w5 ⟨rfl, hG5, hO5⟩
          have b1 := (hO5.cell hab hqa (i := 1)).trans a1
          clear HC a0 a1 a2
          cases hB : goneB l M P
          · have HR5 := Lib.hid (HR1.out.stay P hB hG5 hO5)
            have e : goneN l M P = 0 := by unfold goneN; rw [hB]; rfl
            rw [e]
            clear e hB HR1 hG5 hO5
            go_wp2
            go_meet
            exact ⟨_, _, HR5, lim_gone l M P⟩
          · obtain ⟨k, rfl, hk, hkM⟩ := goneB_at hB
            obtain ⟨hR5, k0, kf⟩ := HR1.out.goes k hB hG5 hO5 hk
            have HR5 := Lib.hid hR5
            have e : goneN l M (k : Int) = 1 := by unfold goneN; rw [hB]; rfl
            have hk64 : k < 64 := Nat.lt_of_lt_of_le hk HR1.out.ok.len
            have d1 : decide ((k : Int) < 0) = false := by simp
            have d2 : decide (63 < k) = false := by simp; omega
            have d3 : ((k : Int) == me) = false := by
              have := HNE.out k (by rw [← HR1.out.len]; exact hk) hkM
              simpa using this
            rw [e]
            clear e hB HR1 hG5 hO5 hR5 hk hkM
            go_wp2
            go_meet
            exact ⟨_, _, HR5, lim_gone l M (k : Int)⟩
      case rest =>
        clear a0 a1 a2 HR1 hab hqa HY
        obtain ⟨l', G', HR5, HLL⟩ := hcut
        go_wp2_with fail
        refine (limit_any HR5.out.gr HR5.out.ok.len).mono ?_
        rintro e w6 ⟨rfl, hb6⟩
        have HR6 := Lib.hid (HR5.out.on hb6)
        have dll : decide (lim l' < lim l) = false := decide_eq_false (Nat.not_lt.2 HLL.out)
        clear HR5 hb6
        go_wp2
        go_loopw [13] (fun s13 wr => ∃ p : Nat, p ≤ N ∧ s13 = .int .i64 (p : Int) ∧ Hid (RiS w g q r M N l' G' wr)) (fun s13 _ => N - (intOf s13).toNat)
        case atStart => exact ⟨0, Nat.zero_le _, rfl, HR6⟩
        case round =>
          clear HR6
          obtain ⟨p, hp, rfl, HR⟩ := hrel
          by_cases hpN : p < N
          · have hp64 : p < 64 := by omega
            have d1 : decide (p < 64) = true := decide_eq_true hp64
            have d2 : decide ((p : Int) < max 1 n) = true := by rw [HMX.out p hp64, decide_eq_true hpN]
            have kp := HR.out.cell hp64
            have hpl : p < l'.length := by rw [HR.out.len]; exact hpN
            rw [HR.out.same p hpl] at kp
            have hp1 : p + 1 ≤ N := hpN
            cases hh : (wat l' p).h
            · rw [hh] at kp
              have HOF := Lib.hid (of_any HR.out.gr (p : Int))
              have e : ofN l' (p : Int) = (wat l' p).t := by unfold ofN; rw [hasB_nat hpl]; rfl
              rw [e] at HOF
              have d3 : decide ((wat l' p).t < lim l') = false := decide_eq_false (Nat.not_lt.2 (lim_of hpl hh))
              clear e hh hpl hpN
              go_wp2_with fail
              refine HOF.out.mono ?_
              rintro e w7 ⟨rfl, rfl⟩
              clear HOF
              go_wp2
              exact ⟨⟨p + 1, by omega, by go_num, HR⟩, by simp [intOf]; omega⟩
            · rw [hh] at kp
              clear hh hpl hpN
              go_wp2
              exact ⟨⟨p + 1, by omega, by go_num, HR⟩, by simp [intOf]; omega⟩
          · have hpe : N = p := by omega
            subst hpe
            by_cases h64 : N < 64
            · have d1 : decide (N < 64) = true := decide_eq_true h64
              have d2 : decide ((N : Int) < max 1 n) = false := by rw [HMX.out _ h64, decide_eq_false hpN]
              clear hpN
              go_wp2
              exact ⟨⟨i + 1, by omega, by go_num, l', G', rfl, HR⟩, by simp [intOf]; omega⟩
            · have d1 : decide (N < 64) = false := decide_eq_false h64
              clear hpN
              go_wp2
              exact ⟨⟨i + 1, by omega, by go_num, l', G', rfl, HR⟩, by simp [intOf]; omega⟩
    · have hie : i = m := by omega
      go_wp2_with fail
      refine (awake_any wr).mono ?_
      rintro e w9 ⟨rfl, hb9⟩
      go_wp2
      go_ret
      exact ⟨rfl, HR.out.below.trans (hb9.mono HR.out.below.size)⟩

theorem own : ownKnob Try.prog.godebug = none := by kernel_rfl
theorem laidOut : laidOutB Try.prog = true := by kernel_rfl

set_option maxRecDepth 100000 in
theorem grantRises_lifted (os : Os) (started : os.Started) (H : Type) (enc : TypeId × Value → H) :
    ReturnsInHanded {} Try.checked os 4 .any (Rows.grantRisesSpec.pre6 enc Try.prog Try.f4 Rows.grantRisesRow.domain false) (Rows.grantRisesSpec.post enc Try.prog Try.f4 false true false false) := by
  refine returnsInHanded_of_change (C := Try.checked) own started (by kernel_rfl) Try.func4
    (ChangeSpec.witness6 (enc := enc) (C := Try.checked) false ⟨#[], #[.int .i64 0, .int .i64 0, .slice none 0 0], []⟩ 8 (by kernel_rfl) (by kernel_rfl) (by kernel_rfl) (by kernel_rfl)) ?_
  intro W base args ds gs before hval0 hW _ _
  have hval : ∀ (j : Nat) t v, Try.f4.params[j]? = some t → args[j]? = some v → Value.okWide Try.prog W .any base t v := hval0
  have hW' := hW
  obtain ⟨p, q, hA0, hV, rfl, _, _⟩ := hW
  have hA : DataW.TrodAll enc Try.prog W 0 (fun _ => true) true Try.f4.params.toList args.toList ds p := hA0
  rw [Try.params4] at hA hval
  obtain ⟨v0, vs0, d0, ds0, p0, q0, hargs, rfl, rfl, h0, r0⟩ := trodAll_cons hA
  obtain ⟨v1, vs1, d1, ds1, p1, q1, rfl, rfl, rfl, h1, r1⟩ := trodAll_cons r0
  obtain ⟨v2, vs2, d2, ds2, p2, q2, rfl, rfl, rfl, h2, r2⟩ := trodAll_cons r1
  obtain ⟨rfl, rfl, rfl⟩ := trodAll_nil r2
  obtain rfl : args = #[v0, v1, v2] := by cases args; simp_all
  obtain ⟨rfl, rfl⟩ := trodVars_none hV
  have k0 := h0
  have lt0 : ∀ x ∈ p0, x.block < W.heap.size := by obtain ⟨m, hm⟩ := k0; exact DataW.trod_lt m _ _ _ hm
  have k1 := h1
  have lt1 : ∀ x ∈ p1, x.block < W.heap.size := by obtain ⟨m, hm⟩ := k1; exact DataW.trod_lt m _ _ _ hm
  have k2 := h2
  have lt2 : ∀ x ∈ p2, x.block < W.heap.size := by obtain ⟨m, hm⟩ := k2; exact DataW.trod_lt m _ _ _ hm
  obtain ⟨a0, rfl, _, _, wf0⟩ := open_int Try.underlying3 (hval 0 3 v0 rfl rfl) h0
  obtain ⟨a1, rfl, _, _, _⟩ := open_int Try.underlying3 (hval 1 3 v1 rfl rfl) h1
  have hwalk : Calls Try.prog 4 #[.int .i64 a0, .int .i64 a1, v2] W fun e w' => e = .returned (.bool true) ∧ Below W.heap.size W w' := by
    obtain ⟨fuel2, hf2⟩ := h2
    obtain ⟨x2, len2, cap2, rfl⟩ := okWide_slice Try.underlying22 (hval 2 22 v2 rfl rfl)
    obtain ⟨l, A, n, c, hv, hl, hc, hm, hL, hO⟩ := open_acts (by simpa [Value.cells] using hf2)
    injection hv with e1 e2 e3
    subst e1 e2 e3
    by_cases hn : 200 < len2
    · exact rises_many a0 a1 _ _ _ W hn
    · exact rises_few a0 a1 (bounds_i64 wf0) x2 len2 cap2 l W (by omega) hl hL hO
  clear hA0 hval0
  refine hwalk.mono fun e W' ⟨he, bel⟩ => ?_
  subst he
  exact ⟨_, rfl, _, _, _, [], _, [], hW', trodAll_mk1 (shut_bool Try.underlying4 _), (trodAll_cons_mk (Below.trod laidOut (by kernel_rfl) (of_decide_eq_true (by kernel_rfl)) k0 bel lt0) (trodAll_cons_mk (Below.trod laidOut (by kernel_rfl) (of_decide_eq_true (by kernel_rfl)) k1 bel lt1) (trodAll_cons_mk (Below.trod laidOut (by kernel_rfl) (of_decide_eq_true (by kernel_rfl)) k2 bel lt2) trodAll_mk0))), rfl, bel.frame _, fun h => by cases h⟩

theorem grantRises_proved : Rows.GrantRisesSaid :=
  OpenClaim.holds_of_wide 4 Try.f4 rfl rfl rfl rfl rfl rfl rfl ⟨rfl, rfl, rfl, rfl, rfl⟩ rfl rfl rfl rfl rfl (by kernel_rfl) Try.func4 (by kernel_rfl)
    (of_decide_eq_true (by kernel_rfl)) (by unfold Func.isWrapper; first | (rw [if_pos (by decide +kernel)]; kernel_rfl) | (rw [if_neg (by decide +kernel)]; exact ⟨rfl, rfl⟩))
    (fun os started H enc _ => grantRises_lifted os started H enc)

end Go.Proofs.Ytenaoinkjdaoeaa
