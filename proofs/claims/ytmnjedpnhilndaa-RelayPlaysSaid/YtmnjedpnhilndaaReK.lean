/- Stage 16: slices.IndexFunc, DeleteFunc at places. -/
import Derived.Test.YtmnjedpnhilndaaReJ
set_option maxRecDepth 20000
namespace Go.Proofs.Ytmnjedpnhilndaa
open Go.RowKit Go.Sort Go.Maps

set_option maxHeartbeats 800000 in
theorem indexPl_any (p : Pl → Bool) (g : Nat) (lb : Array Value) (eg : ∀ args w, (callFunc g args).run Try.prog w = .ok (.enter g args) w) (A : Option Addr) (n c : Nat) (l : List Pl) (w : World)
    (hp : ∀ W, RowKit.Below w.heap.size w W → ∀ x ∈ l, Calls Try.prog g (#[valPl x] ++ lb) W fun e w' => e = .returned (.bool (p x)) ∧ RowKit.Below W.heap.size W w') (hl : l.length = n) (hn : n ≤ 5000) (h : Lies w w.heap.size A (flat encPl l)) :
    Calls Try.prog 41 #[.slice A n c, .func (.func g) #[] lb] w fun e w' => ∃ r : Int, e = .returned (.int .i64 r) ∧ Hid (FirstAt p l r) ∧ RowKit.Below w.heap.size w w' := by
  have HL := Lib.hid hl
  have HP := Lib.hid hp
  clear hl hp
  go_enter Try.func41, Try.ntmps41
  go_wp2
  go_loopw [5, 8] (fun _ i wr => ∃ k : Nat, k ≤ n ∧ i = .int .i64 k ∧ RowKit.Below w.heap.size w wr ∧ Hid (∀ x ∈ l.take k, p x = false)) (fun _ i _ => n - (intOf i).toNat)
  case atStart => exact ⟨0, Nat.zero_le _, rfl, RowKit.Below.refl _ _, by show ∀ x ∈ l.take 0, _; simp⟩
  case round =>
    obtain ⟨k, hk, rfl, hb, hK⟩ := hrel
    by_cases hlt : k < n
    · have hk1 : k < l.length := by rw [HL.out]; exact hlt
      have hcall := HP.out wr hb l[k] (List.getElem_mem hk1)
      unfold valPl plc at hcall
      have hK' : Hid (p l[k] = false → ∀ x ∈ l.take (k + 1), p x = false) := fun hq x hx => by
        rw [List.take_succ_eq_append_getElem hk1, List.mem_append] at hx
        rcases hx with h1 | h1
        · exact hK.out x h1
        · simp at h1; subst h1; exact hq
      have hF : Hid (p l[k] = true → FirstAt p l (k : Int)) := fun hq => .inr ⟨k, hk1, rfl, hq, hK.out⟩
      obtain ⟨bb, off, rfl, hbl, c0, c1, c2⟩ := (h.below hb).pl hk1
      have hwn : wr.heap.size ≥ w.heap.size := hb.size
      generalize hq : p l[k] = b at hcall hK' hF
      have HB := Lib.hid hb
      clear hK hq hb
      cases b with
      | true =>
        go_wp2_with (go_at_fn g; refine hcall.mono ?_; rintro e w' ⟨rfl, hb'⟩)
        have HB' := Lib.hid hb'
        clear hb'
        go_wp2
        go_ret
        exact ⟨_, rfl, hF.out (by simp), HB.out.trans (HB'.out.mono HB.out.size)⟩
      | false =>
        go_wp2_with (go_at_fn g; refine hcall.mono ?_; rintro e w' ⟨rfl, hb'⟩)
        have HB' := Lib.hid hb'
        clear hb'
        go_wp2
        go_roundw
        case rel => exact ⟨k + 1, by omega, by go_num, HB.out.trans (HB'.out.mono HB.out.size), hK'.out (by simp)⟩
        case measure => simp [intOf]; omega
    · have hF : Hid (FirstAt p l (-1)) := .inl ⟨rfl, fun x hx => hK.out x (by rw [List.take_of_length_le (by rw [HL.out]; omega)]; exact hx)⟩
      go_wp2
      go_ret
      exact ⟨_, rfl, hF.out, hb⟩

theorem OnlyE.set3 {w : World} {D : Nat → Prop} {g : Nat} (hg : D g) (a b c : Nat) (u v x : Value) : OnlyE w (((w.setCell ⟨g, a, none⟩ u).setCell ⟨g, b, none⟩ v).setCell ⟨g, c, none⟩ x) D := ((onlyE_set (D := D) hg a u).trans (onlyE_set (D := D) hg b v)).trans (onlyE_set (D := D) hg c x)

set_option maxHeartbeats 1600000 in
theorem deletePl_any (p : Pl → Bool) (gf : Nat) (lb : Array Value) (eg : ∀ args w, (callFunc gf args).run Try.prog w = .ok (.enter gf args) w) (A : Option Addr) (n c base : Nat) (L : List Pl) (w : World)
    (hp : ∀ W, OnlyE w W (fun k => (Value.slice A n c).ownBlock = some k) → ∀ z ∈ L, Calls Try.prog gf (#[valPl z] ++ lb) W fun e w' => e = .returned (.bool (p z)) ∧ RowKit.Below W.heap.size W w')
    (hl : L.length = n) (hn : n ≤ 5000) (hb : base ≤ w.heap.size) (h : w.ownsRow base 69 3 (.slice A n c) n (flat encPl L)) :
    Calls Try.prog 37 #[.slice A n c, .func (.func gf) #[] lb] w fun e w' => ∃ n', e = .returned (.slice A n' c) ∧ n' = (L.filter fun x => !p x).length ∧ w'.ownsRow base 69 3 (.slice A n' c) n' (flat encPl (L.filter fun x => !p x)) ∧ OnlyE w w' (fun k => (Value.slice A n c).ownBlock = some k) := by
  have hidx := indexPl_any p gf lb eg A n c L w (fun W hW z hz => hp W (OnlyE.of_below hW) z hz) hl hn (Lies.of_ownK h)
  have HL := Lib.hid hl
  have HP := Lib.hid hp
  clear hl hp
  go_enter Try.func37, Try.ntmps37
  go_wp2_with fail
  refine hidx.mono ?_
  rintro e w1 ⟨fi, rfl, hC, hb1⟩
  have hown1 := own_below h hb1
  have HO1 := Lib.hid (OnlyE.of_below (D := fun k => (Value.slice A n c).ownBlock = some k) hb1)
  have hbs : base ≤ w1.heap.size := Nat.le_trans hb hb1.size
  clear hidx h hb1
  rcases hC.out with ⟨rfl, hall⟩ | ⟨k, hk, rfl, hpk, hall⟩
  · have hfil : (L.filter fun x => !p x) = L := List.filter_eq_self.2 (fun x hx => by rw [hall x hx]; rfl)
    have HF := Lib.hid hfil
    have H1 := Lib.hid hown1
    clear hfil hall hown1 hC
    go_wp2
    go_ret
    rw [HF.out]
    exact ⟨n, rfl, HL.out.symm, H1.out, HO1.out⟩
  · have hk0 : k < n := by rw [← HL.out]; exact hk
    obtain ⟨gg, cap, hv, hbg, hlt⟩ := hown1.form (by omega)
    obtain ⟨rfl, rfl⟩ : A = some ⟨gg, 0, none⟩ ∧ c = cap := by injection hv with e1 _ e3; exact ⟨e1, e3⟩
    have hK : Hid (Kept (fun x => !p x) L L k (k + 1)) := Kept.start hk (by simp [hpk]) (fun x hx => by simp [hall x hx])
    have H1 := Lib.hid hown1
    have hne1 : ((k : Int) == -1) = false := beq_eq_false_iff_ne.2 (by omega)
    clear hpk hall hown1 hv hk hC
    go_wp2
    go_loopw [5, 6, 7] (fun s5 s6 _ wr => ∃ (i j : Nat) (dk : List Pl), s5 = .int .i64 i ∧ s6 = .int .i64 j ∧ j ≤ n ∧ Hid (Kept (fun x => !p x) L dk i j) ∧ wr.ownsRow base 69 3 (.slice (some ⟨gg, 0, none⟩) n c) n (flat encPl dk) ∧ Hid (OnlyE w wr (fun k => (Value.slice (some ⟨gg, 0, none⟩) n c).ownBlock = some k))) (fun _ s6 _ _ => n - (intOf s6).toNat)
    case atStart => exact ⟨k, k + 1, L, rfl, by go_num, by omega, hK, H1.out, HO1⟩
    case round =>
      clear hK H1 HO1 hlt hbs
      obtain ⟨i, j, dk, rfl, rfl, hjn, hK, hown, HO⟩ := hrel
      have hij : i < j := hK.out.lt
      have hdl : dk.length = n := by rw [hK.out.len, HL.out]
      have hgl : gg < wr.heap.size := (hown.lt gg rfl).2
      by_cases hlt : j < n
      · have hjl : j < L.length := by rw [HL.out]; exact hlt
        have hjd : j < dk.length := by rw [hdl]; exact hlt
        have hcall : ∀ W, RowKit.Below wr.heap.size wr W → _ := fun W hW => HP.out W (HO.out.trans (OnlyE.of_below hW)) L[j] (List.getElem_mem hjl)
        have c0 : wr.cell? ⟨gg, j * 3, none⟩ = some (.int .u8 (dk[j].x.f : Int)) := by rw [hown.cellAt _ (by omega)]; exact pls_at0 dk j hjd
        have c1 : wr.cell? ⟨gg, j * 3 + 1, none⟩ = some (.int .u64 (dk[j].x.s : Int)) := by rw [hown.cellAt _ (by omega)]; exact pls_at1 dk j hjd
        have c2 : wr.cell? ⟨gg, j * 3 + 1 + 1, none⟩ = some (.int .u32 (dk[j].a : Int)) := by rw [hown.cellAt _ (by omega)]; exact pls_at2 dk j hjd
        rw [hK.out.at_ hjl] at c0 c1 c2
        have HD := Lib.hid hdl
        have HOW := Lib.hid hown
        clear hdl hown hjd
        unfold valPl plc at hcall
        generalize hpb : p L[j] = pb at hcall
        have HPB := Lib.hid hpb
        have HC := Lib.hid hcall
        clear hpb hcall
        go_wp2_with fail
        generalize hw0 : World.alloc wr _ = w0
        obtain ⟨hs0, hG, hcc⟩ := box1 wr w0 _ _ hw0
        go_at_fn gf
        refine (HC.out w0 hG.below).mono ?_
        rintro e w2 ⟨rfl, hb2⟩
        have hbw : RowKit.Below wr.heap.size wr w2 := hG.below.trans (hb2.mono hG.size)
        have hO2 := own_below HOW.out hbw
        have b0 : w2.cell? ⟨wr.heap.size, 0, none⟩ = some (.int .u8 (L[j].x.f : Int)) := (hb2.cell (p := ⟨wr.heap.size, 0, none⟩) (by show wr.heap.size < w0.heap.size; omega)).trans (hcc 0 _ rfl)
        have b1 : w2.cell? ⟨wr.heap.size, 1, none⟩ = some (.int .u64 (L[j].x.s : Int)) := (hb2.cell (p := ⟨wr.heap.size, 1, none⟩) (by show wr.heap.size < w0.heap.size; omega)).trans (hcc 1 _ rfl)
        have b2 : w2.cell? ⟨wr.heap.size, 2, none⟩ = some (.int .u32 (L[j].a : Int)) := (hb2.cell (p := ⟨wr.heap.size, 2, none⟩) (by show wr.heap.size < w0.heap.size; omega)).trans (hcc 2 _ rfl)
        have HO2 := Lib.hid (HO.out.trans (OnlyE.of_below hbw))
        have hgl2 : gg < w2.heap.size := Nat.lt_of_lt_of_le hgl hbw.size
        clear hbw HOW HO HC hw0 hG hcc hs0 hb2
        cases pb with
        | true =>
          have H2 := Lib.hid hO2
          clear hO2
          go_wp2
          go_roundw
          case rel => exact ⟨i, j + 1, dk, rfl, by go_num, by omega, hK.out.skip hjl (by simp [HPB.out]), H2.out, HO2⟩
          case measure => simp [intOf]; omega
        | false =>
          have hid : i < dk.length := by rw [HD.out]; omega
          have o0 : w2.cell? ⟨gg, i * 3, none⟩ = some (.int .u8 (dk[i].x.f : Int)) := by rw [hO2.cellAt _ (by omega)]; exact pls_at0 dk i hid
          have o1 : w2.cell? ⟨gg, i * 3 + 1, none⟩ = some (.int .u64 (dk[i].x.s : Int)) := by rw [hO2.cellAt _ (by omega)]; exact pls_at1 dk i hid
          have o2 : w2.cell? ⟨gg, i * 3 + 1 + 1, none⟩ = some (.int .u32 (dk[i].a : Int)) := by rw [hO2.cellAt _ (by omega)]; exact pls_at2 dk i hid
          have f0 := hO2.frozenAt (i * 3)
          have f1 := hO2.frozenAt (i * 3 + 1)
          have f2 := hO2.frozenAt (i * 3 + 1 + 1)
          generalize (dk[i].x.f : Int) = of at o0
          generalize (dk[i].x.s : Int) = os at o1
          generalize (dk[i].a : Int) = oa at o2
          have H2 := Lib.hid hO2
          clear hO2
          go_wp2
          go_roundw
          case rel =>
            refine ⟨i + 1, j + 1, dk.set i L[j], by go_num, by go_num, by omega, hK.out.keep hjl (by simp [HPB.out]), ?_, ?_⟩
            · have s2 := (((H2.out.stored (i * 3) (.int .u8 (L[j].x.f : Int))).1.stored (i * 3 + 1) (.int .u64 (L[j].x.s : Int))).1.stored (i * 3 + 1 + 1) (.int .u32 (L[j].a : Int))).1
              rwa [pls_set dk i L[j] hid] at s2
            · exact HO2.out.trans (OnlyE.set3 (D := fun k => (Value.slice (some ⟨gg, 0, none⟩) n c).ownBlock = some k) rfl _ _ _ _ _ _)
          case measure => simp [intOf]; omega
      · obtain rfl : j = n := by omega
        have hcn : j ≤ c := by
          obtain ⟨_, _, hv, h1, _⟩ := own_sliceK hown
          injection hv with _ _ e3
          omega
        obtain ⟨w3, hcl, hown3, hg3⟩ := clear_own (k := 3) (ty := 0) (i := i) Try.underlying61 Try.zeroValue69 rfl (by simp [Value.cells, Value.oneCell']) (by decide) hij (c - i) hown
        rw [flat_take encPl_len dk i (by omega), hK.out.front, ← HL.out, List.take_length] at hown3
        have hlen : (L.filter fun x => !p x).length = i := by
          have := congrArg List.length hK.out.front
          rw [List.length_take, ← HL.out, List.take_length] at this
          omega
        have HO3 := Lib.hid hown3
        have HLEN := Lib.hid hlen
        have HOO := Lib.hid (HO.out.trans (OnlyE.of_grown (D := fun k => (Value.slice (some ⟨gg, 0, none⟩) j c).ownBlock = some k) hg3 rfl))
        clear hown hown3 hlen hK hdl hg3 HO
        go_wp2
        go_ret
        exact ⟨i, rfl, HLEN.out.symm, HO3.out, HOO.out⟩

end Go.Proofs.Ytmnjedpnhilndaa
