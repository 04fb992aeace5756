/- SlideOwn: for every bytes the call returns true (what waits is the own of the window: whoever writes into what was handed in, or was told, changes nothing), and changes nothing that was there. No conditions. -/
import Derived.Test.YtohlgjkblcopoaaSlQ
import Derived.Test.YtohlgjkblcopoaaSlN
import Derived.ChangeOld
namespace Go.Proofs.Ytohlgjkblcopoaa
open Go.ChangeShapes Go.WideShapes Go.ChangeAt Go.RowKit

section
variable {w : World} {base p : Nat} {T : Value} {width last : Nat} {D : Nat → Prop}
/-- An empty window keeps out of more blocks. -/
theorem WinAt.widen0 (h : WinAt w base p T width last [] D) {D' : Nat → Prop} (h1 : ∀ b, WD p T b → D' b) (h2 : ∀ b, D' b → base ≤ b ∧ b < w.heap.size) : WinAt w base p T width last [] D' :=
  { box := h.box, row := h.row, frs := by simp, oks := by simp, seqs := by simp, dw := h1, din := h2, fit := h.fit, fit2 := h.fit2, wid1 := h.wid1, wid2 := h.wid2, low := h.low }
end

/-- The frame that is put in. -/
def ownF (b : List UInt8) : Fr := ⟨0, 0, 0, zid, 0, 0, 0, 0, 0, 0, [], [], [], [5], b⟩
theorem ownF_ok {b : List UInt8} (h : b.length ≤ 100) : (ownF b).Ok := ⟨(by decide : 0 < 256), (by decide : 0 < 256), (by decide : 0 < 256), (by decide : 0 < 18446744073709551616), (by decide : 0 < 4294967296), (by decide : 0 < 4294967296), (by decide : 0 < 4294967296), (by decide : 0 < 18446744073709551616), (by decide : 0 < 18446744073709551616), Nat.zero_le _, Nat.zero_le _, Nat.zero_le _, (by decide : 1 ≤ 100), (by show b.length ≤ 4000; omega), by simp [ownF], by simp [ownF]⟩
def ownP (b : List UInt8) (Ao : Option Addr) (co g : Nat) : Pf := ⟨ownF b, fun i => match i with | 0 => (none, 0) | 1 => (none, 0) | 2 => (none, 0) | 3 => (some ⟨g, 0, none⟩, 1) | 4 => (Ao, co)⟩

/-- What is told of such a window: one frame, of the call's own. -/
theorem own_told {w : World} {base n c : Nat} {b : List UInt8} {A : Option Addr} (h : FrsOwn w base [seqd (ownF b) 1] (.slice A n c)) :
    ∃ g Ad cd gh ch, A = some ⟨g, 0, none⟩ ∧ w.cell? ⟨g, 15, none⟩ = some (.slice Ad b.length cd) ∧ w.cell? ⟨g, 14, none⟩ = some (.slice (some ⟨gh, 0, none⟩) 1 ch) ∧
      w.ownsRow base 5 1 (.slice Ad b.length cd) b.length (bvs b) ∧ w.ownsRow base 23 1 (.slice (some ⟨gh, 0, none⟩) 1 ch) 1 (uvs [5]) ∧ base ≤ g ∧ g < w.heap.size ∧ (Value.slice Ad b.length cd).ownBlock ≠ some g ∧ gh ≠ g ∧ (Value.slice Ad b.length cd).ownBlock ≠ some gh := by
  have h0 := h
  obtain ⟨g, y, rfl, hy, hO, hb, hg, hr⟩ := h.at_ 0 (by simp)
  obtain ⟨ys, -, hrow, -⟩ := h0
  obtain ⟨F, p⟩ := y
  have hF : F = seqd (ownF b) 1 := hy
  subst hF
  have h14 : w.cell? ⟨g, 14, none⟩ = some (.slice (p 3).1 1 (p 3).2) := by have := hr 14 _ rfl; rw [Nat.zero_mul, Nat.zero_add] at this; exact this
  have h15 : w.cell? ⟨g, 15, none⟩ = some (.slice (p 4).1 b.length (p 4).2) := by have := hr 15 _ rfl; rw [Nat.zero_mul, Nat.zero_add] at this; exact this
  obtain ⟨-, -, -, o3, o4⟩ := hO
  have o3' : w.ownsRow base 23 1 (.slice (p 3).1 1 (p 3).2) 1 (uvs [5]) := o3
  have o4' : w.ownsRow base 5 1 (.slice (p 4).1 b.length (p 4).2) b.length (bvs b) := o4
  obtain ⟨gh, ch, hv, hgb, hglt⟩ := o3'.form (by decide)
  injection hv with e1 e2 e3
  rw [e1, e3] at o3' h14
  exact ⟨g, (p 4).1, (p 4).2, gh, ch, rfl, h15, h14, o4', o3', hb, hg, fun e => own_apart o4' hrow (by decide) e rfl, fun e => own_apart o3' hrow (by decide) (b := gh) rfl (by rw [e]; rfl), fun e => own_apart o4' o3' (by decide) e rfl⟩

set_option maxRecDepth 20000 in
set_option maxHeartbeats 6400000 in
theorem slideOwn_walk (A : Option Addr) (c : Nat) (b : List UInt8) (w : World) (hn : b.length ≤ 100) (hL : Lies w w.heap.size A (bvs b)) :
    Calls Try.prog 5 #[.slice A b.length c] w fun e w' => e = .returned (.bool true) ∧ Below w.heap.size w w' := by
  have mixed := mixedOrders
  obtain ⟨i0, hi, hz0, hz1, hz2⟩ := info_parts Try.info5
  have hd : decide (100 < (b.length : Int)) = false := by simp; omega
  have hN := new_any 1 w w.heap.size (Nat.le_refl _) (by decide) (by decide)
  rw [show widthN 1 = 1 from rfl] at hN
  have HL := Lib.hid hL
  clear hL
  go_enter Try.func5, Try.ntmps5
  go_wp2_with fail
  refine hN.mono ?_
  rintro e w1 ⟨rfl, hW, hb1⟩
  have HW := Lib.hid hW
  have HB1 := Lib.hid hb1
  have hplt : w.heap.size < w1.heap.size := hW.plt
  have hO : (w1.alloc (.cells #[] 5)).ownsRow w1.heap.size 5 1 (.slice (some ⟨w1.heap.size, 0, none⟩) 0 0) 0 [] := World.ownsRow_lit w1 #[] 0 (Nat.le_refl _) (Nat.zero_le _) rfl
  have hL1 := (HL.out.below hb1).below (((Below.refl _ _).alloc (Nat.le_of_lt hplt) (.cells #[] 5)))
  clear hN hW hb1
  go_wp2_with (at_builtin; refine wpList_append_lst rfl _ _ 38 rfl w1.heap.size 5 i0 (.int .u8 0) 1 Try.underlying38 hi hz0 hz1 hz2 rfl _ 0 [] rfl hO _ _ _ _ (bvs b) rfl ?d0 hL1 (bvs_one _) ?d2 ?d3 (by simp) ?_)
  case d0 => rw [bvs_length]
  case d2 => unfold maxLen; omega
  case d3 => omega
  intro v1 w2 hown2 _ hb2 _
  try rw [Nat.zero_add] at hown2
  try rw [List.nil_append] at hown2
  obtain ⟨Ao, co, rfl, -, -⟩ := own_sliceK hown2
  have hb12 : Below w1.heap.size w1 w2 := ((Below.refl _ _).alloc (Nat.le_refl _) _).trans hb2
  have hW2 := HW.out.on hb12
  have HB2 : Hid (Below w.heap.size w w2) := HB1.out.trans (hb12.mono (Nat.le_of_lt hplt))
  have hs12 := hb12.size
  have hbH : Below w2.heap.size w2 (w2.alloc (.cells #[.int .u64 5] 23)) := (Below.refl _ _).alloc (Nat.le_refl _) _
  have hOH := own_below hown2 hbH
  have HWD : Hid (WinAt (w2.alloc (.cells #[.int .u64 5] 23)) w.heap.size w.heap.size (.slice none 0 0) 1 0 [] (fun k => k = w.heap.size ∨ (Value.slice Ao b.length co).ownBlock = some k)) :=
    (hW2.on hbH).widen0 (fun k hk => hk.elim .inl fun e => by simp [Value.ownBlock] at e) fun k hk => hk.elim (fun e => by subst e; simp; omega) fun e => by have := hOH.lt k e; omega
  have hnW : ∀ k, WD w.heap.size (.slice none 0 0) k → k < w1.heap.size := fun k hk => hk.elim (fun e => by omega) fun e => by simp [Value.ownBlock] at e
  have HX : Hid ((ownP b Ao co w2.heap.size).X (w2.alloc (.cells #[.int .u64 5] 23)) (WD w.heap.size (.slice none 0 0))) := by
    refine ⟨LiesX.nil, LiesX.nil, LiesX.nil, ?_, LiesX.of_own hOH hnW⟩
    exact LiesX.of_new #[.int .u64 5] 23 fun e => by have := hnW _ e; omega
  have hput := put_one_room HWD.out (ownP b Ao co w2.heap.size) HX.out (ownF_ok hn) (by decide) (by decide)
  have HOH := Lib.hid hOH
  have HO2 : Hid (∀ k, (Value.slice Ao b.length co).ownBlock = some k → w1.heap.size ≤ k ∧ k < w2.heap.size) := fun k hk => hown2.lt k hk
  have hs2H : (w2.alloc (.cells #[.int .u64 5] 23)).heap.size = w2.heap.size + 1 := by simp
  rw [hs2H] at hput
  have HBH : Hid (Below w.heap.size w (w2.alloc (.cells #[.int .u64 5] 23))) := HB2.out.trans (hbH.mono HB2.out.size)
  clear hown2 hb2 hb12 hW2 hbH hOH hL1 hO HX HW
  go_wp2_with fail
  refine hput.mono ?_
  rintro e w4 ⟨rfl, T4, l4, D4, hW4, hl4, ho4, hd4, hd4', ht4⟩
  have HFS : Hid (l4.map Pf.F = [seqd (ownF b) 1]) := hl4
  have HW4 := Lib.hid hW4
  have HO4 := Lib.hid (own_only HOH.out ho4 fun k hk e => by have := (HO2.out k hk).1; have := hnW k e; omega)
  have HB4 : Hid (Below w.heap.size w w4) := HBH.out.trans (ho4.below (fun k e => e.elim (fun e => by omega) fun e => by simp [Value.ownBlock] at e) HBH.out.size)
  have HD4 : Hid (∀ k, (Value.slice Ao b.length co).ownBlock = some k → D4 k) := fun k hk => hd4' k (.inr hk)
  have HT4 : Hid (∀ k, T4.ownBlock = some k → w2.heap.size < k) := fun k hk => (ht4 k hk).elim (fun e => by simp [Value.ownBlock] at e) fun h => by omega
  clear hput hW4 hl4 ho4 hd4 hd4' ht4 hnW HBH HOH HWD
  go_wp2_with fail
  go_loopw [5] (fun s wr => ∃ q : Nat, s = .int .i64 (q : Int) ∧ IncS w4 w1.heap.size b.length q (.slice Ao b.length co) wr) (fun s _ => b.length - (intOf s).toNat)
  case atStart => exact ⟨0, rfl, IncS.start HO4.out⟩
  case round =>
    obtain ⟨q, rfl, hR⟩ := hrel
    by_cases hq : q < b.length
    · obtain ⟨gO, c', k, hv, hk, hcell, hfr⟩ := hR.cell hq
      obtain ⟨rfl, rfl⟩ : Ao = some ⟨gO, 0, none⟩ ∧ co = c' := by injection hv with e1 _ e3; exact ⟨e1, e3⟩
      have hq2 : ¬ b.length ≤ q := by omega
      have HR := Lib.hid hR
      clear hR hv
      go_wp2
      go_roundw
      case rel =>
        refine ⟨q + 1, by go_num, ?_⟩
        have := HR.out.step hq ((k + 1) % 256) (Nat.mod_lt _ (by decide))
        simpa using this
      case measure => simp [intOf]; omega
    · have hq0 := hR.1
      obtain rfl : q = b.length := by omega
      obtain ⟨_, _, _, _, hOO⟩ := hR
      have HWr : Hid (WinAt wr w.heap.size w.heap.size T4 1 1 l4 D4) := HW4.out.kept hOO (fun k hk e => hk.elim (fun h => by have := (HO2.out k e).1; omega) fun h => by have := HT4.out k h; have := (HO2.out k e).2; omega) fun k e => HD4.out k e
      have HBr : Hid (Below w.heap.size w wr) := HB4.out.trans (hOO.below (fun k e => by have := (HO2.out k e).1; omega) HB4.out.size)
      have hwt : ∀ W, Below wr.heap.size wr W → Calls Try.prog 21 #[.pointer (some ⟨w.heap.size, 0, none⟩), .int .u64 1, .int .i64 1] W (Waited W [seqd (ownF b) 1]) := fun W hW => by
        have h1 := waiting_all (HWr.out.on hW) 1 1 (by decide) (by decide)
        have h2 : l4.length = 1 := by have := congrArg List.length HFS.out; simpa using this
        rw [HFS.out, h2] at h1
        exact h1
      have HWT := Lib.hid hwt
      clear hOO HW4 HO4 HB4 HD4 HT4 HO2 hwt hq
      generalize wr = wq at *
      go_wp2_with fail
      refine (HWT.out wq (Below.refl _ _)).mono ?_
      rintro e w5 ⟨A5, n5, c5, rfl, hn5, hO5, hb5⟩
      have hn51 : 1 = n5 := hn5.out
      subst hn51
      obtain ⟨g, Ad, cd, gh, ch, rfl, h15, h14, oD, oH, hgb, hglt, hDg, hhg, hDh⟩ := own_told hO5
      have HB5 := Lib.hid hb5
      have HBw5 : Hid (Below w.heap.size w w5) := HBr.out.trans (hb5.mono HBr.out.size)
      have x1 := later_cell (w0 := w5) (b := g) hglt h15
      have x2 := later_cell (w0 := w5) (b := g) hglt h14
      have s1 : ∀ p : Later w5, (convert 38 9 (.slice Ad b.length cd)).run Try.prog p.w = .ok (.string (str b)) p.w := fun p => strs_of rfl ((Lies.of_own oD).below p.hb) cd
      have s2 : ∀ p : Later w5, (convert 38 9 (.slice A b.length c)).run Try.prog p.w = .ok (.string (str b)) p.w := fun p => strs_of rfl (HL.out.below (HBw5.out.trans (p.hb.mono HBw5.out.size))) c
      have H15 := Lib.hid h15
      have H14 := Lib.hid h14
      have HOD := Lib.hid oD
      have HOH5 := Lib.hid oH
      clear hO5 hn5 hb5 h15 h14 oD oH
      go_wp2_with fail
      refine wp_region_later mixed (by kernel_rfl) ?_
      repeat (go_big_quiet_step (fail))
      refine wpQuiet_nil ?_
      intro _ hw'
      obtain ⟨p5, rfl⟩ := hw'
      clear x1 x2 s1 s2
      have HOD6 := Lib.hid (own_below HOD.out p5.hb)
      have HOH6 := Lib.hid (own_below HOH5.out p5.hb)
      have H156 : Hid (p5.w.cell? ⟨g, 15, none⟩ = some (.slice Ad b.length cd)) := (p5.hb.cell (p := ⟨g, 15, none⟩) hglt).trans H15.out
      have H146 : Hid (p5.w.cell? ⟨g, 14, none⟩ = some (.slice (some ⟨gh, 0, none⟩) 1 ch)) := (p5.hb.cell (p := ⟨g, 14, none⟩) hglt).trans H14.out
      have HB6 : Hid (Below wq.heap.size wq p5.w) := HB5.out.trans (p5.hb.mono HB5.out.size)
      have hglt6 : g < p5.w.heap.size := Nat.lt_of_lt_of_le hglt p5.hb.size
      generalize p5.w = w6 at HOD6 HOH6 H156 H146 HB6 hglt6 ⊢
      clear HOD HOH5 H15 H14 HB5 HBw5 hglt
      go_wp2_with fail
      go_loopw [7] (fun s wi => ∃ q : Nat, s = .int .i64 (q : Int) ∧ IncS w6 wq.heap.size b.length q (.slice Ad b.length cd) wi) (fun s _ => b.length - (intOf s).toNat)
      case atStart => exact ⟨0, rfl, IncS.start HOD6.out⟩
      case round =>
        obtain ⟨q, rfl, hR⟩ := hrel
        by_cases hq : q < b.length
        · obtain ⟨gO, c', k, hv, hk, hcell, hfr⟩ := hR.cell hq
          have hOO : OnlyE w6 wr (fun k => (Value.slice Ad b.length cd).ownBlock = some k) := by obtain ⟨_, _, _, _, h⟩ := hR; exact h
          have y15 := (World.cell?_of_block (a := ⟨g, 15, none⟩) (hOO.same g hglt6 hDg)).trans H156.out
          obtain ⟨rfl, rfl⟩ : Ad = some ⟨gO, 0, none⟩ ∧ cd = c' := by injection hv with e1 _ e3; exact ⟨e1, e3⟩
          have hq2 : ¬ b.length ≤ q := by omega
          have HR := Lib.hid hR
          clear hR hv hOO
          go_wp2
          go_roundw
          case rel =>
            refine ⟨q + 1, by go_num, ?_⟩
            have := HR.out.step hq ((k + 1) % 256) (Nat.mod_lt _ (by decide))
            simpa using this
          case measure => simp [intOf]; omega
        · have hq0 := hR.1
          obtain rfl : q = b.length := by omega
          obtain ⟨_, _, _, _, hOO⟩ := hR
          have y15 := (World.cell?_of_block (a := ⟨g, 15, none⟩) (hOO.same g hglt6 hDg)).trans H156.out
          have y14 := (World.cell?_of_block (a := ⟨g, 14, none⟩) (hOO.same g hglt6 hDg)).trans H146.out
          have hOH7 := own_only HOH6.out hOO fun k hk e => hDh (by rw [e, ← hk]; rfl)
          have yh : wr.cell? ⟨gh, 0, none⟩ = some (.int .u64 5) := hOH7.cellAt 0 (by decide)
          have fh := hOH7.frozenAt 0
          have hgq : wq.heap.size ≤ gh := (hOH7.lt gh rfl).1
          have hDq : ∀ k, (Value.slice Ad b.length cd).ownBlock = some k → wq.heap.size ≤ k := fun k hk => (HOD6.out.lt k hk).1
          have HBq : Hid (Below wq.heap.size wq wr) := HB6.out.trans (hOO.below hDq HB6.out.size)
          have HB8 : Hid (Below wq.heap.size wq (wr.setCell ⟨gh, 0, none⟩ (.int .u64 6))) := HBq.out.setCell hgq _
          have hq3 : ¬ (b.length : Int) < (b.length : Int) := by omega
          clear hOO hOH7 hDq HOD6 HOH6 H156 H146 HB6
          go_wp2_with fail
          refine (HWT.out _ HB8.out).mono ?_
          rintro e w9 ⟨A9, n9, c9, rfl, hn9, hO9, hb9⟩
          have hn91 : 1 = n9 := hn9.out
          subst hn91
          clear y15 y14 yh fh
          obtain ⟨g9, Ad9, cd9, gh9, ch9, rfl, h159, h149, oD9, oH9, hgb9, hglt9, -, -, -⟩ := own_told hO9
          have HB9 : Hid (Below w.heap.size w w9) := HBr.out.trans ((HB8.out.mono HBr.out.size).trans (hb9.mono (Nat.le_trans HBr.out.size HB8.out.size)))
          have x1 := later_cell (w0 := w9) (b := g9) hglt9 h159
          have x2 := later_cell (w0 := w9) (b := g9) hglt9 h149
          have x3 := later_cell (w0 := w9) (b := gh9) (oH9.lt gh9 rfl).2 (show w9.cell? ⟨gh9, 0, none⟩ = some (.int .u64 5) from oH9.cellAt 0 (by decide))
          have s1 : ∀ p : Later w9, (convert 38 9 (.slice Ad9 b.length cd9)).run Try.prog p.w = .ok (.string (str b)) p.w := fun p => strs_of rfl ((Lies.of_own oD9).below p.hb) cd9
          have s2 : ∀ p : Later w9, (convert 38 9 (.slice A b.length c)).run Try.prog p.w = .ok (.string (str b)) p.w := fun p => strs_of rfl (HL.out.below (HB9.out.trans (p.hb.mono HB9.out.size))) c
          clear hO9 hn9 hb9 h159 h149 oD9 oH9 HB8 HBq HWT HBr HWr
          go_wp2_with fail
          refine wp_region_later mixed (by kernel_rfl) ?_
          repeat (go_big_quiet_step ((go_at_call 7; exact later_of (awake_any _))))
          refine wpQuiet_nil ?_
          intro _ hw'
          obtain ⟨p9, rfl⟩ := hw'
          clear x1 x2 x3 s1 s2
          go_wp2
          go_ret
          exact ⟨rfl, HB9.out.trans (p9.hb.mono HB9.out.size)⟩

theorem slideOwn_many (A : Option Addr) (n c : Nat) (w : World) (hn : 100 < n) :
    Calls Try.prog 5 #[.slice A n c] w fun e w' => e = .returned (.bool true) ∧ Below w.heap.size w w' := by
  have hd : decide (100 < (n : Int)) = true := by simp; omega
  go_enter Try.func5, Try.ntmps5
  go_wp2_with (go_at_call 7; refine (awake_any _).mono ?_; rintro e w' ⟨rfl, hb⟩)
  go_ret
  exact ⟨rfl, hb⟩

theorem own : ownKnob Try.prog.godebug = none := by kernel_rfl
theorem laidOut : laidOutB Try.prog = true := by kernel_rfl

set_option maxRecDepth 100000 in
theorem slideOwn_lifted (os : Os) (started : os.Started) (H : Type) (enc : TypeId × Value → H) :
    ReturnsInHanded {} Try.checked os 5 .any (Rows.slideOwnSpec.pre6 enc Try.prog Try.f5 Rows.slideOwnRow.domain false) (Rows.slideOwnSpec.post enc Try.prog Try.f5 false true false false) := by
  refine returnsInHanded_of_change (C := Try.checked) own started (by kernel_rfl) Try.func5
    (ChangeSpec.witness6 (enc := enc) (C := Try.checked) false ⟨#[], #[.slice none 0 0], []⟩ 8 (by kernel_rfl) (by kernel_rfl) (by kernel_rfl) (by kernel_rfl)) ?_
  intro W base args ds gs before hval0 hW _ _
  have hval : ∀ (j : Nat) t v, Try.f5.params[j]? = some t → args[j]? = some v → Value.okWide Try.prog W .any base t v := hval0
  have hW' := hW
  obtain ⟨p, q, hA0, hV, rfl, _, _⟩ := hW
  have hA : DataW.TrodAll enc Try.prog W 0 (fun _ => true) true Try.f5.params.toList args.toList ds p := hA0
  rw [Try.params5] at hA hval
  obtain ⟨v0, vs0, d0, ds0, p0, q0, hargs, rfl, rfl, h0, r0⟩ := trodAll_cons hA
  obtain ⟨rfl, rfl, rfl⟩ := trodAll_nil r0
  obtain rfl : args = #[v0] := by cases args; simp_all
  obtain ⟨rfl, rfl⟩ := trodVars_none hV
  have k0 := h0
  have lt0 : ∀ x ∈ p0, x.block < W.heap.size := by obtain ⟨m, hm⟩ := k0; exact DataW.trod_lt m _ _ _ hm
  have hwalk : Calls Try.prog 5 #[v0] W fun e w' => e = .returned (.bool true) ∧ Below W.heap.size W w' := by
    obtain ⟨a0, len0, cap0, rfl⟩ := okWide_slice Try.underlying38 (hval 0 38 v0 rfl rfl)
    obtain ⟨fuel, hf⟩ := h0
    obtain ⟨b, A, n, c, hv, hb, hc, hcm, hB⟩ := open_bytes Try.underlying38 Try.underlying5 (by kernel_rfl) (by simpa [Value.cells] using hf)
    injection hv with e1 e2 e3
    subst e1 e2 e3
    subst hb
    by_cases hn : 100 < b.length
    · exact slideOwn_many a0 b.length cap0 W hn
    · exact slideOwn_walk a0 cap0 b W (by omega) hB
  clear hA0 hval0
  refine hwalk.mono fun e W' ⟨he, bel⟩ => ?_
  subst he
  exact ⟨_, rfl, _, _, _, [], _, [], hW', trodAll_mk1 (shut_bool Try.underlying4 _), (trodAll_cons_mk (Below.trod laidOut (by kernel_rfl) (of_decide_eq_true (by kernel_rfl)) k0 bel lt0) trodAll_mk0), rfl, bel.frame _, fun h => by cases h⟩

theorem slideOwn_proved : Rows.SlideOwnSaid :=
  OpenClaim.holds_of_wide 5 Try.f5 rfl rfl rfl rfl rfl rfl rfl ⟨rfl, rfl, rfl, rfl, rfl⟩ rfl rfl rfl rfl rfl (by kernel_rfl) Try.func5 (by kernel_rfl)
    (of_decide_eq_true (by kernel_rfl)) (by unfold Func.isWrapper; first | (rw [if_pos (by decide +kernel)]; kernel_rfl) | (rw [if_neg (by decide +kernel)]; exact ⟨rfl, rfl⟩))
    (fun os started H enc _ => slideOwn_lifted os started H enc)

end Go.Proofs.Ytohlgjkblcopoaa
