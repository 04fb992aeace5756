/- What is told of the window, and of the document's, behind an act. -/
import Derived.Test.YtohlgjkblcopoaaSlY
import Derived.Test.YtohlgjkblcopoaaSlT
import Derived.Test.YtohlgjkblcopoaaSlRf
namespace Go.Proofs.Ytohlgjkblcopoaa
open Go.RowKit Go.Sort

section
variable {w w8 : World} {p q width : Nat} {T : Value} {last : Nat} {lw : List Pf} {D : Nat → Prop} {Am : Option Addr} {cm : Nat} {lm : List Pf}

theorem SP.cwa (h : SP w p q width T last lw D Am cm lm last w8) (hm : lw.map Pf.F = lm.map Pf.F) (V : World) (hV : RowKit.Below w8.heap.size w8 V) : Calls Try.prog 15 #[.pointer (some ⟨p, 0, none⟩)] V fun e w' => e = .returned (.int .i64 (lm.length : Int)) ∧ w' = V := by
  have := waits_any (h.on hV).win
  rw [← h.len hm] at this
  exact this
theorem SP.cro (h : SP w p q width T last lw D Am cm lm last w8) (hm : lw.map Pf.F = lm.map Pf.F) (V : World) (hV : RowKit.Below w8.heap.size w8 V) : Calls Try.prog 16 #[.pointer (some ⟨p, 0, none⟩)] V fun e w' => e = .returned (.int .i64 ((width : Int) - (lm.length : Int))) ∧ RowKit.Below V.heap.size V w' := by
  have hf := h.win.fit
  have := room_any (h.on hV).win
  rw [← h.len hm] at this hf
  rw [show ((width - lm.length : Nat) : Int) = (width : Int) - (lm.length : Int) by omega] at this
  exact this
theorem SP.cfi (h : SP w p q width T last lw D Am cm lm last w8) (hm : lw.map Pf.F = lm.map Pf.F) (V : World) (hV : RowKit.Below w8.heap.size w8 V) : Calls Try.prog 17 #[.pointer (some ⟨p, 0, none⟩)] V fun e w' => e = .returned (.int .u64 (firstN last lm.length : Int)) ∧ RowKit.Below V.heap.size V w' := by
  have := first_any (h.on hV).win
  rw [← h.len hm] at this
  exact this
theorem SP.cla (h : SP w p q width T last lw D Am cm lm last w8) (V : World) (hV : RowKit.Below w8.heap.size w8 V) : Calls Try.prog 19 #[.pointer (some ⟨p, 0, none⟩)] V fun e w' => e = .returned (.int .u64 (last : Int)) ∧ w' = V := last_any (h.on hV).win
theorem SP.crf (h : SP w p q width T last lw D Am cm lm last w8) (hm : lw.map Pf.F = lm.map Pf.F) (V : World) (hV : RowKit.Below w8.heap.size w8 V) : Calls Try.prog 18 #[.agg #[.int .i64 (width : Int), .slice Am lm.length cm, .int .u64 (last : Int)]] V fun e w' => e = .returned (.int .u64 (firstN last lm.length : Int)) ∧ RowKit.Below V.heap.size V w' :=
  refFirst_any Am lm.length cm width last lm V rfl (h.on hV).lies.lies (h.m64 hm).2 h.win.low fun h0 => by have := h.seqs hm 0 h0; rw [this, Nat.add_zero]
theorem SP.cw1 (h : SP w p q width T last lw D Am cm lm last w8) (hm : lw.map Pf.F = lm.map Pf.F) (V : World) (hV : RowKit.Below w8.heap.size w8 V) : Calls Try.prog 21 #[.pointer (some ⟨p, 0, none⟩), .int .u64 0, .int .i64 100] V (Waited V (lw.map Pf.F)) := by
  have h64 := (h.m64 hm).1
  rw [h.len hm] at h64
  have := waiting_all (h.on hV).win 0 100 (by decide) (by decide)
  rw [waitF, Nat.zero_sub, List.drop_zero, List.take_of_length_le (by rw [List.length_map]; show _ ≤ 100; omega)] at this
  exact this
theorem SP.cw2 (h : SP w p q width T last lw D Am cm lm last w8) (hm : lw.map Pf.F = lm.map Pf.F) (fr : Nat) (most : Int) (h1 : -9223372036854775808 ≤ most) (h2 : most ≤ 9223372036854775807) (V : World) (hV : RowKit.Below w8.heap.size w8 V) :
    Calls Try.prog 21 #[.pointer (some ⟨p, 0, none⟩), .int .u64 (fr : Int), .int .i64 most] V (Waited V (((lw.map Pf.F).drop (fr - firstN last lm.length)).take most.toNat)) := by
  have := waiting_all (h.on hV).win fr most h1 h2
  rw [← h.len hm] at this
  exact this
theorem SP.cfr (h : SP w p q width T last lw D Am cm lm last w8) (hm : lw.map Pf.F = lm.map Pf.F) (fr : Nat) (most : Int) (V : World) (hV : RowKit.Below w8.heap.size w8 V) :
    Calls Try.prog 22 #[.agg #[.int .i64 (width : Int), .slice Am lm.length cm, .int .u64 (last : Int)], .int .u64 (fr : Int), .int .i64 most] V fun e w' =>
      ∃ A' n' c', e = .returned (.slice A' n' c') ∧ Hid (((lm.drop (fr - firstN last lm.length)).take most.toNat).length = n') ∧ w'.ownsRow V.heap.size 40 16 (.slice A' n' c') n' (flat encPf ((lm.drop (fr - firstN last lm.length)).take most.toNat)) ∧ RowKit.Below V.heap.size V w' :=
  refFrom_any Am lm.length cm width last fr most lm V rfl (h.on hV).lies.lies (h.m64 hm).2 (by have := (h.m64 hm).1; omega) (h.seqs hm)
theorem SP.cs1 (h : SP w p q width T last lw D Am cm lm last w8) (hm : lw.map Pf.F = lm.map Pf.F) (V V1 : World) (A : Option Addr) (n c : Nat) (hV : RowKit.Below w8.heap.size w8 V) (hV1 : RowKit.Below V.heap.size V V1) (hO : FrsOwn V1 V.heap.size (lw.map Pf.F) (.slice A n c)) (hn : (lw.map Pf.F).length = n) :
    Calls Try.prog 20 #[.slice A n c, .slice Am lm.length cm] V1 fun e w' => e = .returned (.bool true) ∧ RowKit.Below V1.heap.size V1 w' := by
  obtain ⟨ys, hy, hrow, hown⟩ := hO
  have h1 := h.on (hV.trans (hV1.mono hV.size))
  have hl := h.len hm
  have h64 := (h.m64 hm).1
  have hnl : n = lm.length := by rw [← hn, List.length_map, hl]
  subst hnl
  have hyl : ys.length = lm.length := by rw [← List.length_map (f := Pf.F), hy, List.length_map, hl]
  rw [hn] at hrow
  refine refSameL_any A Am lm.length c cm ys lm V1 hyl rfl (hy.trans hm) (fun y hy' => ?_) (Lies.of_ownK hrow) h1.lies.lies (fun y hy' => ((hown y hy').toX (D := fun _ => False) fun _ h => h.elim).frl) h1.frl (by omega)
  have : y.F ∈ lw.map Pf.F := hy ▸ List.mem_map_of_mem hy'
  obtain ⟨z, hz, e⟩ := List.mem_map.1 this
  exact e ▸ h.win.oks z hz
theorem SP.cs2 (h : SP w p q width T last lw D Am cm lm last w8) (hm : lw.map Pf.F = lm.map Pf.F) (fr : Nat) (most : Int) (V V1 V2 : World) (A B : Option Addr) (n c n' c' : Nat) (hV : RowKit.Below w8.heap.size w8 V) (hV1 : RowKit.Below V.heap.size V V1) (hV2 : RowKit.Below V1.heap.size V1 V2)
    (hO : FrsOwn V1 V.heap.size (((lw.map Pf.F).drop (fr - firstN last lm.length)).take most.toNat) (.slice A n c)) (hn : (((lw.map Pf.F).drop (fr - firstN last lm.length)).take most.toNat).length = n)
    (hR : V2.ownsRow V1.heap.size 40 16 (.slice B n' c') n' (flat encPf ((lm.drop (fr - firstN last lm.length)).take most.toNat))) (hn' : ((lm.drop (fr - firstN last lm.length)).take most.toNat).length = n') :
    Calls Try.prog 20 #[.slice A n c, .slice B n' c'] V2 fun e w' => e = .returned (.bool true) ∧ RowKit.Below V2.heap.size V2 w' := by
  obtain ⟨ys, hy, hrow, hown⟩ := hO.on hV2
  have h1 := h.on (hV.trans ((hV1.trans (hV2.mono hV1.size)).mono hV.size))
  have h64 := (h.m64 hm).1
  have hmap : ys.map Pf.F = ((lm.drop (fr - firstN last lm.length)).take most.toNat).map Pf.F := by rw [hy, List.map_take, List.map_drop, hm]
  have hyl : ys.length = n := by rw [← List.length_map (f := Pf.F), hy, hn]
  have hnn : n = n' := by
    have := congrArg List.length hmap
    rw [List.length_map, List.length_map] at this
    omega
  subst hnn
  have hle : n ≤ 64 := by rw [← hn', List.length_take, List.length_drop]; omega
  rw [hn] at hrow
  refine refSameL_any A B n c c' ys _ V2 hyl hn' hmap (fun y hy' => ?_) (Lies.of_ownK hrow) (Lies.of_ownK hR) (fun y hy' => ((hown y hy').toX (D := fun _ => False) fun _ h => h.elim).frl) (fun z hz => h1.frl z (List.mem_of_mem_drop (List.mem_of_mem_take hz))) (by omega)
  have hmem : y.F ∈ lw.map Pf.F := List.mem_of_mem_drop (List.mem_of_mem_take (hy ▸ List.mem_map_of_mem hy'))
  obtain ⟨z, hz, e⟩ := List.mem_map.1 hmem
  exact e ▸ h.win.oks z hz

/-- The document's Put and the window's own go together. -/
theorem SP.put_both (h : SP w p q width T last lw D Am cm lm last w8) (hm : lw.map Pf.F = lm.map Pf.F) (x : Pf) (hx : x.X w8 (fun k => w.heap.size ≤ k)) (hok : x.F.Ok) (hlow : last + 1 ≤ 1000000) :
    ∃ (kk : Nat) (ys : List Pf) (last' : Nat), last' ≤ last + 1 ∧ (∀ z ∈ ys, z.X w8 (fun k => w.heap.size ≤ k)) ∧
      Calls Try.prog 13 #[.agg #[.int .i64 (width : Int), .slice Am lm.length cm, .int .u64 (last : Int)], .agg x.cs] w8 (RGot w8 Am lm width ys last' kk) ∧
      (∀ W A' c', SP w p q width T last lw D A' c' ys last' W → x.X W (fun k => w.heap.size ≤ k) → Calls Try.prog 14 #[.pointer (some ⟨p, 0, none⟩), .slice (some ⟨W.heap.size, 0, none⟩) 1 1] (W.alloc (.cells x.cs 40)) fun e w' =>
        e = .returned (.int .i64 (kk : Int)) ∧ ∃ T' lw' D', SP w p q width T' last' lw' D' A' c' ys last' w' ∧ lw'.map Pf.F = ys.map Pf.F) := by
  have h64 := h.m64 hm
  have hl := h.len hm
  have key : ∀ {W w' : World} {A' : Option Addr} {c' last' : Nat} {ys : List Pf} {Fs : List Fr}, SP w p q width T last lw D A' c' ys last' W → PutIn W w.heap.size p T width last lw D Fs w' → last + Fs.length = last' → lw.map Pf.F ++ num last Fs = ys.map Pf.F →
      ∃ T' lw' D', SP w p q width T' last' lw' D' A' c' ys last' w' ∧ lw'.map Pf.F = ys.map Pf.F := fun {W w' A' c' last' ys Fs} hS hP e1 e2 => by
    obtain ⟨T', l', D', h1, h2, h3, h4, h5, h6⟩ := hP
    rw [e1] at h1
    exact ⟨T', l', D', hS.wstep h1 h3 h4 h5 h6, h2.trans e2⟩
  have hwd : ∀ {W : World} {A' : Option Addr} {c' last' : Nat} {ys : List Pf}, SP w p q width T last lw D A' c' ys last' W → x.X W (fun k => w.heap.size ≤ k) → x.X W (WD p T) := fun hS hX => hX.mono fun k hk => (hS.win.din k (hS.win.dw k hk)).1
  by_cases hr : lm.length < width
  · refine ⟨1, lm ++ [x.seqd (last + 1)], last + 1, Nat.le_refl _, fun z hz => ?_, refPut_any Am lm.length cm width last lm x w8 rfl (by omega) (by omega) h.win.low h.lies.lies, fun W A' c' hS hX => ?_⟩
    · rcases List.mem_append.1 hz with hz | hz
      · exact h.lx z hz
      · simp only [List.mem_cons, List.not_mem_nil, or_false] at hz
        subst hz
        exact hx
    · refine (put_one_room hS.win x (hwd hS hX) hok hlow (by omega)).mono ?_
      rintro e w' ⟨rfl, hP⟩
      refine ⟨rfl, key hS hP rfl ?_⟩
      rw [List.map_append, hm]
      rfl
  · refine ⟨0, lm, last, Nat.le_succ _, h.lx, refPut_full Am lm.length cm width last lm x w8 rfl h.cg h.cm (by omega), fun W A' c' hS hX => ?_⟩
    refine (put_one_full hS.win x (hwd hS hX) hok hlow (by omega)).mono ?_
    rintro e w' ⟨rfl, hP⟩
    exact ⟨rfl, key hS hP rfl (by rw [← hm]; simp [num])⟩
end

end Go.Proofs.Ytohlgjkblcopoaa
