/- Stage 16: a queue as plain data: what is put in; put, Put, whatever is there. -/
import Derived.Test.YtmnjedpnhilndaaReG
set_option maxRecDepth 20000
namespace Go.Proofs.Ytmnjedpnhilndaa
open Go.RowKit Go.Sort Go.Maps

/-- A queue as plain data: its frames, how many were lost. -/
structure Qp where
  l : List Fr
  lost : Nat
def hasF (l : List Fr) (p : Pl) : Bool := l.any fun F => decide (plOf F = p)
theorem hasF_map (l : List Pf) (p : Pl) : hasF (l.map Pf.F) p = hasP l p := by
  unfold hasF hasP Pf.pl
  rw [List.any_map]
  rfl
def Qp.put (room : Nat) (m : Qp) (F : Fr) : Qp := if hasF m.l (plOf F) = true then m else if room ≤ m.l.length then ⟨m.l, m.lost + 1⟩ else ⟨m.l ++ [F], m.lost⟩
def Qp.puts (room : Nat) (m : Qp) (Fs : List Fr) : Qp := Fs.foldl (Qp.put room) m
theorem Qp.puts_snoc (room : Nat) (m : Qp) (Fs : List Fr) (F : Fr) : m.puts room (Fs ++ [F]) = (m.puts room Fs).put room F := by simp [Qp.puts]
theorem Qp.put_len {room : Nat} {m : Qp} (h : m.l.length ≤ room) (F : Fr) : (m.put room F).l.length ≤ room ∧ m.l.length ≤ (m.put room F).l.length ∧ (m.put room F).lost ≤ m.lost + 1 := by
  unfold Qp.put
  split
  · omega
  · split
    · simp; omega
    · simp; omega
theorem Qp.puts_len {room : Nat} {m : Qp} (h : m.l.length ≤ room) (Fs : List Fr) : (m.puts room Fs).l.length ≤ room ∧ m.l.length ≤ (m.puts room Fs).l.length ∧ (m.puts room Fs).lost ≤ m.lost + Fs.length := by
  induction Fs generalizing m with
  | nil => exact ⟨h, Nat.le_refl _, Nat.le_refl _⟩
  | cons F r ih =>
    have h1 := Qp.put_len h F
    have h2 := ih (m := m.put room F) h1.1
    show ((m.put room F).puts room r).l.length ≤ room ∧ _ ≤ ((m.put room F).puts room r).l.length ∧ ((m.put room F).puts room r).lost ≤ _
    rw [List.length_cons]
    omega

/-- What a call leaves: a queue that is m; what stands elsewhere stands. -/
def Went (w : World) (base g mb : Nat) (T : Value) (room : Nat) (D : Nat → Prop) (m : Qp) (w' : World) : Prop :=
  ∃ T' l D', QueS w' base g mb T' room m.lost (l.map Pf.pl) l D' ∧ l.map Pf.F = m.l ∧ (∀ k, D k → D' k) ∧ (∀ k, D' k → D k ∨ w.heap.size ≤ k) ∧ (∀ k, T'.ownBlock = some k → T.ownBlock = some k ∨ w.heap.size ≤ k) ∧ OnlyE w w' (Own g mb T)

section
variable {w w' w'' : World} {base g mb : Nat} {T : Value} {room lost : Nat} {l : List Pf} {D : Nat → Prop} {m m' : Qp}
theorem Went.of (h : QueS w base g mb T room lost (l.map Pf.pl) l D) (hb : RowKit.Below w.heap.size w w') : Went w base g mb T room D ⟨l.map Pf.F, lost⟩ w' :=
  ⟨T, l, D, h.on hb, rfl, fun _ => id, fun _ => .inl, fun _ => .inl, OnlyE.of_below hb⟩
theorem Went.on (h : Went w base g mb T room D m w') (hb : RowKit.Below w'.heap.size w' w'') : Went w base g mb T room D m w'' := by
  obtain ⟨T', l, D', h1, h2, h3, h4, h5, h6⟩ := h
  exact ⟨T', l, D', h1.on hb, h2, h3, h4, h5, h6.trans (OnlyE.of_below hb)⟩
/-- .. ahead of which nothing but new blocks came. -/
theorem Went.pre {w0 : World} (h : Went w base g mb T room D m w') (hb : RowKit.Below w0.heap.size w0 w) : Went w0 base g mb T room D m w' := by
  obtain ⟨T', l, D', h1, h2, h3, h4, h5, h6⟩ := h
  exact ⟨T', l, D', h1, h2, h3, fun k hk => (h4 k hk).imp id fun h => Nat.le_trans hb.size h, fun k hk => (h5 k hk).imp id fun h => Nat.le_trans hb.size h, (OnlyE.of_below hb).trans h6⟩
theorem Went.only (h : Went w base g mb T room D m w') : OnlyE w w' (Own g mb T) := by
  obtain ⟨T', l, D', h1, h2, h3, h4, h5, h6⟩ := h
  exact h6
theorem OnlyE.pre {a b c : World} {X Y : Nat → Prop} (h : OnlyE a b X) (k : OnlyE b c Y) (hY : ∀ j, Y j → X j ∨ a.heap.size ≤ j) : OnlyE a c X :=
  ⟨Nat.le_trans h.1 k.1, fun i hi hn => (k.2 i (Nat.lt_of_lt_of_le hi h.1) fun hx => (hY i hx).elim hn fun h1 => absurd hi (by omega)).trans (h.2 i hi hn), h.3.trans (k.3.mono (Nat.zero_le _))⟩
theorem Went.step {T' : Value} {D' : Nat → Prop} (h3 : ∀ k, D k → D' k) (h4 : ∀ k, D' k → D k ∨ w.heap.size ≤ k) (h5 : ∀ k, T'.ownBlock = some k → T.ownBlock = some k ∨ w.heap.size ≤ k) (h6 : OnlyE w w' (Own g mb T)) (k : Went w' base g mb T' room D' m' w'') : Went w base g mb T room D m' w'' := by
  obtain ⟨T2, l2, D2, k1, k2, k3, k4, k5, k6⟩ := k
  have hs := h6.size
  refine ⟨T2, l2, D2, k1, k2, fun k hk => k3 k (h3 k hk), fun k hk => (k4 k hk).elim (h4 k) fun h => .inr (by omega), fun k hk => (k5 k hk).elim (h5 k) fun h => .inr (by omega), h6.pre k6 fun j hj => ?_⟩
  rcases hj with rfl | rfl | hj
  · exact .inl (.inl rfl)
  · exact .inl (.inr (.inl rfl))
  · exact (h5 j hj).imp (fun h => .inr (.inr h)) id

theorem put_any (h : QueS w base g mb T room lost (l.map Pf.pl) l D) (F : Fr) (cs : Array Value) (hF : FrL w F cs) (hok : F.Ok) (hroom : room ≤ 4096) (hlen : l.length ≤ 4096) (hlost : lost ≤ 1000000) :
    Calls Try.prog 21 #[qptr g, .agg cs] w fun e w' => e = .returned (.tuple #[]) ∧ Went w base g mb T room D (Qp.put room ⟨l.map Pf.F, lost⟩ F) w' := by
  unfold Qp.put
  simp only [hasF_map]
  cases hq : hasP l (plOf F) with
  | true =>
    rw [if_pos rfl]
    refine (put_there h F cs hF hok hq).mono ?_
    rintro e w' ⟨rfl, hb⟩
    exact ⟨rfl, Went.of h hb⟩
  | false =>
    rw [if_neg (by simp), List.length_map]
    by_cases hr : room ≤ l.length
    · rw [if_pos hr]
      refine (put_full h F cs hF hok hq (by rw [List.length_map]; exact hr) hlost).mono ?_
      rintro e w' ⟨rfl, h1, h2⟩
      exact ⟨rfl, T, l, D, h1, rfl, fun _ => id, fun _ => .inl, fun _ => .inl, h2⟩
    · rw [if_neg hr]
      refine (put_in h F cs hF hok hq (by rw [List.length_map]; omega) hroom hlen).mono ?_
      rintro e w' ⟨rfl, y, T', h1, h2, h3, h4⟩
      have ep : plOf F = y.pl := by unfold Pf.pl; rw [h2]
      rw [ep] at h1
      refine ⟨rfl, T', l ++ [y], fun k => D k ∨ T'.ownBlock = some k, by rw [List.map_append]; exact h1, by rw [List.map_append, ← h2]; rfl, fun _ => .inl, fun k hk => hk.elim .inl fun hk => (h3 k hk).imp (fun e => h.dt e) id, h3, h4⟩

/-- The frames that are handed in to Put. -/
structure RowX (w : World) (D : Nat → Prop) (A : Option Addr) (ys : List Pf) : Prop where
  row : LiesX w D A (flat encPf ys)
  frs : ∀ y ∈ ys, y.X w D
  oks : ∀ y ∈ ys, y.F.Ok
theorem RowX.mono {A : Option Addr} {D' : Nat → Prop} {ys : List Pf} (h : RowX w D A ys) (hD : ∀ b, D' b → D b) : RowX w D' A ys := ⟨h.row.widen fun b hb => .inr (hD b hb), fun y hy => (h.frs y hy).mono hD, h.oks⟩
theorem RowX.kept {A : Option Addr} {ys : List Pf} (h : RowX w D A ys) (ho : OnlyE w w' D) : RowX w' D A ys := ⟨h.row.kept ho, fun y hy => (h.frs y hy).kept ho, h.oks⟩

set_option maxHeartbeats 800000 in
theorem puts_any (h : QueS w base g mb T room lost (l.map Pf.pl) l D) (A : Option Addr) (n c : Nat) (ys : List Pf) (hn : ys.length = n) (hn2 : n ≤ 1000) (hX : RowX w (Own g mb T) A ys) (hroom : room ≤ 4096) (hlen : l.length ≤ room) (hlost : lost ≤ 900000) :
    Calls Try.prog 12 #[qptr g, .slice A n c] w fun e w' => e = .returned (.int .i64 (((Qp.puts room ⟨l.map Pf.F, lost⟩ (ys.map Pf.F)).l.length : Int) - (l.length : Int))) ∧ Went w base g mb T room D (Qp.puts room ⟨l.map Pf.F, lost⟩ (ys.map Pf.F)) w' := by
  have hd0 : ((some ⟨g, 0, none⟩ : Option Addr) == none) = false := rfl
  have HX := Lib.hid hX
  have HN := Lib.hid hn
  have c1 := h.c1
  obtain ⟨A0, c0, hT, -, -⟩ := h.slice
  rw [hT, List.length_map] at c1
  have HM0 : Hid ((⟨l.map Pf.F, lost⟩ : Qp).l.length ≤ room) := by show _ ≤ _; simp; exact hlen
  have hl1 : l.length ≤ 4096 := by omega
  have HL0 : Hid ((⟨l.map Pf.F, lost⟩ : Qp).lost ≤ 900000) := hlost
  have HW0 : Hid (Went w base g mb T room D ⟨l.map Pf.F, lost⟩ w) := Went.of h (RowKit.Below.refl _ _)
  generalize hm : (⟨l.map Pf.F, lost⟩ : Qp) = m at HM0 HL0 HW0 ⊢
  generalize l.length = n0 at c1 hl1 ⊢
  clear h hX hn hm hT hlen
  unfold qptr
  go_enter Try.func12, Try.ntmps12
  go_wp2
  clear c1
  go_loopw [7, 17] (fun _ i wr => ∃ k : Nat, k ≤ n ∧ i = .int .i64 k ∧ Hid (Went w base g mb T room D (m.puts room ((ys.map Pf.F).take k)) wr)) (fun _ i _ => n - (intOf i).toNat)
  case atStart => exact ⟨0, Nat.zero_le _, rfl, HW0⟩
  case round =>
    obtain ⟨k, hk, rfl, hW⟩ := hrel
    by_cases hlt : k < n
    · have hky : k < ys.length := by rw [HN.out]; exact hlt
      have HXr := Lib.hid (HX.out.kept hW.out.only)
      obtain ⟨b, off, rfl, hbw, hc⟩ := row_at HXr.out.row.lies hky
      have hyX := HXr.out.frs _ (List.getElem_mem hky)
      have hyo := HXr.out.oks _ (List.getElem_mem hky)
      have HE : Hid ((ys.map Pf.F).take (k + 1) = (ys.map Pf.F).take k ++ [ys[k].F]) := by
        show _ = _
        rw [List.take_succ_eq_append_getElem (by rw [List.length_map]; exact hky), List.getElem_map]
      generalize ys[k] = y at hc hyX hyo HE
      have HLN : Hid ((m.puts room ((ys.map Pf.F).take k)).l.length ≤ room ∧ (m.puts room ((ys.map Pf.F).take k)).lost ≤ 1000000) := by
        have h1 := Qp.puts_len HM0.out ((ys.map Pf.F).take k)
        have h2 := HL0.out
        rw [List.length_take, List.length_map, HN.out] at h1
        exact ⟨h1.1, by omega⟩
      have HC : Hid (∀ W, W = wr.alloc (.cells y.cs 40) → Calls Try.prog 21 #[.pointer (some ⟨g, 0, none⟩), .agg y.cs] W fun e w' => e = .returned (.tuple #[]) ∧ Hid (Went w base g mb T room D (m.puts room ((ys.map Pf.F).take (k + 1))) w')) := by
        rintro W rfl
        have hb : RowKit.Below wr.heap.size wr (wr.alloc (.cells y.cs 40)) := alloc_below _ _
        have hWW := hW.out.on hb
        obtain ⟨T', l', D', h1, h2, h3, h4, h5, h6⟩ := hWW
        have hl' : l'.length = (m.puts room ((ys.map Pf.F).take k)).l.length := by rw [← h2, List.length_map]
        refine (put_any h1 y.F y.cs (hyX.frl.on hb) hyo hroom (by rw [hl']; exact Nat.le_trans HLN.out.1 hroom) HLN.out.2).mono ?_
        rintro e w' ⟨rfl, hw'⟩
        refine ⟨rfl, ?_⟩
        show Went _ _ _ _ _ _ _ _ _
        rw [HE.out, Qp.puts_snoc]
        have h7 : (⟨l'.map Pf.F, (m.puts room ((ys.map Pf.F).take k)).lost⟩ : Qp) = m.puts room ((ys.map Pf.F).take k) := by rw [h2]
        rw [h7] at hw'
        exact Went.step h3 h4 h5 h6 hw'
      have HR5 : Hid ((wr.alloc (.cells y.cs 40)).heap[wr.heap.size]? = some (.cells y.cs 40 (0, 0))) := heap_alloc_new _ _
      clear hyX hyo HE HLN HXr hW hky
      go_wp2_with (first | (refine load_elem (.tmp 19) rfl hc ?_) | (refine store_frame_new (.tmp 7) (.tmp 20) rfl rfl rfl rfl (Pf.size y) (Pf.one y) ?_) | (refine load_frame (.tmp 7) rfl HR5.out (Pf.size y) ?_) | fail)
      refine (HC.out _ rfl).mono ?_
      rintro e w6 ⟨rfl, hw6⟩
      go_wp2
      go_roundw
      case rel => exact ⟨k + 1, by omega, by go_num, hw6⟩
      case measure => simp [intOf]; omega
    · obtain rfl : k = n := by omega
      have hE : (ys.map Pf.F).take k = ys.map Pf.F := List.take_of_length_le (by rw [List.length_map, HN.out]; exact Nat.le_refl _)
      rw [hE] at hW
      have hW' := hW.out
      obtain ⟨T', l', D', h1, h2, h3, h4, h5, h6⟩ := hW'
      obtain ⟨A1, c1, rfl, -, -⟩ := h1.slice
      have k1 := h1.c1
      rw [List.length_map, show l'.length = (m.puts room (ys.map Pf.F)).l.length by rw [← h2, List.length_map]] at k1
      have HLN : Hid ((m.puts room (ys.map Pf.F)).l.length ≤ 4096) := by
        have := (Qp.puts_len HM0.out (ys.map Pf.F)).1
        show _ ≤ _
        omega
      have hln := HLN.out
      generalize hm1 : m.puts room (ys.map Pf.F) = m' at hW k1 hln
      generalize hn1 : m'.l.length = n1 at k1 hln
      have HM1 := Lib.hid hm1
      have HN1 := Lib.hid hn1
      clear h1 h2 h3 h4 h5 h6 hE HLN hm1 hn1
      go_wp2
      go_ret
      rw [HM1.out, HN1.out]
      exact ⟨rfl, hW.out⟩
end

end Go.Proofs.Ytmnjedpnhilndaa
