/- All that was sent is let in: LinkAll's two links, as plain data. -/
import Derived.Test.YtbkkpimhoeagdaaLkO
namespace Go.Proofs.Ytbkkpimhoeagdaa
open Go.RowKit Go.Sort
set_option maxRecDepth 20000

/-- Two links between whom frames may be lost: what the one that sends was told has come. -/
structure Al (s s' : Ls) (sent N r now : Nat) : Prop where
  sa : SideA s sent
  sb : SideB s' s'.g.u N
  le : s'.g.u ≤ sent
  back : sent ≤ s'.g.u + s.fs.length
  ag : s.again = r
  tk : s.tick ≤ now
  ak : s.asked ≤ now

theorem al_new (r again : Int) : Al (newLs 0 1 r again) (newLs 1 0 r again) 0 0 (againN again) 0 :=
  ⟨sideA_new r again, sideB_new r again, Nat.le_refl _, Nat.le_refl _, rfl, Nat.le_refl _, Nat.le_refl _⟩

section
variable {s s' : Ls} {sent N r now : Nat}

theorem Al.mono (h : Al s s' sent N r now) {M now1 : Nat} (hM : N ≤ M) (hn : now ≤ now1) : Al s s' sent M r now1 :=
  ⟨h.sa, ⟨h.sb.me, h.sb.peer, h.sb.fs, h.sb.last, h.sb.sent, h.sb.u, Nat.le_trans h.sb.sum hM⟩, h.le, h.back, h.ag, Nat.le_trans h.tk hn, Nat.le_trans h.ak hn⟩

/-- A chunk is sent. -/
theorem Al.send (h : Al s s' sent N r now) (hs : sent < 4294967295) (hm8 : s.me < 256) (hp8 : s.peer < 256) : Al (s.send (atF sent)) s' (sent + s.sendN) N r now := by
  have h1 := h.sa.send hs hm8 hp8
  have hle := h.le
  have hb := h.back
  by_cases hr : s.fs.length < s.width
  · have e1 : s.sendN = 1 := by unfold Ls.sendN; rw [if_pos hr]
    have e2 : s.send (atF sent) = { s with fs := s.fs ++ num s.last [headed s 1 (atF sent)], last := s.last + 1 } := by unfold Ls.send; rw [if_pos hr]
    refine ⟨h1, h.sb, by omega, ?_, ?_, ?_, ?_⟩
    · rw [e1, e2]
      show sent + 1 ≤ s'.g.u + (s.fs ++ num s.last [headed s 1 (atF sent)]).length
      rw [List.length_append]
      show sent + 1 ≤ s'.g.u + (s.fs.length + 1)
      omega
    · rw [e2]; exact h.ag
    · rw [e2]; exact h.tk
    · rw [e2]; exact h.ak
  · have e1 : s.sendN = 0 := by unfold Ls.sendN; rw [if_neg hr]
    have e2 : s.send (atF sent) = s := by unfold Ls.send; rw [if_neg hr]
    rw [e1, e2]
    exact h

theorem tickN_nat {n : Nat} (h : n ≤ 1099511627776) : tickN (n : Int) = n := by unfold tickN; omega

/-- Both are asked what goes out. -/
theorem Al.outs (h : Al s s' sent N r now) {t : Nat} (ht : t = now + 1) (hb : t ≤ 1099511627776) : Al (s.outS (t : Int)) (s'.outS (t : Int)) sent N r t := by
  have e := tickN_nat hb
  refine ⟨h.sa.outS _, ⟨h.sb.me, h.sb.peer, h.sb.fs, h.sb.last, h.sb.last, rfl, h.sb.sum⟩, h.le, h.back, h.ag, ?_, ?_⟩
  · show (if _ then s.tick else tickN (t : Int)) ≤ t
    have := h.tk
    split <;> omega
  · show tickN (t : Int) ≤ t
    omega
theorem outS_sent (s : Ls) (t : Int) : (s.outS t).sent = (s.outS t).last := rfl
theorem outS_fs (s : Ls) (t : Int) : (s.outS t).fs = s.fs := rfl
theorem outS_u (s : Ls) (t : Int) : (s.outS t).g.u = s.g.u := rfl
theorem outS_b (s : Ls) (t : Int) : (s.outS t).g.b = false := rfl
theorem outS_asked (s : Ls) {t : Nat} (h : t ≤ 1099511627776) : (s.outS (t : Int)).asked = t := tickN_nat h

/-- A chunk comes. -/
theorem Al.comeB (h : Al s s' sent N r now) {F : Fr} (hF : Chk sent F) : Al s (s'.come F) sent (N + 1) r now ∧ (s'.come F).g.u = s'.g.u + (if s'.comes F then 1 else 0) ∧ (s'.comes F = true → F.at_ = s'.g.u) := by
  obtain ⟨h1, h2⟩ := h.sb.come hF
  have hu := h2.u
  have hb := h.back
  have hle := h.le
  refine ⟨⟨h.sa, ⟨h2.me, h2.peer, h2.fs, h2.last, h2.sent, rfl, h2.sum⟩, ?_, by rw [hu]; omega, h.ag, h.tk, h.ak⟩, hu, fun e => (h1 e).1⟩
  rw [hu]
  by_cases hc : s'.comes F = true
  · rw [if_pos hc]; have := (h1 hc).2; omega
  · rw [if_neg hc]; omega

/-- Word comes. -/
theorem come_wrd {n : Nat} {G : Fr} (h : SideA s sent) (hG : Wrd n G) : s.come G = s.acked G.seq := by
  unfold Ls.come
  rw [if_pos ⟨by rw [hG.src, h.peer], by rw [hG.dst, h.me]⟩, if_pos hG.kind]
theorem Al.comeA (h : Al s s' sent N r now) (hf2 : s.fs.length ≤ s.last) {G : Fr} (hG : Wrd s'.g.u G) : Al (s.come G) s' sent N r now ∧ (s.come G).fs.length ≤ (s.come G).last := by
  have h1 := h.sa.come hG
  have e := come_wrd h.sa hG
  have hl := h.sa.last
  have hle := hG.le
  have hb := h.back
  rw [e] at h1 ⊢
  refine ⟨⟨h1, h.sb, h.le, ?_, h.ag, ?_, h.ak⟩, ?_⟩
  · show sent ≤ s'.g.u + (s.fs.drop _).length
    rw [List.length_drop]
    unfold ackN firstN
    split <;> omega
  · show (if _ then s.asked else s.tick) ≤ now
    have := h.tk
    have := h.ak
    split <;> omega
  · show (s.fs.drop _).length ≤ s.last
    rw [List.length_drop]
    omega
end

/-! ### All that goes out comes -/

/-- The first k of some frames come. -/
def comeN (s : Ls) (Fs : List Fr) (k : Nat) : Ls := (Fs.take k).foldl Ls.come s
theorem comeN_zero (s : Ls) (Fs : List Fr) : comeN s Fs 0 = s := rfl
theorem comeN_succ (s : Ls) (Fs : List Fr) {k : Nat} (hk : k < Fs.length) : comeN s Fs (k + 1) = (comeN s Fs k).come Fs[k] := by
  unfold comeN
  rw [List.take_succ_eq_append_getElem hk, List.foldl_append]
  rfl

/-- How it stands k ticks behind the last pick, at tick z. -/
structure Ph (s s' : Ls) (sent r z k : Nat) : Prop where
  out : s.sent = s.last
  way : s.fs = [] ∨ (k ≤ r + 1 ∧ s'.g.u = sent ∧ s'.g.b = true) ∨ (k ≤ r ∧ (s'.g.b = true → k = 0) ∧ s.tick ≤ z + 1)

section
variable {s s' : Ls} {sent N r now : Nat}

/-- Nothing is left on the side that sends: all came. -/
theorem Al.all (h : Al s s' sent N r now) (he : s.fs = []) : s'.g.u = sent := by
  have hb := h.back
  have hle := h.le
  rw [he] at hb
  simp only [List.length_nil] at hb
  omega

/-- What goes out of the side that lets in. -/
theorem outF_back (h : SideB s' s'.g.u N) (t : Int) : s'.outF t = if s'.g.b then [ackF (s'.ask t)] else [] := by
  have h1 : ((s'.ask t).told).chunkF = [] := by
    unfold Ls.chunkF
    show (if _ then s'.fs.drop _ else s'.fs) = []
    rw [h.fs]
    simp
  unfold Ls.outF
  rw [h1, List.append_nil]
  rfl
/-- .. of the side that sends: all that wait, or none. -/
theorem outF_forth (h : SideA s sent) (hs : s.sent = s.last) (hf2 : s.fs.length ≤ s.last) {t : Nat} (ht : t ≤ 1099511627776) :
    s.outF (t : Int) = [] ∧ (s.fs = [] ∨ (t : Int) - (s.tick : Int) < (s.again : Int) ∧ (s.outS (t : Int)).tick = s.tick) ∨ s.outF (t : Int) = s.fs ∧ (s.outS (t : Int)).tick = t := by
  have e := tickN_nat ht
  have e1 : s.outF (t : Int) = ((s.ask (t : Int)).told).chunkF := by
    unfold Ls.outF Ls.wordF
    rw [show (s.ask (t : Int)).g.b = false by show s.g.b = false; rw [h.g]]
    rfl
  have e2 : ((s.ask (t : Int)).told).late = (decide (firstN s.last s.fs.length ≤ s.sent) && decide ((t : Int) - (s.tick : Int) < (s.again : Int))) := by
    unfold Ls.late
    show (decide (firstN s.last s.fs.length ≤ s.sent) && decide ((tickN (t : Int) : Int) - (s.tick : Int) < (s.again : Int))) = _
    rw [e]
  have e3 : (s.outS (t : Int)).tick = if ((s.ask (t : Int)).told).late then s.tick else tickN (t : Int) := rfl
  have e4 : ((s.ask (t : Int)).told).chunkF = if ((s.ask (t : Int)).told).late then s.fs.drop (s.sent + 1 - firstN s.last s.fs.length) else s.fs := rfl
  rw [e1, e3, e4, e2]
  by_cases hd : (t : Int) - (s.tick : Int) < (s.again : Int)
  · by_cases hf : firstN s.last s.fs.length ≤ s.sent
    · left
      have ed : s.sent + 1 - firstN s.last s.fs.length = s.fs.length := by unfold firstN; omega
      rw [decide_eq_true hf, decide_eq_true hd, ed]
      exact ⟨by simp, .inr ⟨hd, rfl⟩⟩
    · left
      have h0 : s.fs = [] := by
        unfold firstN at hf
        apply List.eq_nil_of_length_eq_zero
        omega
      rw [decide_eq_false hf]
      exact ⟨by rw [h0]; rfl, .inl h0⟩
  · right
    rw [decide_eq_false hd, Bool.and_false, e]
    exact ⟨rfl, rfl⟩

/-- The frames that wait, by number. -/
def Seqs (s : Ls) : Prop := ∀ j (hj : j < s.fs.length), s.fs[j].seq = firstN s.last s.fs.length + j

/-- All that wait come: all that was sent is let in. -/
theorem come_all {Fs : List Fr} (hF : ∀ F ∈ Fs, Chk sent F) {b : Nat} (hq : ∀ j (hj : j < Fs.length), Fs[j].seq = b + 1 + j) (h : Al s s' sent N r now) (hb : b ≤ s'.g.u) (k : Nat) (hk : k ≤ Fs.length) :
    Al s (comeN s' Fs k) sent (N + k) r now ∧ b + k ≤ (comeN s' Fs k).g.u ∧ s'.g.u ≤ (comeN s' Fs k).g.u ∧ ((comeN s' Fs k).g.b = if k = 0 then s'.g.b else true) := by
  induction k with
  | zero => exact ⟨h, hb, Nat.le_refl _, rfl⟩
  | succ k ih =>
    have hk' : k < Fs.length := hk
    obtain ⟨i1, i2, i3, i4⟩ := ih (Nat.le_of_lt hk')
    have hc := hF _ (List.getElem_mem hk')
    have hs := hq k hk'
    rw [comeN_succ s' Fs hk']
    generalize comeN s' Fs k = x at i1 i2 i3 i4
    obtain ⟨j1, j2, -⟩ := i1.comeB hc
    have e : x.come Fs[k] = { x with g := x.g.step Fs[k].seq } := by
      unfold Ls.come
      rw [if_pos ⟨by rw [hc.src, i1.sb.peer], by rw [hc.dst, i1.sb.me]⟩, if_neg (by rw [hc.kind]; decide), if_pos hc.kind]
    have ec : x.comes Fs[k] = decide (Fs[k].seq = x.g.u + 1) := by
      unfold Ls.comes
      rw [i1.sb.peer, i1.sb.me, hc.src, hc.dst, hc.kind]
      simp
    refine ⟨j1, ?_, by rw [j2]; omega, ?_⟩
    · rw [j2, ec]
      by_cases hn : Fs[k].seq = x.g.u + 1
      · rw [decide_eq_true hn, if_pos rfl]; omega
      · rw [decide_eq_false hn]
        show b + (k + 1) ≤ x.g.u + 0
        omega
    · rw [e, if_neg (Nat.succ_ne_zero k)]
      rfl

/-- A front of what goes out comes. -/
theorem come_some {Fs : List Fr} (hF : ∀ F ∈ Fs, Chk sent F) (h : Al s s' sent N r now) (k : Nat) (hk : k ≤ Fs.length) :
    Al s (comeN s' Fs k) sent (N + k) r now ∧ s'.g.u ≤ (comeN s' Fs k).g.u := by
  induction k with
  | zero => exact ⟨h, Nat.le_refl _⟩
  | succ k ih =>
    have hk' : k < Fs.length := hk
    obtain ⟨i1, i3⟩ := ih (Nat.le_of_lt hk')
    have hc := hF _ (List.getElem_mem hk')
    rw [comeN_succ s' Fs hk']
    generalize comeN s' Fs k = x at i1 i3
    obtain ⟨j1, j2, -⟩ := i1.comeB hc
    exact ⟨j1, by rw [j2]; omega⟩
/-- .. of the word. -/
theorem word_some {Gs : List Fr} (hG : ∀ G ∈ Gs, Wrd s'.g.u G) (h : Al s s' sent N r now) (hf2 : s.fs.length ≤ s.last) (k : Nat) (hk : k ≤ Gs.length) :
    Al (comeN s Gs k) s' sent N r now ∧ (comeN s Gs k).fs.length ≤ (comeN s Gs k).last ∧ (comeN s Gs k).sent = s.sent ∧ (comeN s Gs k).last = s.last := by
  induction k with
  | zero => exact ⟨h, hf2, rfl, rfl⟩
  | succ k ih =>
    have hk' : k < Gs.length := hk
    obtain ⟨i1, i2, i3, i4⟩ := ih (Nat.le_of_lt hk')
    have hc := hG _ (List.getElem_mem hk')
    rw [comeN_succ s Gs hk']
    generalize comeN s Gs k = x at i1 i2 i3 i4
    obtain ⟨j1, j2⟩ := i1.comeA i2 hc
    have e := come_wrd i1.sa hc
    exact ⟨j1, j2, by rw [e]; exact i3, by rw [e]; exact i4⟩

/-- The word that goes out is word of what came. -/
theorem Al.words (h : Al s s' sent N r now) (hm8 : s'.me < 256) (hp8 : s'.peer < 256) (hN : N < 1000000) (t : Int) : ∀ G ∈ s'.outF t, Wrd (s'.outS t).g.u G := by
  rw [outS_u]
  exact h.sb.outF hm8 hp8 hN t
/-- One more tick at which all that goes out comes. -/
theorem Ph.tick {z k : Nat} (hp : Ph s s' sent r z k) (h : Al s s' sent N r (z + k)) (hf2 : s.fs.length ≤ s.last) (hq : Seqs s) {t : Nat} (ht : t = z + k + 1) (hb : t ≤ 1099511627776)
    {Fs Gs : List Fr} (eF : Fs = s.outF (t : Int)) (eG : Gs = s'.outF (t : Int)) {m q : Nat} (em : m = Fs.length) (eq : q = Gs.length)
    (hGo : ∀ G ∈ Gs, Wrd (s'.outS (t : Int)).g.u G) :
    Ph (comeN (s.outS (t : Int)) Gs q) (comeN (s'.outS (t : Int)) Fs m) sent r z (k + 1) := by
  have ho := h.outs ht hb
  have hl := h.sa.last
  have hle := h.le
  have hback := h.back
  have hFc : ∀ F ∈ Fs, Chk sent F := by rw [eF]; exact h.sa.outF _
  have eG2 : Gs = if s'.g.b then [ackF (s'.ask (t : Int))] else [] := by rw [eG]; exact outF_back h.sb _
  have hG : ∀ G ∈ Gs, Wrd s'.g.u G := fun G h1 => by
    have h2 := hGo G h1
    rw [outS_u] at h2
    exact h2
  obtain ⟨w1, w2, w3, w4⟩ := word_some hGo ho hf2 q (by omega)
  refine ⟨by rw [w3, w4]; rfl, ?_⟩
  -- the chunks
  obtain ⟨c1, c2⟩ := come_some hFc ho m (by omega)
  have hcu : (comeN (s'.outS (t : Int)) Fs m).g.u ≤ sent := c1.le
  have c2' : s'.g.u ≤ (comeN (s'.outS (t : Int)) Fs m).g.u := c2
  -- what is left on the side that sends
  have hdrop : ∀ x : Ls, SideA x sent → x.fs.length ≤ x.last → ∀ G, Wrd s'.g.u G → G.seq = sent → (x.come G).fs = [] := by
    intro x hx hx2 G hGG hGs
    have hxl := hx.last
    rw [come_wrd hx hGG]
    show x.fs.drop (ackN x.last x.fs.length G.seq) = []
    rw [List.drop_eq_nil_iff]
    unfold ackN firstN
    rw [hGs, if_pos (by omega)]
    omega
  have hnil : ∀ x : Ls, SideA x sent → x.fs = [] → ∀ G, Wrd s'.g.u G → (x.come G).fs = [] := by
    intro x hx hx2 G hGG
    rw [come_wrd hx hGG]
    show x.fs.drop _ = []
    rw [hx2]
    simp
  have hq1 : s'.g.b = false → comeN (s.outS (t : Int)) Gs q = s.outS (t : Int) := by
    intro hb0
    rw [hb0] at eG2
    have e : Gs = [] := eG2
    subst e
    unfold comeN
    simp
  have hq2 : s'.g.b = true → comeN (s.outS (t : Int)) Gs q = (s.outS (t : Int)).come (ackF (s'.ask (t : Int))) ∧ Wrd s'.g.u (ackF (s'.ask (t : Int))) := by
    intro hb1
    rw [hb1] at eG2
    have e : Gs = [ackF (s'.ask (t : Int))] := eG2
    subst e
    subst eq
    exact ⟨rfl, hG _ (by simp)⟩
  rcases hp.way with he | ⟨k1, k2, k3⟩ | ⟨k1, k2, k3⟩
  · left
    cases hb : s'.g.b
    · rw [hq1 hb]; exact he
    · obtain ⟨e1, e2⟩ := hq2 hb
      rw [e1]
      exact hnil _ ho.sa he _ e2
  · left
    obtain ⟨e1, e2⟩ := hq2 k3
    rw [e1]
    exact hdrop _ ho.sa hf2 _ e2 k2
  · rcases outF_forth h.sa hp.out hf2 hb with ⟨f1, f2⟩ | ⟨f1, f2⟩
    · rcases f2 with f2 | ⟨f2, f3⟩
      · left
        cases hb : s'.g.b
        · rw [hq1 hb]; exact f2
        · obtain ⟨e1, e2⟩ := hq2 hb
          rw [e1]
          exact hnil _ ho.sa f2 _ e2
      · right; right
        have eFn : Fs = [] := by rw [eF]; exact f1
        have em0 : m = 0 := by rw [em, eFn]; rfl
        have ecb : comeN (s'.outS (t : Int)) Fs m = s'.outS (t : Int) := by rw [em0]; rfl
        have hag := h.ag
        refine ⟨by omega, by rw [ecb, outS_b]; exact fun e => Bool.noConfusion e, ?_⟩
        cases hb : s'.g.b
        · rw [hq1 hb, f3]
          exact k3
        · obtain ⟨e1, e2⟩ := hq2 hb
          have hk0 := k2 hb
          rw [e1, come_wrd ho.sa e2]
          show (if _ then (s.outS (t : Int)).asked else (s.outS (t : Int)).tick) ≤ z + 1
          rw [outS_asked s (by omega), f3]
          split <;> omega
    · by_cases he : s.fs = []
      · left
        cases hb : s'.g.b
        · rw [hq1 hb]; exact he
        · obtain ⟨e1, e2⟩ := hq2 hb
          rw [e1]
          exact hnil _ ho.sa he _ e2
      · right; left
        have eFn : Fs = s.fs := by rw [eF]; exact f1
        have hpos : 0 < s.fs.length := List.length_pos_iff.2 he
        have hlen : Fs.length = s.fs.length := by rw [eFn]
        obtain ⟨d1, d2, d3, d4⟩ := come_all (b := sent - s.fs.length) hFc (by
          intro j hj
          subst eFn
          rw [hq j hj]
          unfold firstN
          omega) ho (by show sent - s.fs.length ≤ s'.g.u; omega) m (by omega)
        refine ⟨by omega, by omega, ?_⟩
        rw [d4, if_neg (by omega)]

/-- Behind enough ticks nothing waits. -/
theorem Ph.done {z k : Nat} (hp : Ph s s' sent r z k) (hk : r + 2 ≤ k) : s.fs = [] := by
  rcases hp.way with he | ⟨k1, -⟩ | ⟨k1, -⟩
  · exact he
  · omega
  · omega
end

end Go.Proofs.Ytbkkpimhoeagdaa
