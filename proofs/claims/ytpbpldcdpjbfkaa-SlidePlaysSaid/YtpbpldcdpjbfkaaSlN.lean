/- awake: the document's example. -/
import Derived.Test.YtpbpldcdpjbfkaaSlM
namespace Go.Proofs.Ytpbpldcdpjbfkaa
open Go.RowKit Go.Sort

theorem FrsOwn.at_ {w : World} {base n c : Nat} {Fs : List Fr} {A : Option Addr} (h : FrsOwn w base Fs (.slice A n c)) (i : Nat) (hi : i < Fs.length) :
    ∃ g, ∃ y : Pf, A = some ⟨g, 0, none⟩ ∧ y.F = Fs[i] ∧ y.Own w base ∧ base ≤ g ∧ g < w.heap.size ∧ w.rangeAt g (i * 16) (encPf y) := by
  obtain ⟨ys, h1, h2, h3⟩ := h
  have hl : ys.length = Fs.length := by rw [← h1, List.length_map]
  have hiy : i < ys.length := by omega
  obtain ⟨g, c', hv, hb, hlt⟩ := h2.form (by omega)
  injection hv with e1 e2 e3
  subst e1 e2
  obtain ⟨b, off, e, hbw, hc⟩ := row_at (Lies.of_ownK h2) hiy
  injection e with e
  injection e with e1 e2
  subst e1 e2
  rw [Nat.zero_add] at hc
  refine ⟨_, ys[i], rfl, ?_, h3 _ (List.getElem_mem hiy), hb, hlt, hc⟩
  simp only [← h1, List.getElem_map]

/-- The three cells that are asked for of a frame. -/
theorem range_seq {w : World} {g o : Nat} {y : Pf} (h : w.rangeAt g o (encPf y)) : w.cell? ⟨g, o + 5, none⟩ = some (.int .u64 (y.F.seq : Int)) := h 5 _ rfl
theorem range_at {w : World} {g o : Nat} {y : Pf} (h : w.rangeAt g o (encPf y)) : w.cell? ⟨g, o + 6, none⟩ = some (.int .u32 (y.F.at_ : Int)) := h 6 _ rfl

/-- Waiting, whatever it is asked. -/
theorem waiting_all {w : World} {base p : Nat} {T : Value} {width last : Nat} {l : List Pf} {D : Nat → Prop} (h : WinAt w base p T width last l D) (fr : Nat) (most : Int) (hm1 : -9223372036854775808 ≤ most) (hm2 : most ≤ 9223372036854775807) :
    Calls Try.prog 21 #[.pointer (some ⟨p, 0, none⟩), .int .u64 (fr : Int), .int .i64 most] w (Waited w (waitF (l.map Pf.F) (firstN last l.length) fr most)) := by
  by_cases hf : fr ≤ last
  · exact waiting_any h fr most hf hm1 hm2
  · exact waiting_past h fr most (by omega)

def zid : Id := ⟨0, 0, by decide, by decide⟩
/-- A frame that has At alone. -/
def atF (n : Nat) : Fr := ⟨0, 0, 0, zid, 0, n, 0, 0, 0, 0, [], [], [], [], []⟩
def atP (n : Nat) : Pf := ⟨atF n, fun _ => (none, 0)⟩
theorem atP_X (w : World) (D : Nat → Prop) (n : Nat) : (atP n).X w D := ⟨LiesX.nil, LiesX.nil, LiesX.nil, LiesX.nil, LiesX.nil⟩
theorem atF_ok {n : Nat} (h : n < 4294967296) : (atF n).Ok := ⟨(by decide : 0 < 256), (by decide : 0 < 256), (by decide : 0 < 256), (by decide : 0 < 18446744073709551616), h, (by decide : 0 < 4294967296), (by decide : 0 < 4294967296), (by decide : 0 < 18446744073709551616), (by decide : 0 < 18446744073709551616), Nat.zero_le _, Nat.zero_le _, Nat.zero_le _, Nat.zero_le _, Nat.zero_le _, by simp [atF], by simp [atF]⟩

/-- A list that was just built. -/
theorem LiesX.of_new {w : World} {D : Nat → Prop} (cs : Array Value) (t : TypeId) (hD : ¬ D w.heap.size) : LiesX (w.alloc (.cells cs t)) D (some ⟨w.heap.size, 0, none⟩) cs.toList := fun hn => by
  obtain ⟨b, off, e, hb, hc⟩ := lies_new w cs t hn
  injection e with e
  injection e with e1 e2
  subst e1 e2
  exact ⟨_, _, rfl, by simp, hD, hc⟩

set_option maxRecDepth 20000 in
set_option maxHeartbeats 1600000 in
theorem awake_any (w : World) : Calls Try.prog 7 #[] w fun e w' => e = .returned (.bool true) ∧ RowKit.Below w.heap.size w w' := by
  have hN := new_any 2 w w.heap.size (Nat.le_refl _) (by decide) (by decide)
  have e2 : widthN 2 = 2 := rfl
  rw [e2] at hN
  clear e2
  go_enter Try.func7, Try.ntmps7
  go_wp2_with fail
  refine hN.mono ?_
  rintro e w1 ⟨rfl, hW, hb1⟩
  have HW := Lib.hid hW
  have HB1 := Lib.hid hb1
  clear hN hW hb1
  go_wp2_with fail
  have hnp : ¬ WD w.heap.size (.slice none 0 0) w1.heap.size := by
    rintro (e | e)
    · have := HW.out.plt; omega
    · simp [Value.ownBlock] at e
  refine (put_any (HW.out.on ((RowKit.Below.refl _ _).alloc (Nat.le_refl _) _)) (some ⟨w1.heap.size, 0, none⟩) 3 3 [atP 7, atP 8, atP 9] rfl (by decide) (by decide) (LiesX.of_new _ _ hnp) (fun x hx => ?_) (fun x hx => ?_) (by decide)).mono ?_
  · simp only [List.mem_cons, List.not_mem_nil, or_false] at hx
    rcases hx with rfl | rfl | rfl <;> exact atP_X _ _ _
  · simp only [List.mem_cons, List.not_mem_nil, or_false] at hx
    rcases hx with rfl | rfl | rfl <;> exact atF_ok (by decide)
  rintro e w3 ⟨rfl, T', l', D', hW3, hl3, ho3, -, -, -⟩
  have hb3 : RowKit.Below w.heap.size w w3 := by
    have hlt := HB1.out.size
    refine RowKit.Below.trans (HB1.out.trans (((RowKit.Below.refl w1.heap.size w1).alloc (Nat.le_refl _) _).mono hlt)) (ho3.below (fun k hk => hk.elim (fun e => by omega) fun e => by simp [Value.ownBlock] at e) (by simp; omega))
  have hl3' : l'.map Pf.F = [seqd (atF 7) 1, seqd (atF 8) 2] := hl3
  have hlen : l'.length = 2 := by have := congrArg List.length hl3'; simpa using this
  have hWt := waiting_all hW3 0 9 (by decide) (by decide)
  have hFs : waitF (l'.map Pf.F) (firstN (0 + ((List.map Pf.F [atP 7, atP 8, atP 9]).take (min (List.map Pf.F [atP 7, atP 8, atP 9]).length (2 - ([] : List Pf).length))).length) l'.length) 0 9 = [seqd (atF 7) 1, seqd (atF 8) 2] := by
    rw [hl3', hlen]
    rfl
  rw [hFs] at hWt
  have HWT : Hid (Calls Try.prog 21 #[.pointer (some ⟨w.heap.size, 0, none⟩), .int .u64 0, .int .i64 9] w3 (Waited w3 [seqd (atF 7) 1, seqd (atF 8) 2])) := hWt
  have HB3 := Lib.hid hb3
  clear hWt hFs hW3 hl3 hl3' hlen ho3 hb3
  go_wp2_with fail
  refine HWT.out.mono ?_
  rintro e w4 ⟨A, n, c, rfl, hn, hO, hb4⟩
  have hn2 : 2 = n := hn.out
  subst hn2
  obtain ⟨g, y1, rfl, hy1, -, -, hg, hr1⟩ := hO.at_ 0 (by decide)
  obtain ⟨g', y2, e, hy2, -, -, -, hr2⟩ := hO.at_ 1 (by decide)
  injection e with e
  injection e with e
  subst e
  have s1 := range_seq hr1
  have a1 := range_at hr1
  have s2 := range_seq hr2
  have a2 := range_at hr2
  rw [hy1] at s1 a1
  rw [hy2] at s2 a2
  have s1' : w4.cell? ⟨g, 5, none⟩ = some (.int .u64 1) := s1
  have a1' : w4.cell? ⟨g, 6, none⟩ = some (.int .u32 7) := a1
  have s2' : w4.cell? ⟨g, 21, none⟩ = some (.int .u64 2) := s2
  have a2' : w4.cell? ⟨g, 22, none⟩ = some (.int .u32 8) := a2
  have HB4 : Hid (RowKit.Below w.heap.size w w4) := HB3.out.trans (hb4.mono HB3.out.size)
  clear s1 a1 s2 a2 hr1 hr2 hy1 hy2 hO hn hb4
  go_wp2
  go_ret
  exact ⟨rfl, HB4.out⟩

end Go.Proofs.Ytpbpldcdpjbfkaa
