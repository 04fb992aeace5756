/- The walk of Next (batch). -/
import Derived.Test.YtfkpffkickicmaaBtP
namespace Go.Proofs.Ytfkpffkickicmaa
open Go.RowKit Go.Sort

/-- Behind k passes. -/
def AtPass (base held : List Nat) (m R : Nat) (A : Option Addr) (c B0 : Nat) (w1 : World) (k lf : Nat) (wr : World) : Prop :=
  (passes base held m (startN base R) k).2 = lf ∧ wr.ownsRow B0 43 3 (.slice A m c) m (flat encRn (rowOf base (passes base held m (startN base R) k).1)) ∧ RowKit.Below B0 w1 wr

set_option maxHeartbeats 3200000 in
theorem next_any (A : Option Addr) (n c : Nat) (base : List Nat) (A2 : Option Addr) (n2 c2 : Nat) (held : List Nat) (most : Int) (w : World) (hn : n ≤ 1000) (hl : base.length = n) (h : Lies w w.heap.size A (uvs base)) (hu : ∀ x ∈ base, x < 18446744073709551616)
    (hl2 : held.length = n2) (h2 : Lies w w.heap.size A2 (uvs held)) :
    Calls Try.prog 19 #[.slice A n c, .slice A2 n2 c2, .int .i64 most] w (OwnRns w w.heap.size (nextL base held (roomN most))) := by
  obtain ⟨m, hm⟩ : ∃ m, m = min n 64 := ⟨_, rfl⟩
  have hm64 : m ≤ 64 := by omega
  have hR4 := roomN_le most
  have HRM : Hid (∀ W, Calls Try.prog 28 #[.int .i64 most] W fun e w' => e = .returned (.int .i64 (roomN most : Int)) ∧ W = w') := fun W => room_any most W
  generalize roomN most = R at hR4 HRM ⊢
  have HBG : Hid (∀ W, RowKit.Below w.heap.size w W → Calls Try.prog 36 #[.slice A n c] W (OwnRns W W.heap.size (rowOf base (List.replicate m 0)))) := fun W hW => begun_any A n c m base W hn hm hl (h.on hW)
  have egM : ∀ args w, (callFunc 37 args).run Try.prog w = .ok (.enter 37 args) w := enters_of Try.func37 (by kernel_rfl) rfl
  have egD : ∀ args w, (callFunc 41 args).run Try.prog w = .ok (.enter 41 args) w := enters_of Try.func41 (by kernel_rfl) rfl
  have hst : (startN base R).1 = List.replicate m 0 := by unfold startN; rw [hl, ← hm]
  have HTK : Hid (∀ (A1 : Option Addr) (c1 : Nat) (w0 w1 wr : World) (k lf : Nat), RowKit.Below w.heap.size w w0 → w.heap.size < w0.heap.size → w0.cell? ⟨w.heap.size, 0, none⟩ = some (.slice A2 n2 c2) → RowKit.Below w0.heap.size w0 w1 → AtPass base held m R A1 c1 w0.heap.size w1 k lf wr →
      Calls Try.prog 39 #[.slice A1 m c1, .int .i64 (lf : Int), .func (.func 37) #[] #[.pointer (some ⟨w.heap.size, 0, none⟩)]] wr (fun e w' => ∃ lf', e = .returned (.int .i64 ((lf - lf' : Nat) : Int)) ∧ lf' ≤ lf ∧ Hid (lf' = lf → passN base held (passes base held m (startN base R) k) m = passes base held m (startN base R) k) ∧ AtPass base held m R A1 c1 w0.heap.size w1 (k + 1) lf' w')) := fun A1 c1 w0 w1 wr k lf hb0 hs0 hc hb1 ⟨hlf, hown, hb⟩ => by
    subst hlf
    have hlen : (passes base held m (startN base R) k).1.length = m := by rw [passes_length, hst]; simp
    have hB : w0.heap.size ≤ wr.heap.size := Nat.le_trans hb1.size hb.size
    have := take_any _ #[.pointer (some ⟨w.heap.size, 0, none⟩)] egM base held (passes base held m (startN base R) k) A1 m c1 w0.heap.size wr hm64 hlen hu (fun j => Nat.le_trans (passes_small (start_small base R) k j) hR4) hown hB (fun W x hW => by
      have hw0W : RowKit.Below w0.heap.size w0 W := (hb1.trans hb).trans hW
      exact more_any x w.heap.size A2 n2 c2 held W ((hw0W.cell (p := ⟨w.heap.size, 0, none⟩) hs0).trans hc) (Nat.lt_of_lt_of_le hs0 hw0W.size) hl2 ((h2.on hb0).on hw0W))
    refine this.mono fun e w' ⟨he, ho, hb'⟩ => ⟨_, he, pass_le _ _ _ _, fun heq => pass_same heq, rfl, ho, hb.trans hb'⟩
  have HDL : Hid (∀ (A1 : Option Addr) (c1 : Nat) (w0 w1 wr : World) (k lf : Nat), RowKit.Below w0.heap.size w0 w1 → AtPass base held m R A1 c1 w0.heap.size w1 k lf wr → k ≤ 4096 → passN base held (passes base held m (startN base R) k) m = passes base held m (startN base R) k →
      Calls Try.prog 40 #[.slice A1 m c1, .func (.func 41) #[] #[]] wr (OwnRns wr w0.heap.size (nextL base held R))) := fun A1 c1 w0 w1 wr k lf hb1 ⟨_, hown, hb⟩ hk hfix => by
    have hlen : (passes base held m (startN base R) k).1.length = m := by rw [passes_length, hst]; simp
    have hB : w0.heap.size ≤ wr.heap.size := Nat.le_trans hb1.size hb.size
    have := deleteRns_any (fun x => decide (x.c = 0)) _ egD (fun x W => noIds_any x W) A1 m c1 w0.heap.size _ wr (by rw [rowOf_length]; exact hlen) (by omega) hB hown
    have he : nextL base held R = (rowOf base (passes base held m (startN base R) k).1).filter fun x => !decide (x.c = 0) := by
      unfold nextL endN
      rw [hl, ← hm, passes_end hfix hk]
      rfl
    rw [he]
    exact this
  have HZ : Hid (∀ k, (passes base held m (startN base R) k).2 = 0 → passN base held (passes base held m (startN base R) k) m = passes base held m (startN base R) k) := fun k hk => pass_none hk m
  have H0 : Hid (∀ A1 c1 w0 w1, w1.ownsRow w0 43 3 (.slice A1 m c1) m (flat encRn (rowOf base (List.replicate m 0))) → AtPass base held m R A1 c1 w0 w1 0 R w1) := fun A1 c1 w0 w1 ho => ⟨rfl, by show w1.ownsRow w0 _ 3 _ m (flat encRn (rowOf base (startN base R).1)); rw [hst]; exact ho, RowKit.Below.refl _ _⟩
  clear hst egM egD hl hl2 h h2 hu hm
  go_enter Try.func19, Try.ntmps19
  go_wp2_with fail
  generalize hw0 : World.alloc w _ = w0
  obtain ⟨hs0, hG, hcc⟩ := box1 w w0 _ _ hw0
  have hb0 : RowKit.Below w.heap.size w w0 := hG.below
  have HC : Hid (w.heap.size < w0.heap.size ∧ w0.cell? ⟨w.heap.size, 0, none⟩ = some (.slice A2 n2 c2)) := ⟨by omega, hcc 0 _ rfl⟩
  clear hw0 hs0 hG hcc
  refine (HBG.out w0 hb0).mono ?_
  rintro e w1 ⟨A1, m1, c1, rfl, hm1, hc1, hc1', hown, hb1⟩
  have e1 : m1 = m := by rw [← hm1.out, rowOf_length]; simp
  subst e1
  have HI := Lib.hid (H0.out A1 c1 w0.heap.size w1 hown)
  clear hown hm1 HBG H0
  go_wp2_with fail
  refine (HRM.out _).mono ?_
  rintro e w1' ⟨rfl, rfl⟩
  clear HRM
  go_wp2
  go_loopw [9, 10] (fun s9 _ wr => ∃ (k lf : Nat), k + lf ≤ R ∧ s9 = .int .i64 lf ∧ AtPass base held m1 R A1 c1 w0.heap.size w1 k lf wr) (fun s9 _ _ => (intOf s9).toNat)
  case atStart => exact ⟨0, R, by omega, rfl, HI.out⟩
  case round =>
    clear HI
    obtain ⟨k, lf, hkl, rfl, hat⟩ := hrel
    by_cases hlf : 0 < lf
    · have htake := HTK.out A1 c1 w0 w1 wr k lf hb0 HC.out.1 HC.out.2 hb1 hat
      have HAT := Lib.hid hat
      clear hat
      go_wp2_with fail
      refine htake.mono ?_
      rintro e w2 ⟨lf', rfl, hle, hsame, hat2⟩
      clear htake
      by_cases hz : lf' = lf
      · have HFX := Lib.hid (hsame.out hz)
        have hz0 : (((lf - lf' : Nat) : Int) == 0) = true := beq_iff_eq.2 (by omega)
        have hat3 : AtPass base held m1 R A1 c1 w0.heap.size w1 k lf w2 := by
          obtain ⟨q1, q2, q3⟩ := hat2
          rw [passes, HFX.out] at q1 q2
          exact ⟨by rw [q1]; exact hz, q2, q3⟩
        have hdel := HDL.out A1 c1 w0 w1 w2 k lf hb1 hat3 (by omega) HFX.out
        have hbW : RowKit.Below w.heap.size w w2 := hb0.trans ((hb1.trans hat3.2.2).mono hb0.size)
        generalize ((lf - lf' : Nat) : Int) = tk at hz0
        clear hsame hat2 hat3 HAT hz
        go_wp2_with fail
        refine hdel.mono ?_
        rintro e w3 ⟨A3, n3, c3, rfl, hn3, q1, q2, hown3, hb3⟩
        have H3 := Lib.hid (own_base hown3 hb0.size)
        have hb4 := hbW.trans (hb3.mono hb0.size)
        clear hown3 hdel
        go_wp2
        go_ret
        exact ⟨A3, n3, c3, rfl, hn3, q1, q2, H3.out, hb4⟩
      · have hz0 : (((lf - lf' : Nat) : Int) == 0) = false := beq_eq_false_iff_ne.2 (by omega)
        have es : IntKind.i64.wrap ((lf : Int) - ((lf - lf' : Nat) : Int)) = (lf' : Int) := by rw [IntKind.wrap_i64]; omega
        have HN := Lib.hid hat2
        have hlt' : lf' < lf := by omega
        have htb : lf - lf' ≤ 4096 := by omega
        generalize lf - lf' = tk at hz0 es htb
        have es2 : (lf : Int) - (tk : Int) = (lf' : Int) := by rw [IntKind.wrap_i64] at es; omega
        clear hsame hat2 HAT hz
        go_wp2
        go_roundw
        case rel => exact ⟨k + 1, lf', by omega, by simp, HN.out⟩
        case measure => simp [intOf]; omega
    · have hl0 : lf = 0 := by omega
      subst hl0
      have hdel := HDL.out A1 c1 w0 w1 wr k 0 hb1 hat (by omega) (HZ.out k hat.1)
      have hbW : RowKit.Below w.heap.size w wr := hb0.trans ((hb1.trans hat.2.2).mono hb0.size)
      clear hat
      go_wp2_with fail
      refine hdel.mono ?_
      rintro e w3 ⟨A3, n3, c3, rfl, hn3, q1, q2, hown3, hb3⟩
      have H3 := Lib.hid (own_base hown3 hb0.size)
      have hb4 := hbW.trans (hb3.mono hb0.size)
      clear hown3 hdel
      go_wp2
      go_ret
      exact ⟨A3, n3, c3, rfl, hn3, q1, q2, H3.out, hb4⟩

end Go.Proofs.Ytfkpffkickicmaa
