/- The walk of a reader's Row. -/
import Derived.Test.YthpdcoodfjficaaNumJ
namespace Go.Proofs.Ythpdcoodfjficaa
open Go.RowKit

/-- A reader's next row, and what stands before it then. -/
def rowOf (l : List UInt8) (er : Nat) (most : Int) : List UInt8 × List UInt8 × Nat :=
  if er ≠ 0 then ([], l, er) else if (rrow l most).2.2 ≠ 0 then ([], l, (rrow l most).2.2) else ((rrow l most).1, l.drop (rrow l most).2.1, 0)

/-- The call answered these bytes, block g is now such a reader, and no other old block has turned. -/
def TookRow (w : World) (base hi g : Nat) (row l : List UInt8) (er : Nat) (e : Ending) (w' : World) : Prop :=
  ∃ A n c, e = .returned (.slice A n c) ∧ Hid (row.length = n) ∧ Lies w' w'.heap.size A (bvs row) ∧ Rd w' base hi g l er ∧ w.grownBy w' (some g)

theorem row_bad {w : World} {base hi g er n c : Nat} {l : List UInt8} {A : Option Addr} (most : Int) (h : RdAt w base hi g l er A n c) (her : 0 < er) :
    Calls Try.prog 17 #[.pointer (some ⟨g, 0, none⟩), .int .i64 most] w fun e w' => e = .returned (.slice none 0 0) ∧ w = w' := by
  go_enter Try.func17, Try.ntmps17
  go_wp2_with (go_at_call 26; refine (silent_bad h her).mono ?_; rintro e w' ⟨rfl, rfl⟩)
  go_ret
  exact ⟨rfl, rfl⟩

set_option maxHeartbeats 400000 in
theorem row_err {w : World} {base hi g n c : Nat} {l : List UInt8} {A : Option Addr} (most : Int) (er : Nat) (h : RdAt w base hi g l 0 A n c) (h0 : 0 < er)
    (hr : Calls Try.prog 27 #[.slice A n c, .int .i64 most] w fun e w' => e = .returned (.tuple #[.slice none 0 0, .int .i64 0, .int .i64 er]) ∧ w = w') :
    Calls Try.prog 17 #[.pointer (some ⟨g, 0, none⟩), .int .i64 most] w fun e w' => e = .returned (.slice none 0 0) ∧ w' = w.setCell ⟨g, 1, none⟩ (.int .i64 er) := by
  have hc0 := h.c0
  have hc1 := h.c1
  have hf := h.fr 1
  have hne : ((er : Int) != 0) = true := by simp; omega
  have HR := Lib.hid hr
  clear hr
  go_enter Try.func17, Try.ntmps17
  go_wp2_with (first
    | (go_at_call 26; refine (silent_ok h).mono ?_; rintro e w' ⟨rfl, rfl⟩)
    | (go_at_call 27; refine HR.out.mono ?_; rintro e w' ⟨rfl, rfl⟩))
  go_ret
  exact ⟨rfl, rfl⟩

theorem gotRow_took {w w1 : World} {base hi g n c A0 n2 c2 : Nat} {A2 : Option Addr} {l row : List UInt8} {off s : Nat} (h : RdAt w base hi g l 0 (some ⟨A0, off, none⟩) n c) (hs : s ≤ n) (hn2 : Hid (row.length = n2))
    (ho : w1.ownsRow w.heap.size 5 1 (.slice A2 n2 c2) n2 (bvs row)) (hb : Below w.heap.size w w1) :
    TookRow w base hi g row (l.drop s) 0 (.returned (.slice A2 n2 c2)) (w1.setCell ⟨g, 0, none⟩ (.slice (if c = s then (some ⟨A0, off, none⟩) else (some ⟨A0, off + s, none⟩)) (n - s) (c - s))) := by
  have hlt := h.lt
  have hhi := h.hiLe
  have h1 := (h.below (hb.mono hhi)).cut s hs
  refine ⟨A2, n2, c2, rfl, hn2, ?_, ⟨_, _, _, h1⟩, ?_⟩
  · have hL := Lies.of_own ho
    rw [show ∀ u : Value, (w1.setCell ⟨g, 0, none⟩ u).heap.size = w1.heap.size from fun u => by simp [World.setCell]]
    refine hL.kept (grown_setCell w1 g 0 _) (Nat.le_refl _) (fun a ha e => ?_)
    subst ha
    have := (ho.lt a.block rfl).1
    injection e with e
    omega
  · have hg := grown_setCell w1 g 0 (.slice (if c = s then (some ⟨A0, off, none⟩) else (some ⟨A0, off + s, none⟩)) (n - s) (c - s))
    exact ⟨hb.os, hb.tape, hb.output, Nat.le_trans hb.size hg.size, fun k hk hne => (hg.block k (Nat.lt_of_lt_of_le hk hb.size) hne).trans (hb.block k hk)⟩

set_option maxHeartbeats 800000 in
theorem row_ok {w : World} {base hi g n c : Nat} {l row : List UInt8} {b off : Nat} (most : Int) (s : Nat) (hRd : RdAt w base hi g l 0 (some ⟨b, off, none⟩) n c) (hsn : s ≤ n) (_hs : s ≤ 9000000)
    (hr : Calls Try.prog 27 #[.slice (some ⟨b, off, none⟩) n c, .int .i64 most] w (GotRow w row s)) :
    Calls Try.prog 17 #[.pointer (some ⟨g, 0, none⟩), .int .i64 most] w (TookRow w base hi g row (l.drop s) 0) := by
  have hc0 := hRd.c0
  have hc1 := hRd.c1
  have hnc : n ≤ c := hRd.2.2.2.1
  have HR := Lib.hid hr
  clear hr
  go_enter Try.func17, Try.ntmps17
  go_wp2_with (first
    | (go_at_call 26; refine (silent_ok hRd).mono ?_; rintro e w' ⟨rfl, rfl⟩)
    | (go_at_call 27; refine HR.out.mono ?_; rintro e w1 ⟨A2, n2, c2, rfl, hn2, _, _, ho, hb⟩; have hc2 := (hRd.below (hb.mono hRd.hiLe)).c0; have hf2 := (hRd.below (hb.mono hRd.hiLe)).fr 0))
  all_goals
    have hT := gotRow_took hRd hsn hn2 ho hb
    go_ret
  · rw [if_pos ‹c = s›] at hT
    rw [show c - s = 0 by omega] at hT
    exact hT
  · rw [if_neg ‹¬ c = s›] at hT
    exact hT

theorem took_none {w w' : World} {base hi g er : Nat} {l : List UInt8} (hR : Rd w' base hi g l er) (hg : w.grownBy w' (some g)) : TookRow w base hi g [] l er (.returned (.slice none 0 0)) w' :=
  ⟨none, 0, 0, rfl, rfl, Lies.nil, hR, hg⟩

theorem row_any {w : World} {base hi g er : Nat} {l : List UInt8} (most : Int) (hmost : -9223372036854775808 ≤ most ∧ most ≤ 9223372036854775807) (h : Rd w base hi g l er) (hl : l.length ≤ 1000000) :
    Calls Try.prog 17 #[.pointer (some ⟨g, 0, none⟩), .int .i64 most] w (TookRow w base hi g (rowOf l er most).1 (rowOf l er most).2.1 (rowOf l er most).2.2) := by
  obtain ⟨A, n, c, h⟩ := h
  by_cases her : er = 0
  · subst her
    have hn : l.length = n := h.2.2.1.out
    have key : ∀ er, 0 < er → rrow l most = ([], 0, er) → (Calls Try.prog 27 #[.slice A n c, .int .i64 most] w fun e w' => e = .returned (.tuple #[.slice none 0 0, .int .i64 0, .int .i64 er]) ∧ w = w') →
        Calls Try.prog 17 #[.pointer (some ⟨g, 0, none⟩), .int .i64 most] w (TookRow w base hi g (rowOf l 0 most).1 (rowOf l 0 most).2.1 (rowOf l 0 most).2.2) := by
      intro er h1 h2 h3
      have e : rowOf l 0 most = ([], l, er) := by simp [rowOf, h2]; omega
      rw [e]
      refine (row_err most er h h1 h3).mono ?_
      rintro e w' ⟨rfl, rfl⟩
      exact took_none ⟨_, _, _, h.setErr er⟩ (grown_setCell _ _ _ _)
    rcases rd_err l top with h0 | h0
    · rcases hrd : rd l top with ⟨m, s, z⟩
      rw [hrd] at h0
      simp only at h0
      subst h0
      obtain ⟨hs0, hs1, hs9, _, c0, t, hl0, _⟩ := rd_size hrd
      by_cases hm : most.toNat < m
      · exact key 4 (by decide) (by simp [rrow, hrd, hm]) (readRow_long A _ n c m s most l w hn h.lies hrd hm hmost)
      · by_cases hsh : n - s < m
        · exact key 2 (by decide) (by simp [rrow, hrd, hm, hn, hsh]) (readRow_short A _ n c m s most l w hn h.lies hrd hm hsh (by omega) hmost)
        · obtain ⟨b, off, rfl, _⟩ := h.lies (by rw [hl0]; simp [bvs])
          have e : rowOf l 0 most = ((l.drop s).take m, l.drop (s + m), 0) := by simp [rowOf, rrow, hrd, hm, hn, hsh]
          rw [e]
          exact row_ok most (s + m) h (by omega) (by omega) (readRow_ok b off _ n c m s most l w hn h.lies hrd hm hsh (by omega) h.2.2.2.1 hmost)
    · have k2 : ∀ er, 0 < er → rd l top = (0, 0, er) → Calls Try.prog 17 #[.pointer (some ⟨g, 0, none⟩), .int .i64 most] w (TookRow w base hi g (rowOf l 0 most).1 (rowOf l 0 most).2.1 (rowOf l 0 most).2.2) :=
        fun er h1 h2 => key er h1 (by simp [rrow, h2]; omega) (readRow_bad A _ n c er most l w hn h.lies h2 h1)
      rcases h0 with h0 | h0 | h0
      · exact k2 2 (by decide) h0
      · exact k2 3 (by decide) h0
      · exact k2 6 (by decide) h0
  · have e : rowOf l er most = ([], l, er) := by simp [rowOf, her]
    rw [e]
    refine (row_bad most h (by omega)).mono ?_
    rintro e w' ⟨rfl, rfl⟩
    exact took_none ⟨A, n, c, h⟩ (World.grownBy.refl _ _)

theorem rowOf_put (r t : List UInt8) (most : Int) (h : r.length < 18446744073709551616) (hm : r.length ≤ most.toNat) : rowOf (row r ++ t) 0 most = (r, t, 0) := by
  have hrd : rd (enc r.length ++ (r ++ t)) top = (r.length, (enc r.length).length, 0) := rd_put r.length top (r ++ t) h (by rw [top_eq]; omega)
  have e : row r ++ t = enc r.length ++ (r ++ t) := by simp [row]
  rw [e]
  have hx : rrow (enc r.length ++ (r ++ t)) most = (r, (enc r.length).length + r.length, 0) := by
    unfold rrow
    rw [hrd]
    simp only [ne_eq, not_true_eq_false, if_false]
    rw [if_neg (by omega), if_neg (by simp), List.drop_left]
    simp
  unfold rowOf
  rw [hx]
  simp only [ne_eq, not_true_eq_false, if_false]
  rw [← List.append_assoc, show (enc r.length).length + r.length = (enc r.length ++ r).length by simp, List.drop_left]

end Go.Proofs.Ythpdcoodfjficaa
