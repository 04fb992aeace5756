/- The walks of readRow, and of a reader's Row. -/
import Derived.Test.YthpdcoodfjficaaNumI
import Derived.Test.YthpdcoodfjficaaOneA
namespace Go.Proofs.Ythpdcoodfjficaa
open Go.RowKit

/-- The most of a number. -/
def top : Nat := 18446744073709551615
theorem top_eq : top = 18446744073709551615 := rfl

/-- The row at the front of l, how many bytes it takes, and the error. -/
def rrow (l : List UInt8) (most : Int) : List UInt8 × Nat × Nat :=
  if (rd l top).2.2 ≠ 0 then ([], 0, (rd l top).2.2)
  else if most.toNat < (rd l top).1 then ([], 0, 4)
  else if l.length - (rd l top).2.1 < (rd l top).1 then ([], 0, 2)
  else ((l.drop (rd l top).2.1).take (rd l top).1, (rd l top).2.1 + (rd l top).1, 0)

set_option maxHeartbeats 400000 in
theorem readRow_bad (A : Option Addr) (B n c er : Nat) (most : Int) (l : List UInt8) (w : World) (hl : l.length = n) (h : Lies w B A (bvs l)) (hr : rd l top = (0, 0, er)) (h0 : 0 < er) :
    Calls Try.prog 27 #[.slice A n c, .int .i64 most] w fun e w' => e = .returned (.tuple #[.slice none 0 0, .int .i64 0, .int .i64 er]) ∧ w = w' := by
  have HR := Lib.hid hr
  have HL := Lib.hid hl
  have hne : ((er : Int) != 0) = true := by simp; omega
  clear hr hl
  go_enter Try.func27, Try.ntmps27
  go_wp2_with (go_at_call 28; refine (readNumber_any A _ n c top l _ HL.out h).mono ?_; rintro e w' ⟨rfl, rfl⟩; rw [HR.out, rdVal])
  go_ret3
  exact ⟨rfl, rfl⟩

set_option maxHeartbeats 400000 in
theorem readRow_long (A : Option Addr) (B n c m s : Nat) (most : Int) (l : List UInt8) (w : World) (hl : l.length = n) (h : Lies w B A (bvs l)) (hr : rd l top = (m, s, 0)) (hm : most.toNat < m) (hmost : -9223372036854775808 ≤ most ∧ most ≤ 9223372036854775807) :
    Calls Try.prog 27 #[.slice A n c, .int .i64 most] w fun e w' => e = .returned (.tuple #[.slice none 0 0, .int .i64 0, .int .i64 4]) ∧ w = w' := by
  have HR := Lib.hid hr
  have HL := Lib.hid hl
  clear hr hl
  by_cases hp : 0 ≤ most
  · have hm2 : most < (m : Int) := by omega
    clear hm
    go_enter Try.func27, Try.ntmps27
    go_wp2_with (go_at_call 28; refine (readNumber_any A _ n c top l _ HL.out h).mono ?_; rintro e w' ⟨rfl, rfl⟩; rw [HR.out, rdVal])
    go_ret3
    exact ⟨rfl, rfl⟩
  · have hm2 : 0 < m := by omega
    have hp2 : most < 0 := by omega
    clear hm hp
    go_enter Try.func27, Try.ntmps27
    go_wp2_with (go_at_call 28; refine (readNumber_any A _ n c top l _ HL.out h).mono ?_; rintro e w' ⟨rfl, rfl⟩; rw [HR.out, rdVal])
    go_ret3
    exact ⟨rfl, rfl⟩

set_option maxHeartbeats 400000 in
theorem readRow_short (A : Option Addr) (B n c m s : Nat) (most : Int) (l : List UInt8) (w : World) (hl : l.length = n) (h : Lies w B A (bvs l)) (hr : rd l top = (m, s, 0)) (hm : ¬ most.toNat < m) (hsh : n - s < m) (hn : n ≤ 1000000)
    (hmost : -9223372036854775808 ≤ most ∧ most ≤ 9223372036854775807) :
    Calls Try.prog 27 #[.slice A n c, .int .i64 most] w fun e w' => e = .returned (.tuple #[.slice none 0 0, .int .i64 0, .int .i64 2]) ∧ w = w' := by
  obtain ⟨hs0, hs1, hs9, _⟩ := rd_size hr
  have HR := Lib.hid hr
  have hsn : s ≤ n := by omega
  have HL := Lib.hid hl
  clear hr hl hs1
  have hp : 0 < most := by omega
  have hm2 : ¬ most < (m : Int) := by omega
  have hsh2 : (n : Int) - (s : Int) < (m : Int) := by omega
  clear hm hsh
  go_enter Try.func27, Try.ntmps27
  go_wp2_with (go_at_call 28; refine (readNumber_any A _ n c top l _ HL.out h).mono ?_; rintro e w' ⟨rfl, rfl⟩; rw [HR.out, rdVal])
  go_ret3
  exact ⟨rfl, rfl⟩

/-- readRow's answer where the row is there. -/
def GotRow (w : World) (row : List UInt8) (size : Nat) (e : Ending) (w' : World) : Prop :=
  ∃ A n c, e = .returned (.tuple #[.slice A n c, .int .i64 size, .int .i64 0]) ∧ Hid (row.length = n) ∧ n ≤ c ∧ c ≤ maxLen ∧ w'.ownsRow w.heap.size 5 1 (.slice A n c) n (bvs row) ∧ Below w.heap.size w w'

theorem lies_part {w : World} {B b off s c m : Nat} {l : List UInt8} (h : Lies w B (some ⟨b, off, none⟩) (bvs l)) (hc : l.length ≤ c) :
    Lies w B (if c = s then (some ⟨b, off, none⟩) else (some ⟨b, off + s, none⟩)) (bvs ((l.drop s).take m)) := fun hn => by
  have h1 := lies_cut (s := s) h hc
  obtain ⟨b', off', he, hb, hcell⟩ := h1 (by
    intro h0
    have : l.drop s = [] := by simpa [bvs] using h0
    rw [this] at hn
    simp [bvs] at hn)
  refine ⟨b', off', he, hb, fun i u hu => hcell i u ?_⟩
  simp only [bvs, List.getElem?_map, List.getElem?_take, Option.map_eq_some_iff] at hu ⊢
  obtain ⟨x, hx, rfl⟩ := hu
  split at hx
  · exact ⟨x, hx, rfl⟩
  · cases hx

set_option maxHeartbeats 400000 in
theorem readRow_ok (b off B n c m s : Nat) (most : Int) (l : List UInt8) (w : World) (hl : l.length = n) (h : Lies w B (some ⟨b, off, none⟩) (bvs l)) (hr : rd l top = (m, s, 0)) (hm : ¬ most.toNat < m) (hsh : ¬ n - s < m) (hn : n ≤ 1000000) (hnc : n ≤ c)
    (hmost : -9223372036854775808 ≤ most ∧ most ≤ 9223372036854775807) :
    Calls Try.prog 27 #[.slice (some ⟨b, off, none⟩) n c, .int .i64 most] w (GotRow w ((l.drop s).take m) (s + m)) := by
  obtain ⟨hs0, hs1, hs9, _⟩ := rd_size hr
  have HR := Lib.hid hr
  have hsn : s ≤ n := by omega
  have hsm : s + m ≤ n := by omega
  have hLP := lies_part (s := s) (m := m) h (by rw [hl]; exact hnc)
  have HLen : Hid (((l.drop s).take m).length = m) := by show _ = m; simp; omega
  have HL := Lib.hid hl
  clear hr hl hs1
  have hsh2 : ¬ (n : Int) - (s : Int) < (m : Int) := by omega
  by_cases hp : 0 ≤ most
  · have hm2 : ¬ most < (m : Int) := by omega
    clear hm hsh
    by_cases hcs : c = s
    · rw [if_pos hcs] at hLP
      subst hcs
      go_enter Try.func27, Try.ntmps27
      go_wp2_with (first
        | (go_at_call 28; refine (readNumber_any _ _ n c top l _ HL.out h).mono ?_; rintro e w' ⟨rfl, rfl⟩; rw [HR.out, rdVal])
        | (go_at_call 24; refine (fresh_any _ _ _ _ _ _ HLen.out (by omega) hLP).mono ?_; rintro e w2 ⟨A2, n2, c2, rfl, hn2, hc2, hc3, ho2, hb2⟩))
      go_ret3
      exact ⟨A2, n2, c2, rfl, by have := hn2.out; rw [bvs_length] at this; exact this, hc2, hc3, ho2, hb2⟩
    · rw [if_neg hcs] at hLP
      go_enter Try.func27, Try.ntmps27
      go_wp2_with (first
        | (go_at_call 28; refine (readNumber_any _ _ n c top l _ HL.out h).mono ?_; rintro e w' ⟨rfl, rfl⟩; rw [HR.out, rdVal])
        | (go_at_call 24; refine (fresh_any _ _ _ _ _ _ HLen.out (by omega) hLP).mono ?_; rintro e w2 ⟨A2, n2, c2, rfl, hn2, hc2, hc3, ho2, hb2⟩))
      go_ret3
      exact ⟨A2, n2, c2, rfl, by have := hn2.out; rw [bvs_length] at this; exact this, hc2, hc3, ho2, hb2⟩
  · have hm0 : m = 0 := by omega
    subst hm0
    have hp2 : most < 0 := by omega
    clear hm hsh hp
    by_cases hcs : c = s
    · rw [if_pos hcs] at hLP
      subst hcs
      go_enter Try.func27, Try.ntmps27
      go_wp2_with (first
        | (go_at_call 28; refine (readNumber_any _ _ n c top l _ HL.out h).mono ?_; rintro e w' ⟨rfl, rfl⟩; rw [HR.out, rdVal])
        | (go_at_call 24; refine (fresh_any _ _ _ _ _ _ HLen.out (by omega) hLP).mono ?_; rintro e w2 ⟨A2, n2, c2, rfl, hn2, hc2, hc3, ho2, hb2⟩))
      go_ret3
      exact ⟨A2, n2, c2, rfl, by have := hn2.out; rw [bvs_length] at this; exact this, hc2, hc3, ho2, hb2⟩
    · rw [if_neg hcs] at hLP
      go_enter Try.func27, Try.ntmps27
      go_wp2_with (first
        | (go_at_call 28; refine (readNumber_any _ _ n c top l _ HL.out h).mono ?_; rintro e w' ⟨rfl, rfl⟩; rw [HR.out, rdVal])
        | (go_at_call 24; refine (fresh_any _ _ _ _ _ _ HLen.out (by omega) hLP).mono ?_; rintro e w2 ⟨A2, n2, c2, rfl, hn2, hc2, hc3, ho2, hb2⟩))
      go_ret3
      exact ⟨A2, n2, c2, rfl, by have := hn2.out; rw [bvs_length] at this; exact this, hc2, hc3, ho2, hb2⟩

end Go.Proofs.Ythpdcoodfjficaa
