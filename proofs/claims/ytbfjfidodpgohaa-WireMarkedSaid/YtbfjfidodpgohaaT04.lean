/- num.Rows (picked; rows of up to 8000 bytes). -/
import Derived.Test.YtbfjfidodpgohaaT03
import Derived.Deep.RegionHeld3
import Derived.Deep.RegionWith
import Derived.IntWalk
import Derived.Deep.Cut
import Derived.Deep.CutRange

namespace Go.Proofs.Ytbfjfidodpgohaa
open Go.RowKit

theorem rows_snoc (ls : List (List UInt8)) (k : Nat) (h : k < ls.length) : rows (ls.take (k + 1)) = rows (ls.take k) ++ (enc ls[k].length ++ ls[k]) := by
  rw [List.take_succ_eq_append_getElem h, rows_append]; simp [rows, row]

theorem rows_len {ls : List (List UInt8)} (h : ∀ x ∈ ls, x.length ≤ 8000) : (rows ls).length ≤ 8009 * ls.length := by
  induction ls with
  | nil => simp [rows]
  | cons x t ih =>
    have h0 := h x (by simp)
    have h1 := enc_len (n := x.length) (by omega)
    have h2 := ih (fun y hy => h y (by simp [hy]))
    simp [rows, row]; omega

theorem app_len {wr : World} {base L n3 nr : Nat} {v : Value} {xs : List Value} (h : wr.ownsRow base 5 1 v L xs) (hn : Hid ((xs ++ bvs (enc nr)).length = n3)) (hr : nr < 18446744073709551616) : n3 ≤ L + 9 := by
  have h1 := own_len h
  have h2 := hn.out
  have h3 := enc_len hr
  rw [List.length_append, bvs_length] at h2
  omega

set_option maxRecDepth 100000 in
set_option maxHeartbeats 800000 in
theorem rows_any (A A2 : Option Addr) (n c m c2 : Nat) (l : List UInt8) (vs : List Value) (ls : List (List UInt8)) (w : World) (hl : l.length = n) (hn : n ≤ 10000) (h : Lies w w.heap.size A (bvs l))
    (hl2 : vs.length = m) (hm : m ≤ 10) (h2 : Lies w w.heap.size A2 vs) (hr : BytRows w w.heap.size vs ls) (hls : ∀ x ∈ ls, x.length ≤ 8000) :
    Calls Try.prog 92 #[.slice A n c, .slice A2 m c2] w (Owned w w.heap.size (bvs (l ++ rows ls))) := by
  obtain ⟨i0, hi, hz0, hz1, hz2⟩ := info_parts Try.info5
  have HL := Lib.hid hl
  have HL2 := Lib.hid hl2
  have HLS := Lib.hid hls
  have HR := Lib.hid hr
  clear hl hl2 hls hr
  go_enter Try.func92, Try.ntmps92
  go_wp2_with (go_at_call 47; refine (fresh_any A _ n c l _ HL.out (by omega) h).mono ?_; rintro e w1 ⟨A1, n1, c1, rfl, hn1, _, _, ho1, hb1⟩)
  have hR0 : PutRel w (bvs (l ++ rows (ls.take 0))) (.slice A1 n1 c1) w1 := by
    rw [List.take_zero, rows, List.append_nil]; exact ⟨_, ho1, hb1, hn1.out⟩
  clear ho1 hb1
  go_loopw [5, 12] (fun v i wr => ∃ (k : Nat), k ≤ m ∧ i = .int .i64 k ∧ PutRel w (bvs (l ++ rows (ls.take k))) v wr) (fun _ i _ => m - (intOf i).toNat)
  case atStart => exact ⟨0, Nat.zero_le _, rfl, hR0⟩
  case round =>
    obtain ⟨k, hk, rfl, hR⟩ := hrel
    by_cases hlt : k < m
    · have hk1 : k < vs.length := by rw [HL2.out]; exact hlt
      have hk2 : k < ls.length := by rw [← HR.out.1]; exact hk1
      have hel := rows_len (ls := ls.take k) (fun x hx => HLS.out x (List.mem_of_mem_take hx))
      have hxl : (bvs (l ++ rows (ls.take k))).length ≤ 100000 := by
        rw [bvs_length, List.length_append, HL.out]
        have : (ls.take k).length ≤ 10 := by have := List.length_take_le k ls; omega
        omega
      obtain ⟨Ar, nr, cr, hvr, hlr, _, _, hLr⟩ := (HR.out.2 k hk1 hk2).below hR.below
      obtain ⟨b, off, rfl, hb, hc⟩ := (h2.below hR.below).at_ (List.getElem?_eq_getElem hk1)
      rw [hvr] at hc
      have hx : nr ≤ 8000 := by have := HLS.out ls[k] (List.getElem_mem hk2); omega
      have hsz : w.heap.size ≤ wr.heap.size := hR.below.size
      obtain ⟨L, hoL, hbL, hLL⟩ := id hR
      have hLx : L ≤ 100000 := by omega
      have HLR := Lib.hid hlr
      have HPR := Lib.hid hR
      clear hR hel hxl hLL hvr hlr
      go_wp2_with (first
        | (go_at_call 52; refine (appendNumber_any w.heap.size _ L _ nr _ hoL (by omega) (by omega) hsz).mono ?_; intro e w2 ho; obtain ⟨A3, n3, c3, rfl, hn3, _, _, hoL2, hbL2⟩ := ho)
        | (at_builtin; refine wpList_append_lst rfl _ _ 22 rfl w.heap.size 5 i0 (.int .u8 0) 1 Try.underlying22 hi hz0 hz1 hz2 rfl _ _ _ rfl hoL2 _ _ _ _ (bvs ls[k]) rfl ?d0 (hLr.below hbL2) (bvs_one _) ?d2 ?d3 ?d4 ?_))
      case d0 => rw [bvs_length]; exact HLR.out
      case d2 => have := app_len hoL hn3 (by omega); unfold maxLen; omega
      case d3 => have := app_len hoL hn3 (by omega); omega
      case d4 => have := hbL2.size; omega
      intro v4 w4 hown4 hg4 hb4 _
      go_wp2
      go_roundw
      case rel =>
        refine ⟨k + 1, by omega, by go_num, ?_⟩
        rw [rows_snoc ls k hk2, HLR.out, ← List.append_assoc, ← List.append_assoc, bvs_append, bvs_append]
        refine PutRel.of (n := n3 + nr) ?_ ((hbL.trans hbL2).trans hb4)
        simpa using hown4
      case measure => simp [intOf]; omega
    · go_wp2
      go_ret
      have : k = m := by omega
      subst this
      rw [← HL2.out, HR.out.1, List.take_length] at hR
      exact hR.owned

end Go.Proofs.Ytbfjfidodpgohaa

/- num.readRow (picked). -/
namespace Go.Proofs.Ytbfjfidodpgohaa
open Go.RowKit

theorem RdAt.drew {w : World} {base hi g er n c : Nat} {l : List UInt8} {A : Option Addr} (h : RdAt w base hi g l er A n c) : RdAt w.drew base hi g l er A n c := h

/-- Put's answer, and how string() reads it. -/
theorem put_str {w w' : World} {l : List UInt8} {e : Ending} (h : Owned w w.heap.size (bvs l) e w') : ∃ A n c, e = .returned (.slice A n c) ∧ Strs w' A n l ∧ Below w.heap.size w w' := by
  obtain ⟨A, n, c, rfl, hn, _, _, ho, hb⟩ := h
  exact ⟨A, n, c, rfl, strs_of (by have := hn.out; rwa [bvs_length] at this) (Lies.of_own ho), hb⟩

/-- The reader's step keeps the row of numbers. -/
theorem own_took {w w1 : World} {U g : Nat} {v : Value} {e : TypeId} {k : Nat} {xs : List Value} (h : w.ownsRow U e 1 v k xs) (hg : w.grownBy w1 (some g)) (hlt : g < U) : w1.ownsRow U e 1 v k xs :=
  h.kept hg (by
    rcases hv : v.ownBlock with _ | b
    · exact .inl rfl
    · refine .inr (fun e => ?_)
      have := (h.lt b hv).1
      injection e with e
      omega)

theorem rnum_cases (l : List UInt8) (most : Nat) : (rnum l 0 most).2.2 ≠ 0 ∧ (rnum l 0 most).1 = 0 ∨ ∃ m, rnum l 0 most = (m, l.drop (rd l most).2.1, 0) ∧ l = enc m ++ l.drop (rd l most).2.1 ∧ 0 < (rd l most).2.1 ∧ (rd l most).2.1 ≤ l.length ∧ m ≤ most := by
  by_cases h : (rd l most).2.2 = 0
  · refine .inr ⟨(rd l most).1, by simp [rnum, h], ?_⟩
    rcases hrd : rd l most with ⟨m, s, z⟩
    rw [hrd] at h
    simp only at h
    subst h
    exact rd_enc hrd
  · exact .inl (by simp [rnum, h])

/-- The most of a number. -/
def top : Nat := 18446744073709551615

theorem top_eq : top = 18446744073709551615 := rfl

/-- The row at the front of l, how many bytes it takes, and the error. -/
def rrow (l : List UInt8) (most : Int) : List UInt8 × Nat × Nat :=
  if (rd l top).2.2 ≠ 0 then ([], 0, (rd l top).2.2)
  else if most.toNat < (rd l top).1 then ([], 0, 4)
  else if l.length - (rd l top).2.1 < (rd l top).1 then ([], 0, 2)
  else ((l.drop (rd l top).2.1).take (rd l top).1, (rd l top).2.1 + (rd l top).1, 0)

set_option maxRecDepth 100000 in
set_option maxHeartbeats 400000 in
theorem readRow_bad (A : Option Addr) (B n c er : Nat) (most : Int) (l : List UInt8) (w : World) (hl : l.length = n) (h : Lies w B A (bvs l)) (hr : rd l top = (0, 0, er)) (h0 : 0 < er) :
    Calls Try.prog 85 #[.slice A n c, .int .i64 most] w fun e w' => e = .returned (.tuple #[.slice none 0 0, .int .i64 0, .int .i64 er]) ∧ w = w' := by
  have HR := Lib.hid hr
  have HL := Lib.hid hl
  have hne : ((er : Int) != 0) = true := by simp; omega
  clear hr hl
  go_enter Try.func85, Try.ntmps85
  go_wp2_with (go_at_call 57; refine (readNumber_any A _ n c top l _ HL.out h).mono ?_; rintro e w' ⟨rfl, rfl⟩; rw [HR.out, rdVal])
  go_ret3
  exact ⟨rfl, rfl⟩

set_option maxRecDepth 100000 in
set_option maxHeartbeats 400000 in
theorem readRow_long (A : Option Addr) (B n c m s : Nat) (most : Int) (l : List UInt8) (w : World) (hl : l.length = n) (h : Lies w B A (bvs l)) (hr : rd l top = (m, s, 0)) (hm : most.toNat < m) (hmost : -9223372036854775808 ≤ most ∧ most ≤ 9223372036854775807) :
    Calls Try.prog 85 #[.slice A n c, .int .i64 most] w fun e w' => e = .returned (.tuple #[.slice none 0 0, .int .i64 0, .int .i64 4]) ∧ w = w' := by
  have HR := Lib.hid hr
  have HL := Lib.hid hl
  clear hr hl
  by_cases hp : 0 ≤ most
  · have hm2 : most < (m : Int) := by omega
    clear hm
    go_enter Try.func85, Try.ntmps85
    go_wp2_with (go_at_call 57; refine (readNumber_any A _ n c top l _ HL.out h).mono ?_; rintro e w' ⟨rfl, rfl⟩; rw [HR.out, rdVal])
    go_ret3
    exact ⟨rfl, rfl⟩
  · have hm2 : 0 < m := by omega
    have hp2 : most < 0 := by omega
    clear hm hp
    go_enter Try.func85, Try.ntmps85
    go_wp2_with (go_at_call 57; refine (readNumber_any A _ n c top l _ HL.out h).mono ?_; rintro e w' ⟨rfl, rfl⟩; rw [HR.out, rdVal])
    go_ret3
    exact ⟨rfl, rfl⟩

set_option maxRecDepth 100000 in
set_option maxHeartbeats 400000 in
theorem readRow_short (A : Option Addr) (B n c m s : Nat) (most : Int) (l : List UInt8) (w : World) (hl : l.length = n) (h : Lies w B A (bvs l)) (hr : rd l top = (m, s, 0)) (hm : ¬ most.toNat < m) (hsh : n - s < m) (hn : n ≤ 1000000)
    (hmost : -9223372036854775808 ≤ most ∧ most ≤ 9223372036854775807) :
    Calls Try.prog 85 #[.slice A n c, .int .i64 most] w fun e w' => e = .returned (.tuple #[.slice none 0 0, .int .i64 0, .int .i64 2]) ∧ w = w' := by
  obtain ⟨hs0, hs1, hs9, _⟩ := rd_size hr
  have HR := Lib.hid hr
  have hsn : s ≤ n := by omega
  have HL := Lib.hid hl
  clear hr hl hs1
  have hp : 0 < most := by omega
  have hm2 : ¬ most < (m : Int) := by omega
  have hsh2 : (n : Int) - (s : Int) < (m : Int) := by omega
  clear hm hsh
  go_enter Try.func85, Try.ntmps85
  go_wp2_with (go_at_call 57; refine (readNumber_any A _ n c top l _ HL.out h).mono ?_; rintro e w' ⟨rfl, rfl⟩; rw [HR.out, rdVal])
  go_ret3
  exact ⟨rfl, rfl⟩

/-- readRow's answer where the row is there. -/
def GotRow (w : World) (row : List UInt8) (size : Nat) (e : Ending) (w' : World) : Prop :=
  ∃ A n c, e = .returned (.tuple #[.slice A n c, .int .i64 size, .int .i64 0]) ∧ Hid (row.length = n) ∧ n ≤ c ∧ c ≤ maxLen ∧ w'.ownsRow w.heap.size 5 1 (.slice A n c) n (bvs row) ∧ Below w.heap.size w w'

theorem lies_part {w : World} {B b off s c m : Nat} {l : List UInt8} (h : Lies w B (some ⟨b, off, none⟩) (bvs l)) (hc : l.length ≤ c) :
    Lies w B (if c = s then (some ⟨b, off, none⟩) else (some ⟨b, off + s, none⟩)) (bvs ((l.drop s).take m)) := fun hn => by
  have h1 := lies_cut (s := s) h hc
  obtain ⟨b', off', he, hb, hcell⟩ := h1 (by
    intro h0
    have : l.drop s = [] := by simpa [bvs] using h0
    rw [this] at hn
    simp [bvs] at hn)
  refine ⟨b', off', he, hb, fun i u hu => hcell i u ?_⟩
  simp only [bvs, List.getElem?_map, List.getElem?_take, Option.map_eq_some_iff] at hu ⊢
  obtain ⟨x, hx, rfl⟩ := hu
  split at hx
  · exact ⟨x, hx, rfl⟩
  · cases hx

set_option maxRecDepth 100000 in
set_option maxHeartbeats 400000 in
theorem readRow_ok (b off B n c m s : Nat) (most : Int) (l : List UInt8) (w : World) (hl : l.length = n) (h : Lies w B (some ⟨b, off, none⟩) (bvs l)) (hr : rd l top = (m, s, 0)) (hm : ¬ most.toNat < m) (hsh : ¬ n - s < m) (hn : n ≤ 1000000) (hnc : n ≤ c)
    (hmost : -9223372036854775808 ≤ most ∧ most ≤ 9223372036854775807) :
    Calls Try.prog 85 #[.slice (some ⟨b, off, none⟩) n c, .int .i64 most] w (GotRow w ((l.drop s).take m) (s + m)) := by
  obtain ⟨hs0, hs1, hs9, _⟩ := rd_size hr
  have HR := Lib.hid hr
  have hsn : s ≤ n := by omega
  have hsm : s + m ≤ n := by omega
  have hLP := lies_part (s := s) (m := m) h (by rw [hl]; exact hnc)
  have HLen : Hid (((l.drop s).take m).length = m) := by show _ = m; simp; omega
  have HL := Lib.hid hl
  clear hr hl hs1
  have hsh2 : ¬ (n : Int) - (s : Int) < (m : Int) := by omega
  by_cases hp : 0 ≤ most
  · have hm2 : ¬ most < (m : Int) := by omega
    clear hm hsh
    by_cases hcs : c = s
    · rw [if_pos hcs] at hLP
      subst hcs
      go_enter Try.func85, Try.ntmps85
      go_wp2_with (first
        | (go_at_call 57; refine (readNumber_any _ _ n c top l _ HL.out h).mono ?_; rintro e w' ⟨rfl, rfl⟩; rw [HR.out, rdVal])
        | (go_at_call 47; refine (fresh_any _ _ _ _ _ _ HLen.out (by omega) hLP).mono ?_; rintro e w2 ⟨A2, n2, c2, rfl, hn2, hc2, hc3, ho2, hb2⟩))
      go_ret3
      exact ⟨A2, n2, c2, rfl, by have := hn2.out; rw [bvs_length] at this; exact this, hc2, hc3, ho2, hb2⟩
    · rw [if_neg hcs] at hLP
      go_enter Try.func85, Try.ntmps85
      go_wp2_with (first
        | (go_at_call 57; refine (readNumber_any _ _ n c top l _ HL.out h).mono ?_; rintro e w' ⟨rfl, rfl⟩; rw [HR.out, rdVal])
        | (go_at_call 47; refine (fresh_any _ _ _ _ _ _ HLen.out (by omega) hLP).mono ?_; rintro e w2 ⟨A2, n2, c2, rfl, hn2, hc2, hc3, ho2, hb2⟩))
      go_ret3
      exact ⟨A2, n2, c2, rfl, by have := hn2.out; rw [bvs_length] at this; exact this, hc2, hc3, ho2, hb2⟩
  · have hm0 : m = 0 := by omega
    subst hm0
    have hp2 : most < 0 := by omega
    clear hm hsh hp
    by_cases hcs : c = s
    · rw [if_pos hcs] at hLP
      subst hcs
      go_enter Try.func85, Try.ntmps85
      go_wp2_with (first
        | (go_at_call 57; refine (readNumber_any _ _ n c top l _ HL.out h).mono ?_; rintro e w' ⟨rfl, rfl⟩; rw [HR.out, rdVal])
        | (go_at_call 47; refine (fresh_any _ _ _ _ _ _ HLen.out (by omega) hLP).mono ?_; rintro e w2 ⟨A2, n2, c2, rfl, hn2, hc2, hc3, ho2, hb2⟩))
      go_ret3
      exact ⟨A2, n2, c2, rfl, by have := hn2.out; rw [bvs_length] at this; exact this, hc2, hc3, ho2, hb2⟩
    · rw [if_neg hcs] at hLP
      go_enter Try.func85, Try.ntmps85
      go_wp2_with (first
        | (go_at_call 57; refine (readNumber_any _ _ n c top l _ HL.out h).mono ?_; rintro e w' ⟨rfl, rfl⟩; rw [HR.out, rdVal])
        | (go_at_call 47; refine (fresh_any _ _ _ _ _ _ HLen.out (by omega) hLP).mono ?_; rintro e w2 ⟨A2, n2, c2, rfl, hn2, hc2, hc3, ho2, hb2⟩))
      go_ret3
      exact ⟨A2, n2, c2, rfl, by have := hn2.out; rw [bvs_length] at this; exact this, hc2, hc3, ho2, hb2⟩

end Go.Proofs.Ytbfjfidodpgohaa

/- Reader.Row (picked). -/
namespace Go.Proofs.Ytbfjfidodpgohaa
open Go.RowKit

/-- A reader's next row, and what stands before it then. -/
def rowOf (l : List UInt8) (er : Nat) (most : Int) : List UInt8 × List UInt8 × Nat :=
  if er ≠ 0 then ([], l, er) else if (rrow l most).2.2 ≠ 0 then ([], l, (rrow l most).2.2) else ((rrow l most).1, l.drop (rrow l most).2.1, 0)

/-- The call answered these bytes, block g is now such a reader, and no other old block has turned. -/
def TookRow (w : World) (base hi g : Nat) (row l : List UInt8) (er : Nat) (e : Ending) (w' : World) : Prop :=
  ∃ A n c, e = .returned (.slice A n c) ∧ Hid (row.length = n) ∧ Lies w' w'.heap.size A (bvs row) ∧ Rd w' base hi g l er ∧ w.grownBy w' (some g)

set_option maxRecDepth 100000 in
theorem row_bad {w : World} {base hi g er n c : Nat} {l : List UInt8} {A : Option Addr} (most : Int) (h : RdAt w base hi g l er A n c) (her : 0 < er) :
    Calls Try.prog 83 #[.pointer (some ⟨g, 0, none⟩), .int .i64 most] w fun e w' => e = .returned (.slice none 0 0) ∧ w = w' := by
  go_enter Try.func83, Try.ntmps83
  go_wp2_with (go_at_call 56; refine (silent_bad h her).mono ?_; rintro e w' ⟨rfl, rfl⟩)
  go_ret
  exact ⟨rfl, rfl⟩

set_option maxRecDepth 100000 in
set_option maxHeartbeats 400000 in
theorem row_err {w : World} {base hi g n c : Nat} {l : List UInt8} {A : Option Addr} (most : Int) (er : Nat) (h : RdAt w base hi g l 0 A n c) (h0 : 0 < er)
    (hr : Calls Try.prog 85 #[.slice A n c, .int .i64 most] w fun e w' => e = .returned (.tuple #[.slice none 0 0, .int .i64 0, .int .i64 er]) ∧ w = w') :
    Calls Try.prog 83 #[.pointer (some ⟨g, 0, none⟩), .int .i64 most] w fun e w' => e = .returned (.slice none 0 0) ∧ w' = w.setCell ⟨g, 1, none⟩ (.int .i64 er) := by
  have hc0 := h.c0
  have hc1 := h.c1
  have hf := h.fr 1
  have hne : ((er : Int) != 0) = true := by simp; omega
  have HR := Lib.hid hr
  clear hr
  go_enter Try.func83, Try.ntmps83
  go_wp2_with (first
    | (go_at_call 56; refine (silent_ok h).mono ?_; rintro e w' ⟨rfl, rfl⟩)
    | (go_at_call 85; refine HR.out.mono ?_; rintro e w' ⟨rfl, rfl⟩))
  go_ret
  exact ⟨rfl, rfl⟩

theorem gotRow_took {w w1 : World} {base hi g n c A0 n2 c2 : Nat} {A2 : Option Addr} {l row : List UInt8} {off s : Nat} (h : RdAt w base hi g l 0 (some ⟨A0, off, none⟩) n c) (hs : s ≤ n) (hn2 : Hid (row.length = n2))
    (ho : w1.ownsRow w.heap.size 5 1 (.slice A2 n2 c2) n2 (bvs row)) (hb : Below w.heap.size w w1) :
    TookRow w base hi g row (l.drop s) 0 (.returned (.slice A2 n2 c2)) (w1.setCell ⟨g, 0, none⟩ (.slice (if c = s then (some ⟨A0, off, none⟩) else (some ⟨A0, off + s, none⟩)) (n - s) (c - s))) := by
  have hlt := h.lt
  have hhi := h.hiLe
  have h1 := (h.below (hb.mono hhi)).cut s hs
  refine ⟨A2, n2, c2, rfl, hn2, ?_, ⟨_, _, _, h1⟩, ?_⟩
  · have hL := Lies.of_own ho
    rw [show ∀ u : Value, (w1.setCell ⟨g, 0, none⟩ u).heap.size = w1.heap.size from fun u => by simp [World.setCell]]
    refine hL.kept (grown_setCell w1 g 0 _) (Nat.le_refl _) (fun a ha e => ?_)
    subst ha
    have := (ho.lt a.block rfl).1
    injection e with e
    omega
  · have hg := grown_setCell w1 g 0 (.slice (if c = s then (some ⟨A0, off, none⟩) else (some ⟨A0, off + s, none⟩)) (n - s) (c - s))
    exact ⟨hb.os, hb.tape, hb.output, Nat.le_trans hb.size hg.size, fun k hk hne => (hg.block k (Nat.lt_of_lt_of_le hk hb.size) hne).trans (hb.block k hk)⟩

set_option maxRecDepth 100000 in
set_option maxHeartbeats 800000 in
theorem row_ok {w : World} {base hi g n c : Nat} {l row : List UInt8} {b off : Nat} (most : Int) (s : Nat) (hRd : RdAt w base hi g l 0 (some ⟨b, off, none⟩) n c) (hsn : s ≤ n) (_hs : s ≤ 9000000)
    (hr : Calls Try.prog 85 #[.slice (some ⟨b, off, none⟩) n c, .int .i64 most] w (GotRow w row s)) :
    Calls Try.prog 83 #[.pointer (some ⟨g, 0, none⟩), .int .i64 most] w (TookRow w base hi g row (l.drop s) 0) := by
  have hc0 := hRd.c0
  have hc1 := hRd.c1
  have hnc : n ≤ c := hRd.2.2.2.1
  have HR := Lib.hid hr
  clear hr
  go_enter Try.func83, Try.ntmps83
  go_wp2_with (first
    | (go_at_call 56; refine (silent_ok hRd).mono ?_; rintro e w' ⟨rfl, rfl⟩)
    | (go_at_call 85; refine HR.out.mono ?_; rintro e w1 ⟨A2, n2, c2, rfl, hn2, _, _, ho, hb⟩; have hc2 := (hRd.below (hb.mono hRd.hiLe)).c0; have hf2 := (hRd.below (hb.mono hRd.hiLe)).fr 0))
  all_goals
    have hT := gotRow_took hRd hsn hn2 ho hb
    go_ret
  · rw [if_pos ‹c = s›] at hT
    rw [show c - s = 0 by omega] at hT
    exact hT
  · rw [if_neg ‹¬ c = s›] at hT
    exact hT

theorem took_none {w w' : World} {base hi g er : Nat} {l : List UInt8} (hR : Rd w' base hi g l er) (hg : w.grownBy w' (some g)) : TookRow w base hi g [] l er (.returned (.slice none 0 0)) w' :=
  ⟨none, 0, 0, rfl, rfl, Lies.nil, hR, hg⟩

theorem row_any {w : World} {base hi g er : Nat} {l : List UInt8} (most : Int) (hmost : -9223372036854775808 ≤ most ∧ most ≤ 9223372036854775807) (h : Rd w base hi g l er) (hl : l.length ≤ 1000000) :
    Calls Try.prog 83 #[.pointer (some ⟨g, 0, none⟩), .int .i64 most] w (TookRow w base hi g (rowOf l er most).1 (rowOf l er most).2.1 (rowOf l er most).2.2) := by
  obtain ⟨A, n, c, h⟩ := h
  by_cases her : er = 0
  · subst her
    have hn : l.length = n := h.2.2.1.out
    have key : ∀ er, 0 < er → rrow l most = ([], 0, er) → (Calls Try.prog 85 #[.slice A n c, .int .i64 most] w fun e w' => e = .returned (.tuple #[.slice none 0 0, .int .i64 0, .int .i64 er]) ∧ w = w') →
        Calls Try.prog 83 #[.pointer (some ⟨g, 0, none⟩), .int .i64 most] w (TookRow w base hi g (rowOf l 0 most).1 (rowOf l 0 most).2.1 (rowOf l 0 most).2.2) := by
      intro er h1 h2 h3
      have e : rowOf l 0 most = ([], l, er) := by simp [rowOf, h2]; omega
      rw [e]
      refine (row_err most er h h1 h3).mono ?_
      rintro e w' ⟨rfl, rfl⟩
      exact took_none ⟨_, _, _, h.setErr er⟩ (grown_setCell _ _ _ _)
    rcases rd_err l top with h0 | h0
    · rcases hrd : rd l top with ⟨m, s, z⟩
      rw [hrd] at h0
      simp only at h0
      subst h0
      obtain ⟨hs0, hs1, hs9, _, c0, t, hl0, _⟩ := rd_size hrd
      by_cases hm : most.toNat < m
      · exact key 4 (by decide) (by simp [rrow, hrd, hm]) (readRow_long A _ n c m s most l w hn h.lies hrd hm hmost)
      · by_cases hsh : n - s < m
        · exact key 2 (by decide) (by simp [rrow, hrd, hm, hn, hsh]) (readRow_short A _ n c m s most l w hn h.lies hrd hm hsh (by omega) hmost)
        · obtain ⟨b, off, rfl, _⟩ := h.lies (by rw [hl0]; simp [bvs])
          have e : rowOf l 0 most = ((l.drop s).take m, l.drop (s + m), 0) := by simp [rowOf, rrow, hrd, hm, hn, hsh]
          rw [e]
          exact row_ok most (s + m) h (by omega) (by omega) (readRow_ok b off _ n c m s most l w hn h.lies hrd hm hsh (by omega) h.2.2.2.1 hmost)
    · have k2 : ∀ er, 0 < er → rd l top = (0, 0, er) → Calls Try.prog 83 #[.pointer (some ⟨g, 0, none⟩), .int .i64 most] w (TookRow w base hi g (rowOf l 0 most).1 (rowOf l 0 most).2.1 (rowOf l 0 most).2.2) :=
        fun er h1 h2 => key er h1 (by simp [rrow, h2]; omega) (readRow_bad A _ n c er most l w hn h.lies h2 h1)
      rcases h0 with h0 | h0 | h0
      · exact k2 2 (by decide) h0
      · exact k2 3 (by decide) h0
      · exact k2 6 (by decide) h0
  · have e : rowOf l er most = ([], l, er) := by simp [rowOf, her]
    rw [e]
    refine (row_bad most h (by omega)).mono ?_
    rintro e w' ⟨rfl, rfl⟩
    exact took_none ⟨A, n, c, h⟩ (World.grownBy.refl _ _)

theorem rowOf_put (r t : List UInt8) (most : Int) (h : r.length < 18446744073709551616) (hm : r.length ≤ most.toNat) : rowOf (row r ++ t) 0 most = (r, t, 0) := by
  have hrd : rd (enc r.length ++ (r ++ t)) top = (r.length, (enc r.length).length, 0) := rd_put r.length top (r ++ t) h (by rw [top_eq]; omega)
  have e : row r ++ t = enc r.length ++ (r ++ t) := by simp [row]
  rw [e]
  have hx : rrow (enc r.length ++ (r ++ t)) most = (r, (enc r.length).length + r.length, 0) := by
    unfold rrow
    rw [hrd]
    simp only [ne_eq, not_true_eq_false, if_false]
    rw [if_neg (by omega), if_neg (by simp), List.drop_left]
    simp
  unfold rowOf
  rw [hx]
  simp only [ne_eq, not_true_eq_false, if_false]
  rw [← List.append_assoc, show (enc r.length).length + r.length = (enc r.length ++ r).length by simp, List.drop_left]

theorem Rd.drew {w : World} {base hi g er : Nat} {l : List UInt8} (h : Rd w base hi g l er) : Rd w.drew base hi g l er := h

theorem encs_drop (ns : List Nat) (k : Nat) (h : k < ns.length) : encs (ns.drop k) = enc ns[k] ++ encs (ns.drop (k + 1)) := by
  rw [List.drop_eq_getElem_cons h]; rfl

theorem rows_drop (ls : List (List UInt8)) (k : Nat) (h : k < ls.length) : rows (ls.drop k) = row ls[k] ++ rows (ls.drop (k + 1)) := by
  rw [List.drop_eq_getElem_cons h]; rfl

theorem cell_kept {w w' : World} {g b o : Nat} {v : Value} (hg : w.grownBy w' (some g)) (hb : b < w.heap.size) (hne : b ≠ g) (hc : w.cell? ⟨b, o, none⟩ = some v) : w'.cell? ⟨b, o, none⟩ = some v :=
  (World.cell?_of_block (w := w) (hg.block b hb (by intro e; injection e with e; exact hne e))).trans hc

theorem strs_kept {w w' : World} {B g n : Nat} {A : Option Addr} {l : List UInt8} (hl : l.length = n) (h : Lies w B A (bvs l)) (hg : w.grownBy w' (some g)) (hB : B ≤ g) (hs : B ≤ w.heap.size) : Strs w' A n l :=
  strs_of hl (h.below (below_of_grown hg hB hs))

end Go.Proofs.Ytbfjfidodpgohaa

/- The document's Num; tables (picked). -/
namespace Go.Proofs.Ytbfjfidodpgohaa
open Go.RowKit

/-- What has been collected of n's digits when k are done, j being what is left of n. -/
def DigRel (w : World) (n j k : Nat) (v : Value) (wr : World) : Prop :=
  k ≤ (digs n).length ∧ j ≤ n ∧ digs j = (digs n).drop k ∧ wr.ownsRow w.heap.size 5 1 v k (bvs ((digs n).take k)) ∧ Below w.heap.size w wr

theorem DigRel.start (w : World) (n : Nat) : DigRel w n n 0 (.slice (some ⟨w.heap.size, 0, none⟩) 0 0) (w.alloc (.cells #[] 5)) :=
  ⟨Nat.zero_le _, Nat.le_refl _, by simp, World.ownsRow_lit w #[] 0 (Nat.le_refl _) (Nat.zero_le _) rfl, (Below.refl _ _).alloc (Nat.le_refl _) _⟩

theorem DigRel.step {w wr w2 : World} {n j k : Nat} {v v2 : Value} {o : Obj} (h : DigRel w n j k v wr) (hj0 : 0 < j)
    (hown : w2.ownsRow w.heap.size 5 1 v2 (k + 1) (bvs (List.take k (digs n)) ++ [Value.int IntKind.u8 (↑j % 256)])) (hb : Below w.heap.size (wr.alloc o) w2) :
    DigRel w n (j / 256) (k + 1) v2 w2 := by
  obtain ⟨hk1, hj, hdj, _, hbr⟩ := h
  rw [digs_pos hj0] at hdj
  obtain ⟨h1, h2, h3⟩ := take_step hdj
  refine ⟨h3, by omega, h2, ?_, (hbr.alloc hbr.size _).trans hb⟩
  rw [h1]
  rw [low_byte] at hown
  rw [bvs_append]
  exact hown

theorem DigRel.done {w wr w2 : World} {n j k : Nat} {v v2 : Value} {o : Obj} (h : DigRel w n j k v wr) (hk : k = (digs n).length) (h8 : (digs n).length ≤ 8)
    (hown : w2.ownsRow w.heap.size 5 1 v2 (1 + k) (#[Value.int IntKind.u8 (k : Int)].toList ++ bvs (List.take k (digs n)))) (hb : Below w.heap.size (wr.alloc o) w2) : Owned w w.heap.size (bvs (enc n)) (.returned v2) w2 := by
  obtain ⟨_, _, _, _, hbr⟩ := h
  subst hk
  refine Owned.of (n := 1 + (digs n).length) ?_ ((hbr.alloc hbr.size _).trans hb)
  rw [List.take_length, head_byte h8] at hown
  exact hown

set_option maxRecDepth 100000 in
set_option maxHeartbeats 800000 in
theorem refNum_any (n : Nat) (w : World) (hn : n < 18446744073709551616) : Calls Try.prog 30 #[.int .u64 n] w (Owned w w.heap.size (bvs (enc n))) := by
  obtain ⟨i0, hi, hz0, hz1, hz2⟩ := info_parts Try.info5
  have h8 := digs_le8 hn
  have HN := Lib.hid hn
  go_enter Try.func30, Try.ntmps30
  go_wp2
  have hS := DigRel.start w n
  go_loopw [0, 3] (fun m v wr => ∃ (j k : Nat), m = .int .u64 j ∧ DigRel w n j k v wr) (fun m _ _ => (intOf m).toNat)
  case atStart => exact ⟨n, 0, rfl, hS⟩
  case round =>
    obtain ⟨j, k, rfl, hR⟩ := hrel
    obtain ⟨hk1, hj, hdj, hownr, hbr⟩ := id hR
    have HD := Lib.hid hdj
    have HR := Lib.hid hR
    have hbs := hbr.size
    clear hdj hR hS
    by_cases hlt : 0 < j
    · go_wp2_with (at_builtin; refine wpList_append_lst rfl _ _ 22 rfl w.heap.size 5 i0 (.int .u8 0) 1 Try.underlying22 hi hz0 hz1 hz2 rfl _ _ _ rfl (hownr.alloc _) _ _ 1 _ _ rfl ?d0 (lies_new _ _ _) ?d1 ?d2 ?d3 ?d4 ?_)
      case d1 => rfl
      case d2 => unfold maxLen; omega
      case d3 => omega
      case d4 => simp; omega
      intro v2 w2 hown2 hg2 hb2 _
      go_wp2
      go_roundw
      case rel =>
        exact ⟨j / 256, k + 1, by go_num, HR.out.step hlt hown2 hb2⟩
      case measure => simp [intOf]; omega
    · have hkk : k = (digs n).length := by
        have hj0 : j = 0 := by omega
        have := HD.out
        rw [hj0, digs_zero] at this
        have h2 := congrArg List.length this
        simp at h2; omega
      obtain ⟨A1, c1, hv1, _, _⟩ := own_slice hownr
      subst hv1
      have HK := Lib.hid hkk
      clear hkk
      have hL := Lies.of_own hownr
      go_wp2_with (at_builtin; refine wpList_append_lst rfl _ _ 22 rfl w.heap.size 5 i0 (.int .u8 0) 1 Try.underlying22 hi hz0 hz1 hz2 rfl _ _ _ rfl (World.ownsRow_lit wr _ 1 hbs (by unfold maxLen; omega) rfl) _ A1 k c1 _ rfl ?e0 (hL.below ((Below.refl _ _).alloc (Nat.le_refl _) _)) ?e1 ?e2 ?e3 ?e4 ?_)
      case e0 => rw [bvs_length]; simp; omega
      case e1 => exact bvs_one _
      case e2 => unfold maxLen; omega
      case e3 => omega
      case e4 => simp; omega
      intro v2 w2 hown2 hg2 hb2 _
      go_wp2
      go_ret
      exact HR.out.done HK.out h8 hown2 hb2

/-- The slice that begins at A reads as xs, in a block that is there and is none of D. -/
def LiesD (w : World) (D : Nat → Prop) (A : Option Addr) (xs : List Value) : Prop :=
  xs ≠ [] → ∃ b off, A = some ⟨b, off, none⟩ ∧ b < w.heap.size ∧ ¬ D b ∧ ∀ i u, xs[i]? = some u → w.cell? ⟨b, off + i, none⟩ = some u

def BytD (w : World) (D : Nat → Prop) (v : Value) (l : List UInt8) : Prop := ∃ A n c, v = .slice A n c ∧ l.length = n ∧ n ≤ c ∧ c ≤ maxLen ∧ LiesD w D A (bvs l)

def RowsD (w : World) (D : Nat → Prop) (vs : List Value) (ls : List (List UInt8)) : Prop := vs.length = ls.length ∧ ∀ i, (h : i < vs.length) → (h' : i < ls.length) → BytD w D vs[i] ls[i]

/-- Only blocks of D, and new ones, have turned. -/
def OnlyD (w w' : World) (D : Nat → Prop) : Prop := w.heap.size ≤ w'.heap.size ∧ ∀ k, k < w.heap.size → ¬ D k → w'.heap[k]? = w.heap[k]?

theorem OnlyD.trans {a b c : World} {D : Nat → Prop} (h : OnlyD a b D) (k : OnlyD b c D) : OnlyD a c D :=
  ⟨Nat.le_trans h.1 k.1, fun i hi hn => (k.2 i (Nat.lt_of_lt_of_le hi h.1) hn).trans (h.2 i hi hn)⟩

theorem OnlyD.of_below {a b : World} {D : Nat → Prop} (h : Below a.heap.size a b) : OnlyD a b D := ⟨h.size, fun i hi _ => h.block i hi⟩

theorem OnlyD.of_grown {a b : World} {D : Nat → Prop} {q : Nat} (h : a.grownBy b (some q)) (hq : D q) : OnlyD a b D := ⟨h.size, fun i hi hn => h.block i hi (by rintro e; injection e with e; subst e; exact hn hq)⟩

section
variable {w w' : World} {D D' : Nat → Prop}

theorem LiesD.kept {A : Option Addr} {xs : List Value} (h : LiesD w D A xs) (ho : OnlyD w w' D) (hD : ∀ k, k < w.heap.size → D' k → D k) : LiesD w' D' A xs := fun hn => by
  obtain ⟨b, off, rfl, hlt, hnD, hc⟩ := h hn
  refine ⟨b, off, rfl, Nat.lt_of_lt_of_le hlt ho.1, fun h' => hnD (hD b hlt h'), fun i u hu => ?_⟩
  rw [World.cell?_of_block (w := w) (ho.2 b hlt hnD)]
  exact hc i u hu
theorem LiesD.lies {A : Option Addr} {xs : List Value} (h : LiesD w D A xs) : Lies w w.heap.size A xs := fun hn => by
  obtain ⟨b, off, rfl, hlt, _, hc⟩ := h hn
  exact ⟨b, off, rfl, hlt, hc⟩
theorem BytD.kept {v : Value} {l : List UInt8} (h : BytD w D v l) (ho : OnlyD w w' D) (hD : ∀ k, k < w.heap.size → D' k → D k) : BytD w' D' v l := by
  obtain ⟨A, n, c, rfl, h1, h2, h3, h4⟩ := h
  exact ⟨A, n, c, rfl, h1, h2, h3, h4.kept ho hD⟩
theorem RowsD.kept {vs : List Value} {ls : List (List UInt8)} (h : RowsD w D vs ls) (ho : OnlyD w w' D) (hD : ∀ k, k < w.heap.size → D' k → D k) : RowsD w' D' vs ls :=
  ⟨h.1, fun i h1 h2 => (h.2 i h1 h2).kept ho hD⟩
theorem RowsD.rows {vs : List Value} {ls : List (List UInt8)} (h : RowsD w D vs ls) : BytRows w w.heap.size vs ls :=
  ⟨h.1, fun i h1 h2 => by
    obtain ⟨A, n, c, e, k1, k2, k3, k4⟩ := h.2 i h1 h2
    exact ⟨A, n, c, e, k1, k2, k3, k4.lies⟩⟩
theorem RowsD.snoc {vs : List Value} {ls : List (List UInt8)} {v : Value} {l : List UInt8} (h : RowsD w D vs ls) (hv : BytD w D v l) : RowsD w D (vs ++ [v]) (ls ++ [l]) := by
  refine ⟨by simp [h.1], fun i h1 h2 => ?_⟩
  have hl := h.1
  by_cases hi : i < vs.length
  · rw [List.getElem_append_left hi, List.getElem_append_left (by omega)]
    exact h.2 i hi (by omega)
  · have hi' : i = vs.length := by simp at h1; omega
    subst hi'
    simp only [List.getElem_append_right (Nat.le_refl _), Nat.sub_self, List.getElem_cons_zero]
    rw [List.getElem_append_right (by omega)]
    simpa using hv
/-- A row that the call has just made. -/
theorem BytD.of_own {base n c : Nat} {A : Option Addr} {l : List UInt8} (ho : w.ownsRow base 5 1 (.slice A n c) n (bvs l)) (h1 : n ≤ c) (h2 : c ≤ maxLen) (hD : ∀ k, base ≤ k → k < w.heap.size → ¬ D k) : BytD w D (.slice A n c) l := by
  have hl := own_len ho
  rw [bvs_length] at hl
  refine ⟨A, n, c, rfl, hl, h1, h2, fun hn => ?_⟩
  obtain ⟨b, off, rfl, hlt, hc⟩ := Lies.of_own ho hn
  exact ⟨b, off, rfl, hlt, hD b (ho.lt b rfl).1 hlt, hc⟩
end

/-- The state of a table while rows are put behind it: it lies in block q; its rows lie neither there nor in p. -/
def Tab (w0 w : World) (base p q0 : Nat) (A : Option Addr) (n c : Nat) (ls : List (List UInt8)) : Prop :=
  ∃ vs q, w.ownsRow base 22 1 (.slice A n c) n vs ∧ (Value.slice A n c).ownBlock = some q ∧ (q = q0 ∨ w0.heap.size ≤ q) ∧ RowsD w (fun b => b = q ∨ b = p) vs ls ∧ OnlyD w0 w (fun b => b = q0) ∧ p < w0.heap.size ∧ base ≤ w.heap.size ∧ Hid (ls.length = n)

theorem Tab.step {w0 w w1 w3 : World} {base p q0 n c n1 c1 n3 c3 : Nat} {A A1 A3 : Option Addr} {ls : List (List UInt8)} {x : List UInt8} {o : Obj} {vs : List Value} {q : Nat}
    (h1 : w.ownsRow base 22 1 (.slice A n c) n vs) (h2 : (Value.slice A n c).ownBlock = some q) (h3 : q = q0 ∨ w0.heap.size ≤ q) (h4 : RowsD w (fun b => b = q ∨ b = p) vs ls) (h5 : OnlyD w0 w (fun b => b = q0)) (h6 : p < w0.heap.size) (h7 : base ≤ w.heap.size) (h8 : Hid (ls.length = n))
    (hx : w1.ownsRow w.heap.size 5 1 (.slice A1 n1 c1) n1 (bvs x)) (hc1 : n1 ≤ c1) (hc2 : c1 ≤ maxLen) (hb : Below w.heap.size w w1)
    (ho : w3.ownsRow base 22 1 (.slice A3 n3 c3) n3 (vs ++ [.slice A1 n1 c1])) (hn3 : n3 = n + 1) (hg : (w1.alloc o).grownBy w3 (Value.slice A n c).ownBlock) (hat : (Value.slice A3 n3 c3).ownBlock = (Value.slice A n c).ownBlock ∨ (Value.slice A3 n3 c3).ownBlock = some (w1.heap.size + 1)) :
    Tab w0 w3 base p q0 A3 n3 c3 (ls ++ [x]) := by
  rw [h2] at hg hat
  have hq := (h1.lt q h2).2
  have hs1 := hb.size
  have hsg := hg.size
  simp at hsg
  have hpw : p < w.heap.size := Nat.lt_of_lt_of_le h6 h5.1
  obtain ⟨q', hq', hqq⟩ : ∃ q', (Value.slice A3 n3 c3).ownBlock = some q' ∧ (q' = q ∨ q' = w1.heap.size + 1) := by
    rcases hat with hat | hat
    · exact ⟨q, hat, .inl rfl⟩
    · exact ⟨_, hat, .inr rfl⟩
  have hO1 : OnlyD w (w1.alloc o) (fun b => b = q ∨ b = p) := OnlyD.of_below (hb.alloc hs1 _)
  have hO2 : OnlyD (w1.alloc o) w3 (fun b => b = q ∨ b = p) := OnlyD.of_grown hg (.inl rfl)
  refine ⟨vs ++ [.slice A1 n1 c1], q', ho, hq', ?_, ?_, ?_, h6, by omega, ?_⟩
  · have := h5.1
    rcases hqq with rfl | rfl
    · exact h3
    · right; omega
  · refine RowsD.snoc (h4.kept (hO1.trans hO2) (fun k hk hD => ?_)) ?_
    · rcases hD with rfl | rfl
      · rcases hqq with h | h
        · exact .inl h
        · exfalso; omega
      · exact .inr rfl
    · have hB : BytD (w1.alloc o) (fun b => b = q ∨ b = p) (.slice A1 n1 c1) x := by
        refine BytD.of_own (base := w.heap.size) (hx.alloc o) hc1 hc2 (fun k hk hk2 => ?_)
        rintro (rfl | rfl) <;> omega
      obtain ⟨A', n', c', e, k1, k2, k3, k4⟩ := hB
      injection e with e1 e2 e3
      subst e1 e2 e3
      refine ⟨_, _, _, rfl, k1, k2, k3, fun hn => ?_⟩
      obtain ⟨b, off, rfl, hlt, hnD, hcell⟩ := k4 hn
      have hb2 := (hx.lt b rfl).2
      refine ⟨b, off, rfl, Nat.lt_of_lt_of_le hlt hO2.1, ?_, fun i u hu => ?_⟩
      · rintro (h | h)
        · rcases hqq with h' | h'
          · exact hnD (.inl (h.trans h'))
          · omega
        · exact hnD (.inr h)
      · rw [World.cell?_of_block (w := w1.alloc o) (hO2.2 b hlt hnD)]
        exact hcell i u hu
  · refine ⟨by have := h5.1; omega, fun k hk hne => ?_⟩
    have hkq : ¬ (k = q ∨ k = p) ∨ k = p ∧ k ≠ q := by
      by_cases hkp : k = p
      · right
        refine ⟨hkp, ?_⟩
        rcases h3 with h | h
        · rw [h]; exact hne
        · omega
      · left
        rintro (h | h)
        · rcases h3 with h' | h'
          · exact hne (h.trans h')
          · omega
        · exact hkp h
    have e1 : (w1.alloc o).heap[k]? = w.heap[k]? := (hb.alloc hs1 o).block k (by have := h5.1; omega)
    have hkne : k ≠ q := by
      rcases hkq with h | h
      · exact fun e => h (.inl e)
      · exact h.2
    have e2 : w3.heap[k]? = (w1.alloc o).heap[k]? := hg.block k (by simp; have := h5.1; omega) (by rintro e; injection e with e; exact hkne e)
    exact (e2.trans e1).trans (h5.2 k hk hne)
  · show (ls ++ [x]).length = n3
    have := h8.out
    simp [this, hn3]

theorem table_snoc {α : Type} (l : List UInt8) (f : α → List UInt8) (xs : List α) (k : Nat) (h : k < xs.length) : [l] ++ (xs.take (k + 1)).map f = ([l] ++ (xs.take k).map f) ++ [f xs[k]] := by
  rw [List.take_succ_eq_append_getElem h, List.map_append, List.append_assoc]; rfl

theorem own_onlyD {w w' : World} {D : Nat → Prop} {base : Nat} {e : TypeId} {v : Value} {n : Nat} {xs : List Value} (h : w.ownsRow base e 1 v n xs) (ho : OnlyD w w' D) (hD : ∀ q, v.ownBlock = some q → ¬ D q) : w'.ownsRow base e 1 v n xs := by
  refine ⟨h.1, ?_⟩
  rcases h.2 with hn | ⟨g, cap, cur, rfl, hbg, hg, rest⟩
  · exact .inl hn
  · exact .inr ⟨g, cap, cur, rfl, hbg, (ho.2 g (Array.getElem?_eq_some_iff.1 hg).1 (hD g rfl)).trans hg, rest⟩

/-- A table of one row, which came in. -/
theorem Tab.start {w w5 : World} {A0 : Option Addr} {n0 c0 q p : Nat} {l : List UInt8} (hb : Below w.heap.size w w5) (h0 : Lies w w.heap.size A0 (bvs l)) (hl : l.length = n0) (hc : n0 ≤ c0 ∧ c0 ≤ maxLen)
    (hq : w5.heap[q]? = some (.cells #[.slice A0 n0 c0] 22 (0, 0))) (hwq : w.heap.size ≤ q) (hwp : w.heap.size ≤ p) (hp : p < w5.heap.size) :
    Tab w5 w5 w.heap.size p q (some ⟨q, 0, none⟩) 1 1 [l] := by
  refine ⟨[.slice A0 n0 c0], q, ⟨rfl, .inr ⟨q, 1, _, rfl, hwq, hq, Nat.le_refl _, by unfold maxLen; omega, rfl, rfl⟩⟩, rfl, .inl rfl, ⟨rfl, ?_⟩, ⟨Nat.le_refl _, fun _ _ _ => rfl⟩, hp, by omega, rfl⟩
  intro i h1 h2
  simp at h1
  subst h1
  refine ⟨A0, n0, c0, rfl, hl, hc.1, hc.2, fun hn => ?_⟩
  obtain ⟨b, off, rfl, hlt, hcell⟩ := (h0.below hb) hn
  exact ⟨b, off, rfl, Nat.lt_of_lt_of_le hlt hb.size, by rintro (h | h) <;> omega, hcell⟩

/-- The other table, when the first has been filled. -/
theorem Tab.other {w5 w6 : World} {base q p q1 : Nat} {A : Option Addr} {n c : Nat} {ls : List (List UInt8)} (h : Tab w5 w5 base p q A n c ls) (ho : OnlyD w5 w6 (fun b => b = p)) (hqp : q ≠ p) (hq : (Value.slice A n c).ownBlock = some q) (hq1 : q1 = p ∨ w5.heap.size ≤ q1) (hlt : q1 < w6.heap.size) : Tab w6 w6 base q1 q A n c ls := by
  obtain ⟨vs, q', h1, h2, h3, h4, h5, h6, h7, h8⟩ := h
  have hqq : q' = q := by rw [h2] at hq; injection hq
  subst hqq
  have hb : base ≤ w6.heap.size := Nat.le_trans h7 ho.1
  refine ⟨vs, q', own_onlyD h1 ho (fun k hk => ?_), h2, .inl rfl, ?_, ⟨Nat.le_refl _, fun _ _ _ => rfl⟩, hlt, hb, h8⟩
  · rw [h2] at hk
    injection hk with hk
    subst hk
    exact hqp
  · have ho' : OnlyD w5 w6 (fun b => b = q' ∨ b = p) := ⟨ho.1, fun k hk hn => ho.2 k hk (fun e => hn (.inr e))⟩
    refine h4.kept ho' (fun k hk hD => ?_)
    rcases hD with rfl | rfl
    · exact .inl rfl
    · rcases hq1 with h | h
      · exact .inr h
      · omega

theorem lies_front {w : World} {B : Nat} {A : Option Addr} {l t : List UInt8} (h : Lies w B A (bvs (l ++ t))) : Lies w B A (bvs l) := fun hn => by
  obtain ⟨b, off, e, hb, hc⟩ := h (by intro h0; apply hn; rw [bvs_append] at h0; exact (List.append_eq_nil_iff.1 h0).1)
  refine ⟨b, off, e, hb, fun i u hu => hc i u ?_⟩
  rw [bvs_append]
  obtain ⟨hi, _⟩ := List.getElem?_eq_some_iff.1 hu
  rw [List.getElem?_append_left hi]
  exact hu

theorem join_nums (l : List UInt8) (ns : List Nat) : ([l] ++ ns.map enc).flatten = l ++ encs ns := by
  have h : ∀ ns : List Nat, (ns.map enc).flatten = encs ns := fun ns => by
    induction ns with
    | nil => rfl
    | cons x t ih => rw [List.map_cons, List.flatten_cons, ih]; rfl
  rw [List.flatten_append, h]; simp

theorem join_rows (l : List UInt8) (ls : List (List UInt8)) : ([l] ++ ls.map row).flatten = l ++ rows ls := by
  have h : ∀ ls : List (List UInt8), (ls.map row).flatten = rows ls := fun ls => by
    induction ls with
    | nil => rfl
    | cons x t ih => rw [List.map_cons, List.flatten_cons, ih]; rfl
  rw [List.flatten_append, h]; simp

theorem small_nums {l : List UInt8} {ns : List Nat} (hl : l.length ≤ 300) (hns : ∀ x ∈ ns, x < 18446744073709551616) : ∀ x ∈ [l] ++ ns.map enc, x.length ≤ 1000 := by
  intro x hx
  rw [List.mem_append] at hx
  rcases hx with hx | hx
  · simp at hx; subst hx; omega
  · obtain ⟨y, hy, rfl⟩ := List.mem_map.1 hx
    have := enc_len (hns y hy); omega

theorem small_rows {l : List UInt8} {ls : List (List UInt8)} (hl : l.length ≤ 300) (hls : ∀ x ∈ ls, x.length ≤ 300) : ∀ x ∈ [l] ++ ls.map row, x.length ≤ 1000 := by
  intro x hx
  rw [List.mem_append] at hx
  rcases hx with hx | hx
  · simp at hx; subst hx; omega
  · obtain ⟨y, hy, rfl⟩ := List.mem_map.1 hx
    have h1 := hls y hy
    have := enc_len (n := y.length) (by omega)
    simp [row]; omega

/-- What NumPuts holds of the world behind both calls. -/
def PutsEnd (w wx : World) (l : List UInt8) (ns : List Nat) (ls : List (List UInt8)) (x y : Value) (A0 : Option Addr) (n0 c0 g4 c4 : Nat) (A1 : Option Addr) (k1 : Nat) (A5 : Option Addr) (k5 : Nat) : Prop :=
  ∃ Ax nx cx Ay ny cy vs1 vs2, x = .slice Ax nx cx ∧ y = .slice Ay ny cy ∧ KeepS wx Ax nx cx (l ++ encs ns) ∧ KeepS wx Ay ny cy (l ++ rows ls) ∧ KeepS wx A0 n0 c0 l ∧ KeepS wx (some ⟨g4, 0, none⟩) n0 c4 l ∧
    (∀ W, Below wx.heap.size wx W → W.cell? ⟨g4, n0, none⟩ = some (.int .u8 7)) ∧ Lies wx wx.heap.size A1 vs1 ∧ BytRows wx wx.heap.size vs1 ([l] ++ ns.map enc) ∧ Hid (vs1.length = k1) ∧ Lies wx wx.heap.size A5 vs2 ∧ BytRows wx wx.heap.size vs2 ([l] ++ ls.map row) ∧ Hid (vs2.length = k5) ∧ Below w.heap.size w wx

theorem Try.info22 : (Try.prog.info? 22).map (fun i => (i.zero, i.size, i.bytes)) = some (some (.slice none 0 0), 1, 24) := by kernel_rfl

end Go.Proofs.Ytbfjfidodpgohaa

/- The document's reader: Num (picked). -/
namespace Go.Proofs.Ytbfjfidodpgohaa
open Go.RowKit

/-- The answer of the reference's Num: a number, and the reader behind it. -/
def RNum (w : World) (B : Nat) (m : Nat) (l : List UInt8) (er : Nat) (e : Ending) (w' : World) : Prop :=
  ∃ A n c, e = .returned (.tuple #[.int .u64 m, .agg #[.slice A n c, .int .i64 er]]) ∧ Hid (l.length = n) ∧ n ≤ c ∧ Lies w' B A (bvs l) ∧ Below w.heap.size w w' ∧ (er = 0 → ∃ b off, A = some ⟨b, off, none⟩)

theorem RNum.of {w : World} {B m er n c : Nat} {A : Option Addr} {l : List UInt8} {o1 o2 : Obj} (hl : Hid (l.length = n)) (hnc : n ≤ c) (h : Lies w B A (bvs l)) (hB : B ≤ w.heap.size) (h0 : er ≠ 0) :
    RNum w B m l er (.returned (.tuple #[.int .u64 m, .agg #[.slice A n c, .int .i64 er]])) ((w.alloc o1).alloc o2).drew := by
  have hb : Below w.heap.size w ((w.alloc o1).alloc o2).drew := (((Below.refl _ _).alloc (Nat.le_refl _) _).alloc (by simp) _).drew
  exact ⟨A, n, c, rfl, hl, hnc, h.below (hb.mono hB), hb, fun e => absurd e h0⟩

set_option maxRecDepth 100000 in
set_option maxHeartbeats 400000 in
theorem refRNum_bad (A : Option Addr) (B n c er most : Nat) (l : List UInt8) (w : World) (hl : l.length = n) (hnc : n ≤ c) (h : Lies w B A (bvs l)) (hB : B ≤ w.heap.size) (her : 0 < er) :
    Calls Try.prog 23 #[.agg #[.slice A n c, .int .i64 er], .int .u64 most] w (RNum w B 0 l er) := by
  have HL := Lib.hid hl
  have hne : ((er : Int) != 0) = true := by simp; omega
  clear hl
  go_enter Try.func23, Try.ntmps23
  go_wp2
  go_region
  all_goals
    go_wp2
    exact bodyPost_ret (v := .tuple #[.int .u64 0, .agg #[.slice A n c, .int .i64 er]]) (by simp [results, Try.results23, go_sem]) rfl (RNum.of HL hnc h hB (by omega))

set_option maxRecDepth 100000 in
set_option maxHeartbeats 400000 in
theorem refRNum_empty (A : Option Addr) (B c most : Nat) (w : World) (h : Lies w B A (bvs [])) (hB : B ≤ w.heap.size) :
    Calls Try.prog 23 #[.agg #[.slice A 0 c, .int .i64 0], .int .u64 most] w (RNum w B 0 [] 2) := by
  go_enter Try.func23, Try.ntmps23
  go_wp2
  go_region
  all_goals
    go_wp2
    exact bodyPost_ret (v := .tuple #[.int .u64 0, .agg #[.slice A 0 c, .int .i64 2]]) (by simp [results, Try.results23, go_sem]) rfl (RNum.of rfl (Nat.zero_le _) h hB (by decide))

set_option maxRecDepth 100000 in
set_option maxHeartbeats 400000 in
theorem refRNum_eight (b off B n c most : Nat) (k : UInt8) (t : List UInt8) (w : World) (hl : (k :: t).length = n) (hnc : n ≤ c) (h : Lies w B (some ⟨b, off, none⟩) (bvs (k :: t))) (hB : B ≤ w.heap.size) (hb : b < w.heap.size) (hc : w.cell? ⟨b, off, none⟩ = some (.int .u8 k.toNat)) (h8 : 8 < k.toNat) :
    Calls Try.prog 23 #[.agg #[.slice (some ⟨b, off, none⟩) n c, .int .i64 0], .int .u64 most] w (RNum w B 0 (k :: t) 3) := by
  have HL := Lib.hid hl
  have hn0 : 0 < n := by rw [← hl]; simp
  have h0 : ((n : Int) == 0) = false := by simp; omega
  have hk256 : k.toNat < 256 := k.toNat_lt
  clear hl
  go_enter Try.func23, Try.ntmps23
  go_wp2
  go_region
  all_goals
    go_wp2
    exact bodyPost_ret (v := .tuple #[.int .u64 0, .agg #[.slice (some ⟨b, off, none⟩) n c, .int .i64 3]]) (by simp [results, Try.results23, go_sem]) rfl (RNum.of HL hnc h hB (by decide))

set_option maxRecDepth 100000 in
set_option maxHeartbeats 400000 in
theorem refRNum_short (b off B n c most : Nat) (k : UInt8) (t : List UInt8) (w : World) (hl : (k :: t).length = n) (hnc : n ≤ c) (h : Lies w B (some ⟨b, off, none⟩) (bvs (k :: t))) (hB : B ≤ w.heap.size) (hb : b < w.heap.size) (hc : w.cell? ⟨b, off, none⟩ = some (.int .u8 k.toNat)) (h8 : ¬ 8 < k.toNat) (hs : t.length < k.toNat) :
    Calls Try.prog 23 #[.agg #[.slice (some ⟨b, off, none⟩) n c, .int .i64 0], .int .u64 most] w (RNum w B 0 (k :: t) 2) := by
  have HL := Lib.hid hl
  have hn0 : 0 < n := by rw [← hl]; simp
  have h0 : ((n : Int) == 0) = false := by simp; omega
  have hk256 : k.toNat < 256 := k.toNat_lt
  have hs2 : (n : Int) - 1 < (k.toNat : Int) := by rw [← hl]; simp; omega
  have hn9 : n ≤ 9 := by rw [← hl]; simp; omega
  clear hl hs
  go_enter Try.func23, Try.ntmps23
  go_wp2
  go_region
  all_goals
    go_wp2
    exact bodyPost_ret (v := .tuple #[.int .u64 0, .agg #[.slice (some ⟨b, off, none⟩) n c, .int .i64 2]]) (by simp [results, Try.results23, go_sem]) rfl (RNum.of HL hnc h hB (by decide))

theorem str_toList (l : List UInt8) : (str l).toList = l := by rw [ByteArray.toList_eq]; rfl

theorem str_same {a b : List UInt8} (h : a = b) : (!((str a).toList == (str b).toList)) = false := by subst h; simp

theorem str_other {a b : List UInt8} (h : a ≠ b) : (!((str a).toList == (str b).toList)) = true := by
  rw [str_toList, str_toList]
  simpa using h

theorem rnum_form (k : UInt8) (t : List UInt8) (most : Nat) (h8 : ¬ 8 < k.toNat) (hkt : k.toNat ≤ t.length) (hz : 0 < k.toNat ∧ (t[k.toNat - 1]?.getD 0) = 0) : rnum (k :: t) 0 most = (0, k :: t, 3) := by
  have : rd (k :: t) most = (0, 0, 3) := by simp only [rd]; rw [if_neg h8, if_neg (by omega), if_pos hz]
  simp [rnum, this]

theorem rnum_range (k : UInt8) (t : List UInt8) (most : Nat) (h8 : ¬ 8 < k.toNat) (hkt : k.toNat ≤ t.length) (hz : ¬ (0 < k.toNat ∧ (t[k.toNat - 1]?.getD 0) = 0)) (hm : most < val (t.take k.toNat)) : rnum (k :: t) 0 most = (0, k :: t, 6) := by
  have := rd_range k t most h8 (by omega) hz hm
  simp [rnum, this]

theorem rnum_ok (k : UInt8) (t : List UInt8) (most : Nat) (h8 : ¬ 8 < k.toNat) (hkt : k.toNat ≤ t.length) (hz : ¬ (0 < k.toNat ∧ (t[k.toNat - 1]?.getD 0) = 0)) (hm : ¬ most < val (t.take k.toNat)) : rnum (k :: t) 0 most = (val (t.take k.toNat), (k :: t).drop (k.toNat + 1), 0) := by
  have := rd_ok k t most h8 (by omega) hz hm
  simp [rnum, this, Nat.add_comm]

theorem val_u64 (l : List UInt8) (h : l.length ≤ 8) : val l < 18446744073709551616 := by
  have h1 := val_lt l
  have h2 : 256 ^ l.length ≤ 256 ^ 8 := Nat.pow_le_pow_right (by decide) h
  have h3 : (256 : Nat) ^ 8 = 18446744073709551616 := by decide
  omega

theorem mul_step (t : List UInt8) (c k : Nat) (hc : c ≤ 8) (hct : c ≤ t.length) (hk : k ≤ c) (h0 : 0 < k) (hkt : k - 1 < t.length) :
    IntKind.u64.wrap (IntKind.u64.wrap (256 * (val (List.drop k (List.take c t)) : Int)) + IntKind.u64.wrap (t[k - 1].toNat : Int)) = ((val (List.drop (k - 1) (List.take c t)) : Nat) : Int) := by
  have h1 := val_small (List.drop k (List.take c t)) (by simp; omega)
  have h2 := (t[k - 1]).toNat_lt
  rw [val_drop (List.take c t) (k - 1) (by simp; omega), List.getElem_take, show k - 1 + 1 = k by omega]
  rw [wrap_u64, wrap_u64, wrap_u64]
  omega

/-- The writing is the number's own just if its last byte isn't 0. -/
theorem enc_own (k : UInt8) (t : List UInt8) (hkt : k.toNat ≤ t.length) : enc (val (t.take k.toNat)) = k :: t.take k.toNat ↔ ¬ (0 < k.toNat ∧ (t[k.toNat - 1]?.getD 0) = 0) := by
  constructor
  · rintro h ⟨h0, h1⟩
    have h2 : digs (val (t.take k.toNat)) = t.take k.toNat := by injection h
    have h3 : (t.take k.toNat).getLast? = t[k.toNat - 1]? := by
      rw [List.getLast?_eq_getElem?, List.length_take, Nat.min_eq_left hkt, List.getElem?_take, if_pos (by omega)]
    rcases hx : t[k.toNat - 1]? with _ | x
    · rw [List.getElem?_eq_none_iff] at hx; omega
    · rw [hx] at h1
      exact getLast_digs _ x (by rw [h2, h3, hx]) h1
  · intro hz
    have hd : digs (val (t.take k.toNat)) = t.take k.toNat := by
      apply digs_val
      intro x hx hx0
      subst hx0
      rw [List.getLast?_eq_getElem?, List.length_take, Nat.min_eq_left hkt] at hx
      rcases Nat.eq_zero_or_pos k.toNat with h0 | h0
      · rw [h0] at hx; simp at hx
      · rw [List.getElem?_take, if_pos (by omega)] at hx
        exact hz ⟨h0, by rw [hx]; rfl⟩
    rw [enc, hd, List.length_take, Nat.min_eq_left hkt]
    simp

/-- Two blocks of two cells that the call has just made, in a later world. -/
theorem two_blocks {w w7 : World} {x y u v : Value} {T : TypeId} (hb : Below ((w.alloc (.cells #[x, y] T)).alloc (.cells #[u, v] T)).drew.heap.size ((w.alloc (.cells #[x, y] T)).alloc (.cells #[u, v] T)).drew w7) :
    w7.heap[w.heap.size]? = some (.cells #[x, y] T (0, 0)) ∧ w7.heap[w.heap.size + 1]? = some (.cells #[u, v] T (0, 0)) ∧ w.heap.size + 1 < w7.heap.size := by
  have hs : ((w.alloc (.cells #[x, y] T)).alloc (.cells #[u, v] T)).drew.heap.size = w.heap.size + 2 := by
    show ((w.alloc (.cells #[x, y] T)).alloc (.cells #[u, v] T)).heap.size = _
    simp
  refine ⟨?_, ?_, by have := hb.size; omega⟩
  · refine (hb.block _ (by omega)).trans ?_
    show ((w.alloc (.cells #[x, y] T)).alloc (.cells #[u, v] T)).heap[w.heap.size]? = _
    rw [Below.heap_alloc _ _ _ (by simp)]
    exact heap_alloc_new w _
  · refine (hb.block _ (by omega)).trans ?_
    show ((w.alloc (.cells #[x, y] T)).alloc (.cells #[u, v] T)).heap[w.heap.size + 1]? = _
    have := heap_alloc_new (w.alloc (.cells #[x, y] T)) (.cells #[u, v] T)
    simpa using this

theorem row_frozen {w : World} {g : Nat} {cs : Array Value} {t : TypeId} (h : w.heap[g]? = some (.cells cs t (0, 0))) (i : Nat) : w.frozen? ⟨g, i, none⟩ = false := by
  simp [World.frozen?, h]

set_option maxRecDepth 100000 in
set_option maxHeartbeats 1600000 in
theorem refRNum_long (b off B n c most : Nat) (k : UInt8) (t : List UInt8) (w : World) (hl : (k :: t).length = n) (hnc : n ≤ c) (hLs : Lies w B (some ⟨b, off, none⟩) (bvs (k :: t))) (hB : B ≤ w.heap.size) (hb : b < w.heap.size) (hc : w.cell? ⟨b, off, none⟩ = some (.int .u8 k.toNat))
    (hct : ∀ i, (h : i < t.length) → w.cell? ⟨b, off + (i + 1), none⟩ = some (.int .u8 t[i].toNat)) (h8 : ¬ 8 < k.toNat) (hs : ¬ t.length < k.toNat) (hn : n ≤ 1000000) :
    Calls Try.prog 23 #[.agg #[.slice (some ⟨b, off, none⟩) n c, .int .i64 0], .int .u64 most] w (RNum w B (rnum (k :: t) 0 most).1 (rnum (k :: t) 0 most).2.1 (rnum (k :: t) 0 most).2.2) := by
  have HL := Lib.hid hl
  have HC := Lib.hid hct
  have hn0 : 0 < n := by rw [← hl]; simp
  have h0 : ((n : Int) == 0) = false := by simp; omega
  have hk256 : k.toNat < 256 := k.toNat_lt
  have hs2 : ¬ (n : Int) - 1 < (k.toNat : Int) := by rw [← hl]; simp; omega
  have hd8 : decide (8 < (k.toNat : Int)) = false := by simp; omega
  have hds : decide ((n : Int) - 1 < (k.toNat : Int)) = false := by simp only [decide_eq_false_iff_not]; exact hs2
  have hkt : k.toNat ≤ t.length := by omega
  clear hl hs hct
  go_enter Try.func23, Try.ntmps23
  go_wp2
  go_loop [7, 8] (fun m i => ∃ j : Nat, j ≤ k.toNat ∧ i = .int .i64 j ∧ m = .int .u64 (val ((t.take k.toNat).drop j))) (fun _ i => (intOf i).toNat)
  case atStart => exact ⟨k.toNat, Nat.le_refl _, by go_num, by rw [List.drop_of_length_le (by simp; omega)]; rfl⟩
  case round =>
    obtain ⟨j, hj, rfl, rfl⟩ := hrel
    by_cases hlt : 0 < j
    · have hx := HC.out (j - 1) (by omega)
      rw [show j - 1 + 1 = j by omega] at hx
      have hjn : j < n := by have := HL.out; simp at this; omega
      go_wp2
      go_round
      case rel => exact ⟨j - 1, by omega, by go_num, congrArg _ (mul_step t k.toNat j (by omega) hkt hj hlt (by omega))⟩
      case measure => simp [intOf]; omega
    · have hj0 : j = 0 := by omega
      subst hj0
      rw [List.drop_zero]
      have HV : Hid (val (t.take k.toNat) < 18446744073709551616) := val_u64 _ (by simp; omega)
      have kS : KeepS w (some ⟨b, off, none⟩) (k.toNat + 1) c (k :: t.take k.toNat) := keepS_of (by simp; omega) (lies_front (t := t.drop k.toNat) (by simpa using hLs.more hB))
      unfold KeepS at kS
      have hbd : Below w.heap.size w ((w.alloc (.cells #[.slice (some ⟨b, off, none⟩) n c, .int .i64 0] 59)).alloc (.cells #[.slice none 0 0, .int .i64 0] 59)).drew := (((Below.refl _ _).alloc (Nat.le_refl _) _).alloc (by simp) _).drew
      generalize hV : val (t.take k.toNat) = V at HV
      have HVE := Lib.hid hV
      clear hV
      have hkc : (k.toNat : Int) + 1 ≤ (c : Int) := by have := HL.out; simp at this; omega
      have g1 : IntKind.i64.wrap ((k.toNat : Int) + 1) = (k.toNat : Int) + 1 := IntWalk.i64_in _ (by omega)
      have g2 : (0 : Int) ≤ (k.toNat : Int) + 1 := by omega
      have g3 : ((k.toNat : Int) + 1).toNat = k.toNat + 1 := by omega
      obtain ⟨bz, hbz⟩ : ∃ bz : Bool, (!((str (enc V)).toList == (str (k :: t.take k.toNat)).toList)) = bz := ⟨_, rfl⟩
      have HBZ := Lib.hid hbz
      clear hbz
      go_upto_region 18 with fail
      go_cut [59] from 50 to 58 (fun s59 wx => s59 = .bool bz ∧ wx.heap[w.heap.size]? = some (.cells #[.slice (some ⟨b, off, none⟩) n c, .int .i64 0] 59 (0, 0)) ∧
        wx.heap[w.heap.size + 1]? = some (.cells #[.slice none 0 0, .int .i64 0] 59 (0, 0)) ∧ Below w.heap.size w wx)
      case first =>
        go_region_with (go_at_call 30; refine (refNum_any V _ HV.out).mono ?_; intro e w7 ho7; obtain ⟨A7, n7, c7, rfl, hs7, hb7⟩ := put_str ho7; clear ho7; unfold Strs at hs7; have hbJ := hbd.trans (hb7.mono hbd.size); obtain ⟨q1, q2, q3⟩ := two_blocks hb7; have p0 := cell_of_row w7 w.heap.size 0 _ _ _ q1; have p1 := cell_of_row w7 w.heap.size 1 _ _ _ q1; simp only [List.getElem?_toArray, List.getElem?_cons_zero, List.getElem?_cons_succ] at p0 p1; have Q1 := Lib.hid q1; have Q2 := Lib.hid q2; clear q1 q2)
        all_goals
          go_wp2_with fail
          go_meet
          exact ⟨congrArg Value.bool HBZ.out, Q1.out, Q2.out, hbJ⟩
      case rest =>
        obtain ⟨rfl, q1, q2, hbJ⟩ := hcut
        clear g1 g2 g3 hbd kS
        have p0 := cell_of_row wc w.heap.size 0 _ _ _ q1
        have p1 := cell_of_row wc w.heap.size 1 _ _ _ q1
        have r0 := cell_of_row wc (w.heap.size + 1) 0 _ _ _ q2
        have r1 := cell_of_row wc (w.heap.size + 1) 1 _ _ _ q2
        simp only [List.getElem?_toArray, List.getElem?_cons_zero, List.getElem?_cons_succ] at p0 p1 r0 r1
        have f0 := row_frozen q1 0
        have f1 := row_frozen q1 1
        have f2 := row_frozen q2 0
        have f3 := row_frozen q2 1
        clear q1 q2
        by_cases hz : 0 < k.toNat ∧ (t[k.toNat - 1]?.getD 0) = 0
        · have hT : bz = true := HBZ.out.symm.trans (str_other (fun e => (enc_own k t hkt).1 (by rw [HVE.out]; exact e) hz))
          subst hT
          have HRN : Hid (rnum (k :: t) 0 most = (0, k :: t, 3)) := rnum_form k t most h8 hkt hz
          go_wp2
          go_region
          all_goals
            go_wp2
            refine bodyPost_ret (v := .tuple #[.int .u64 0, .agg #[.slice (some ⟨b, off, none⟩) n c, .int .i64 3]]) (by simp [results, Try.results23, go_sem, r0, r1]) rfl ?_
            rw [HRN.out]
            have hbE := (((hbJ.setCell (p := ⟨w.heap.size, 1, none⟩) (Nat.le_refl _) (.int .i64 3)).setCell (p := ⟨w.heap.size + 1, 0, none⟩) (Nat.le_succ _) (.slice (some ⟨b, off, none⟩) n c)).setCell (p := ⟨w.heap.size + 1, 1, none⟩) (Nat.le_succ _) (.int .i64 3)).drew
            exact ⟨_, _, _, rfl, HL, hnc, hLs.below (hbE.mono hB), hbE, fun e => by cases e⟩
        · have hT : bz = false := HBZ.out.symm.trans (str_same (by rw [← HVE.out]; exact (enc_own k t hkt).2 hz))
          subst hT
          by_cases hm : most < V
          · have HRN : Hid (rnum (k :: t) 0 most = (0, k :: t, 6)) := rnum_range k t most h8 hkt hz (by rw [HVE.out]; exact hm)
            go_wp2
            go_region
            all_goals
              go_wp2
              refine bodyPost_ret (v := .tuple #[.int .u64 0, .agg #[.slice (some ⟨b, off, none⟩) n c, .int .i64 6]]) (by simp [results, Try.results23, go_sem, r0, r1]) rfl ?_
              rw [HRN.out]
              have hbE := (((hbJ.setCell (p := ⟨w.heap.size, 1, none⟩) (Nat.le_refl _) (.int .i64 6)).setCell (p := ⟨w.heap.size + 1, 0, none⟩) (Nat.le_succ _) (.slice (some ⟨b, off, none⟩) n c)).setCell (p := ⟨w.heap.size + 1, 1, none⟩) (Nat.le_succ _) (.int .i64 6)).drew
              exact ⟨_, _, _, rfl, HL, hnc, hLs.below (hbE.mono hB), hbE, fun e => by cases e⟩
          · have HRN : Hid (rnum (k :: t) 0 most = (V, (k :: t).drop (k.toNat + 1), 0)) := by
              have := rnum_ok k t most h8 hkt hz (by rw [HVE.out]; exact hm)
              rw [HVE.out] at this
              exact this
            have hkn : (k.toNat : Int) + 1 ≤ (n : Int) := by have := HL.out; simp at this; omega
            have HCUT := Lib.hid (lies_cut (s := k.toNat + 1) (c := c) hLs (by rw [HL.out]; exact hnc))
            have HD : Hid (((k :: t).drop (k.toNat + 1)).length = n - (k.toNat + 1)) := by show _ = _; rw [List.length_drop, HL.out]
            go_wp2
            all_goals go_region
            all_goals go_wp2
            · have hck : c = k.toNat + 1 := by omega
              refine bodyPost_ret (v := .tuple #[.int .u64 V, .agg #[.slice (some ⟨b, off, none⟩) (n - (k.toNat + 1)) 0, .int .i64 0]]) (by simp [results, Try.results23, go_sem, r0, r1]) rfl ?_
              rw [HRN.out]
              have hbE := (((hbJ.setCell (p := ⟨w.heap.size, 0, none⟩) (Nat.le_refl _) (.slice (some ⟨b, off, none⟩) (n - (k.toNat + 1)) 0)).setCell (p := ⟨w.heap.size + 1, 0, none⟩) (Nat.le_succ _) (.slice (some ⟨b, off, none⟩) (n - (k.toNat + 1)) 0)).setCell (p := ⟨w.heap.size + 1, 1, none⟩) (Nat.le_succ _) (.int .i64 0)).drew
              have hcut := HCUT.out
              rw [if_pos hck] at hcut
              exact ⟨_, _, _, rfl, HD, by omega, hcut.below (hbE.mono hB), hbE, fun _ => ⟨_, _, rfl⟩⟩
            · refine bodyPost_ret (v := .tuple #[.int .u64 V, .agg #[.slice (some ⟨b, off + (k.toNat + 1), none⟩) (n - (k.toNat + 1)) (c - (k.toNat + 1)), .int .i64 0]]) (by simp [results, Try.results23, go_sem, r0, r1]) rfl ?_
              rw [HRN.out]
              have hbE := (((hbJ.setCell (p := ⟨w.heap.size, 0, none⟩) (Nat.le_refl _) (.slice (some ⟨b, off + (k.toNat + 1), none⟩) (n - (k.toNat + 1)) (c - (k.toNat + 1)))).setCell (p := ⟨w.heap.size + 1, 0, none⟩) (Nat.le_succ _) (.slice (some ⟨b, off + (k.toNat + 1), none⟩) (n - (k.toNat + 1)) (c - (k.toNat + 1)))).setCell (p := ⟨w.heap.size + 1, 1, none⟩) (Nat.le_succ _) (.int .i64 0)).drew
              have hcut := HCUT.out
              rw [if_neg (by omega)] at hcut
              exact ⟨_, _, _, rfl, HD, by omega, hcut.below (hbE.mono hB), hbE, fun _ => ⟨_, _, rfl⟩⟩

theorem refRNum_any (A : Option Addr) (B n c er most : Nat) (l : List UInt8) (w : World) (hl : l.length = n) (hnc : n ≤ c) (h : Lies w B A (bvs l)) (hB : B ≤ w.heap.size) (hn : n ≤ 1000000) :
    Calls Try.prog 23 #[.agg #[.slice A n c, .int .i64 er], .int .u64 most] w (RNum w B (rnum l er most).1 (rnum l er most).2.1 (rnum l er most).2.2) := by
  by_cases her : er = 0
  · subst her
    rcases l with _ | ⟨k, t⟩
    · simp at hl; subst hl
      exact refRNum_empty A B c most w h hB
    · obtain ⟨b, off, rfl, hb, hc⟩ := h (by simp [bvs])
      have hc0 : w.cell? ⟨b, off, none⟩ = some (.int .u8 k.toNat) := hc 0 _ (by simp [bvs, bv])
      have hct : ∀ i, (h : i < t.length) → w.cell? ⟨b, off + (i + 1), none⟩ = some (.int .u8 t[i].toNat) := fun i hi => hc (i + 1) _ (by simp [bvs, bv, hi])
      by_cases h8 : 8 < k.toNat
      · have e : rnum (k :: t) 0 most = (0, k :: t, 3) := by simp [rnum, rd, h8]
        rw [e]
        exact refRNum_eight b off B n c most k t w hl hnc h hB (by omega) hc0 h8
      · by_cases hs : t.length < k.toNat
        · have e : rnum (k :: t) 0 most = (0, k :: t, 2) := by simp [rnum, rd, h8, hs]
          rw [e]
          exact refRNum_short b off B n c most k t w hl hnc h hB (by omega) hc0 h8 hs
        · exact refRNum_long b off B n c most k t w hl hnc h hB (by omega) hc0 hct h8 hs hn
  · have e : rnum l er most = (0, l, er) := by simp [rnum, her]
    rw [e]
    exact refRNum_bad A B n c er most l w hl hnc h hB (by omega)

end Go.Proofs.Ytbfjfidodpgohaa
