/- The walk of Rows, and of the statements' own great. -/
import Derived.Test.YthpdcoodfjficaaNumG
import Derived.Test.YthpdcoodfjficaaNumH
namespace Go.Proofs.Ythpdcoodfjficaa
open Go.RowKit

theorem Byt.below {w w' : World} {B : Nat} {v : Value} {l : List UInt8} (h : Byt w B v l) (hb : Below B w w') : Byt w' B v l := by
  obtain ⟨A, n, c, rfl, h1, h2, h3, h4⟩ := h
  exact ⟨A, n, c, rfl, h1, h2, h3, h4.below hb⟩

theorem rows_snoc (ls : List (List UInt8)) (k : Nat) (h : k < ls.length) : rows (ls.take (k + 1)) = rows (ls.take k) ++ (enc ls[k].length ++ ls[k]) := by
  rw [List.take_succ_eq_append_getElem h, rows_append]; simp [rows, row]

theorem rows_len {ls : List (List UInt8)} (h : ∀ x ∈ ls, x.length ≤ 300) : (rows ls).length ≤ 309 * ls.length := by
  induction ls with
  | nil => simp [rows]
  | cons x t ih =>
    have h0 := h x (by simp)
    have h1 := enc_len (n := x.length) (by omega)
    have h2 := ih (fun y hy => h y (by simp [hy]))
    simp [rows, row]; omega

theorem PutRel.of {w wr : World} {xs : List Value} {v : Value} {n : Nat} (h : wr.ownsRow w.heap.size 5 1 v n xs) (hb : Below w.heap.size w wr) : PutRel w xs v wr := ⟨n, h, hb, own_len h⟩

theorem app_len {wr : World} {base L n3 nr : Nat} {v : Value} {xs : List Value} (h : wr.ownsRow base 5 1 v L xs) (hn : Hid ((xs ++ bvs (enc nr)).length = n3)) (hr : nr < 18446744073709551616) : n3 ≤ L + 9 := by
  have h1 := own_len h
  have h2 := hn.out
  have h3 := enc_len hr
  rw [List.length_append, bvs_length] at h2
  omega

set_option maxHeartbeats 800000 in
theorem rows_any (A A2 : Option Addr) (n c m c2 : Nat) (l : List UInt8) (vs : List Value) (ls : List (List UInt8)) (w : World) (hl : l.length = n) (hn : n ≤ 10000) (h : Lies w w.heap.size A (bvs l))
    (hl2 : vs.length = m) (hm : m ≤ 100) (h2 : Lies w w.heap.size A2 vs) (hr : BytRows w w.heap.size vs ls) (hls : ∀ x ∈ ls, x.length ≤ 300) :
    Calls Try.prog 13 #[.slice A n c, .slice A2 m c2] w (Owned w w.heap.size (bvs (l ++ rows ls))) := by
  obtain ⟨i0, hi, hz0, hz1, hz2⟩ := info_parts Try.info5
  have HL := Lib.hid hl
  have HL2 := Lib.hid hl2
  have HLS := Lib.hid hls
  have HR := Lib.hid hr
  clear hl hl2 hls hr
  go_enter Try.func13, Try.ntmps13
  go_wp2_with (go_at_call 24; refine (fresh_any A _ n c l _ HL.out (by omega) h).mono ?_; rintro e w1 ⟨A1, n1, c1, rfl, hn1, _, _, ho1, hb1⟩)
  have hR0 : PutRel w (bvs (l ++ rows (ls.take 0))) (.slice A1 n1 c1) w1 := by
    rw [List.take_zero, rows, List.append_nil]; exact ⟨_, ho1, hb1, hn1.out⟩
  clear ho1 hb1
  go_loopw [5, 12] (fun v i wr => ∃ (k : Nat), k ≤ m ∧ i = .int .i64 k ∧ PutRel w (bvs (l ++ rows (ls.take k))) v wr) (fun _ i _ => m - (intOf i).toNat)
  case atStart => exact ⟨0, Nat.zero_le _, rfl, hR0⟩
  case round =>
    obtain ⟨k, hk, rfl, hR⟩ := hrel
    by_cases hlt : k < m
    · have hk1 : k < vs.length := by rw [HL2.out]; exact hlt
      have hk2 : k < ls.length := by rw [← HR.out.1]; exact hk1
      have hel := rows_len (ls := ls.take k) (fun x hx => HLS.out x (List.mem_of_mem_take hx))
      have hxl : (bvs (l ++ rows (ls.take k))).length ≤ 100000 := by
        rw [bvs_length, List.length_append, HL.out]
        have : (ls.take k).length ≤ 100 := by have := List.length_take_le k ls; omega
        omega
      obtain ⟨Ar, nr, cr, hvr, hlr, _, _, hLr⟩ := (HR.out.2 k hk1 hk2).below hR.below
      obtain ⟨b, off, rfl, hb, hc⟩ := (h2.below hR.below).at_ (List.getElem?_eq_getElem hk1)
      rw [hvr] at hc
      have hx : nr ≤ 300 := by have := HLS.out ls[k] (List.getElem_mem hk2); omega
      have hsz : w.heap.size ≤ wr.heap.size := hR.below.size
      obtain ⟨L, hoL, hbL, hLL⟩ := id hR
      have hLx : L ≤ 100000 := by omega
      have HLR := Lib.hid hlr
      have HPR := Lib.hid hR
      clear hR hel hxl hLL hvr hlr
      go_wp2_with (first
        | (go_at_call 25; refine (appendNumber_any w.heap.size _ L _ nr _ hoL (by omega) (by omega) hsz).mono ?_; intro e w2 ho; obtain ⟨A3, n3, c3, rfl, hn3, _, _, hoL2, hbL2⟩ := ho)
        | (at_builtin; refine wpList_append_lst rfl _ _ 22 rfl w.heap.size 5 i0 (.int .u8 0) 1 Try.underlying22 hi hz0 hz1 hz2 rfl _ _ _ rfl hoL2 _ _ _ _ (bvs ls[k]) rfl ?d0 (hLr.below hbL2) (bvs_one _) ?d2 ?d3 ?d4 ?_))
      case d0 => rw [bvs_length]; exact HLR.out
      case d2 => have := app_len hoL hn3 (by omega); unfold maxLen; omega
      case d3 => have := app_len hoL hn3 (by omega); omega
      case d4 => have := hbL2.size; omega
      intro v4 w4 hown4 hg4 hb4 _
      go_wp2
      go_roundw
      case rel =>
        refine ⟨k + 1, by omega, by go_num, ?_⟩
        rw [rows_snoc ls k hk2, HLR.out, ← List.append_assoc, ← List.append_assoc, bvs_append, bvs_append]
        refine PutRel.of (n := n3 + nr) ?_ ((hbL.trans hbL2).trans hb4)
        simpa using hown4
      case measure => simp [intOf]; omega
    · go_wp2
      go_ret
      have : k = m := by omega
      subst this
      rw [← HL2.out, HR.out.1, List.take_length] at hR
      exact hR.owned

/-- Is one of the rows longer than 300 bytes, or are there more than 60? -/
def isGreat (ls : List (List UInt8)) : Bool := decide (60 < ls.length) || ls.any fun x => decide (300 < x.length)

theorem great_many (A : Option Addr) (n c : Nat) (w : World) (hn : 60 < n) :
    Calls Try.prog 8 #[.slice A n c] w fun e w' => e = .returned (.bool true) ∧ w = w' := by
  go_enter Try.func8, Try.ntmps8
  go_wp2
  go_ret
  exact ⟨rfl, rfl⟩

set_option maxHeartbeats 400000 in
theorem great_few (A : Option Addr) (n c : Nat) (vs : List Value) (ls : List (List UInt8)) (w : World) (hn : n ≤ 60) (hl : vs.length = n) (h : Lies w w.heap.size A vs) (hr : BytRows w w.heap.size vs ls) :
    Calls Try.prog 8 #[.slice A n c] w fun e w' => e = .returned (.bool (ls.any fun x => decide (300 < x.length))) ∧ w = w' := by
  have HL := Lib.hid hl
  have HR := Lib.hid hr
  clear hl hr
  have hd : decide (60 < (n : Int)) = false := by simp; omega
  go_enter Try.func8, Try.ntmps8
  go_wp2
  go_loop [3] (fun i => ∃ k : Nat, k ≤ n ∧ i = .int .i64 k ∧ Hid (∀ x ∈ ls.take k, x.length ≤ 300)) (fun i => n - (intOf i).toNat)
  case atStart => exact ⟨0, Nat.zero_le _, rfl, by show ∀ x ∈ ls.take 0, _; simp⟩
  case round =>
    obtain ⟨k, hk, rfl, hK⟩ := hrel
    by_cases hlt : k < n
    · have hk1 : k < vs.length := by rw [HL.out]; exact hlt
      have hk2 : k < ls.length := by rw [← HR.out.1]; exact hk1
      obtain ⟨Ar, nr, cr, hvr, hlr, _, _, hLr⟩ := HR.out.2 k hk1 hk2
      obtain ⟨b, off, rfl, hb, hc⟩ := h.at_ (List.getElem?_eq_getElem hk1)
      rw [hvr] at hc
      have HLR := Lib.hid hlr
      clear hvr hlr
      by_cases hx : 300 < nr
      · have HA : Hid ((ls.any fun x => decide (300 < x.length)) = true) := by
          show (ls.any fun x => decide (300 < x.length)) = true
          rw [List.any_eq_true]
          exact ⟨ls[k], List.getElem_mem hk2, by have := HLR.out; simp; omega⟩
        go_wp2
        go_ret
        exact ⟨by rw [HA.out]; rfl, rfl⟩
      · have HK : Hid (∀ x ∈ ls.take (k + 1), x.length ≤ 300) := by
          show ∀ x ∈ ls.take (k + 1), x.length ≤ 300
          intro x hx'
          rw [List.take_succ_eq_append_getElem hk2, List.mem_append] at hx'
          rcases hx' with h1 | h1
          · exact hK.out x h1
          · simp at h1; subst h1; have := HLR.out; omega
        go_wp2
        go_round
        case rel => exact ⟨k + 1, by omega, by go_num, HK⟩
        case measure => simp [intOf]; omega
    · have HA : Hid ((ls.any fun x => decide (300 < x.length)) = false) := by
        show (ls.any fun x => decide (300 < x.length)) = false
        rw [List.any_eq_false]
        intro x hx
        have h1 := hK.out x (by rw [List.take_of_length_le (by rw [← HR.out.1, HL.out]; omega)]; exact hx)
        simp; omega
      go_wp2
      go_ret
      exact ⟨by rw [HA.out]; rfl, rfl⟩

end Go.Proofs.Ythpdcoodfjficaa
