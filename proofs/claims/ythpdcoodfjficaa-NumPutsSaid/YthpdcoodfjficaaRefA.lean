/- The walks of the document's own answers: a number's bytes, a row's bytes, rows joined. -/
import Derived.Test.YthpdcoodfjficaaBackA
namespace Go.Proofs.Ythpdcoodfjficaa
open Go.RowKit

/-- What has been collected of n's digits when k are done, j being what is left of n. -/
def DigRel (w : World) (n j k : Nat) (v : Value) (wr : World) : Prop :=
  k ≤ (digs n).length ∧ j ≤ n ∧ digs j = (digs n).drop k ∧ wr.ownsRow w.heap.size 5 1 v k (bvs ((digs n).take k)) ∧ Below w.heap.size w wr

theorem DigRel.start (w : World) (n : Nat) : DigRel w n n 0 (.slice (some ⟨w.heap.size, 0, none⟩) 0 0) (w.alloc (.cells #[] 5)) :=
  ⟨Nat.zero_le _, Nat.le_refl _, by simp, World.ownsRow_lit w #[] 0 (Nat.le_refl _) (Nat.zero_le _) rfl, (Below.refl _ _).alloc (Nat.le_refl _) _⟩

theorem DigRel.step {w wr w2 : World} {n j k : Nat} {v v2 : Value} {o : Obj} (h : DigRel w n j k v wr) (hj0 : 0 < j)
    (hown : w2.ownsRow w.heap.size 5 1 v2 (k + 1) (bvs (List.take k (digs n)) ++ [Value.int IntKind.u8 (↑j % 256)])) (hb : Below w.heap.size (wr.alloc o) w2) :
    DigRel w n (j / 256) (k + 1) v2 w2 := by
  obtain ⟨hk1, hj, hdj, _, hbr⟩ := h
  rw [digs_pos hj0] at hdj
  obtain ⟨h1, h2, h3⟩ := take_step hdj
  refine ⟨h3, by omega, h2, ?_, (hbr.alloc hbr.size _).trans hb⟩
  rw [h1]
  rw [low_byte] at hown
  rw [bvs_append]
  exact hown

theorem DigRel.done {w wr w2 : World} {n j k : Nat} {v v2 : Value} {o : Obj} (h : DigRel w n j k v wr) (hk : k = (digs n).length) (h8 : (digs n).length ≤ 8)
    (hown : w2.ownsRow w.heap.size 5 1 v2 (1 + k) (#[Value.int IntKind.u8 (k : Int)].toList ++ bvs (List.take k (digs n)))) (hb : Below w.heap.size (wr.alloc o) w2) : Owned w w.heap.size (bvs (enc n)) (.returned v2) w2 := by
  obtain ⟨_, _, _, _, hbr⟩ := h
  subst hk
  refine Owned.of (n := 1 + (digs n).length) ?_ ((hbr.alloc hbr.size _).trans hb)
  rw [List.take_length, head_byte h8] at hown
  exact hown

set_option maxHeartbeats 800000 in
theorem refNum_any (n : Nat) (w : World) (hn : n < 18446744073709551616) : Calls Try.prog 10 #[.int .u64 n] w (Owned w w.heap.size (bvs (enc n))) := by
  obtain ⟨i0, hi, hz0, hz1, hz2⟩ := info_parts Try.info5
  have h8 := digs_le8 hn
  have HN := Lib.hid hn
  go_enter Try.func10, Try.ntmps10
  go_wp2
  have hS := DigRel.start w n
  go_loopw [0, 3] (fun m v wr => ∃ (j k : Nat), m = .int .u64 j ∧ DigRel w n j k v wr) (fun m _ _ => (intOf m).toNat)
  case atStart => exact ⟨n, 0, rfl, hS⟩
  case round =>
    obtain ⟨j, k, rfl, hR⟩ := hrel
    obtain ⟨hk1, hj, hdj, hownr, hbr⟩ := id hR
    have HD := Lib.hid hdj
    have HR := Lib.hid hR
    have hbs := hbr.size
    clear hdj hR hS
    by_cases hlt : 0 < j
    · go_wp2_with (at_builtin; refine wpList_append_lst rfl _ _ 22 rfl w.heap.size 5 i0 (.int .u8 0) 1 Try.underlying22 hi hz0 hz1 hz2 rfl _ _ _ rfl (hownr.alloc _) _ _ 1 _ _ rfl ?d0 (lies_new _ _ _) ?d1 ?d2 ?d3 ?d4 ?_)
      case d1 => rfl
      case d2 => unfold maxLen; omega
      case d3 => omega
      case d4 => simp; omega
      intro v2 w2 hown2 hg2 hb2 _
      go_wp2
      go_roundw
      case rel =>
        exact ⟨j / 256, k + 1, by go_num, HR.out.step hlt hown2 hb2⟩
      case measure => simp [intOf]; omega
    · have hkk : k = (digs n).length := by
        have hj0 : j = 0 := by omega
        have := HD.out
        rw [hj0, digs_zero] at this
        have h2 := congrArg List.length this
        simp at h2; omega
      obtain ⟨A1, c1, hv1, _, _⟩ := own_slice hownr
      subst hv1
      have HK := Lib.hid hkk
      clear hkk
      have hL := Lies.of_own hownr
      go_wp2_with (at_builtin; refine wpList_append_lst rfl _ _ 22 rfl w.heap.size 5 i0 (.int .u8 0) 1 Try.underlying22 hi hz0 hz1 hz2 rfl _ _ _ rfl (World.ownsRow_lit wr _ 1 hbs (by unfold maxLen; omega) rfl) _ A1 k c1 _ rfl ?e0 (hL.below ((Below.refl _ _).alloc (Nat.le_refl _) _)) ?e1 ?e2 ?e3 ?e4 ?_)
      case e0 => rw [bvs_length]; simp; omega
      case e1 => exact bvs_one _
      case e2 => unfold maxLen; omega
      case e3 => omega
      case e4 => simp; omega
      intro v2 w2 hown2 hg2 hb2 _
      go_wp2
      go_ret
      exact HR.out.done HK.out h8 hown2 hb2

set_option maxHeartbeats 400000 in
theorem refRow_any (A : Option Addr) (n c : Nat) (l : List UInt8) (w : World) (hl : l.length = n) (hn : n ≤ 100000) (h : Lies w w.heap.size A (bvs l)) :
    Calls Try.prog 11 #[.slice A n c] w (Owned w w.heap.size (bvs (row l))) := by
  obtain ⟨i0, hi, hz0, hz1, hz2⟩ := info_parts Try.info5
  have HL := Lib.hid hl
  clear hl
  go_enter Try.func11, Try.ntmps11
  go_wp2_with (first
    | (go_at_call 10; refine (refNum_any n _ (by omega)).mono ?_; rintro e w1 ⟨A1, n1, c1, rfl, hn1, _, _, ho1, hb1⟩)
    | (at_builtin; refine wpList_append_lst rfl _ _ 22 rfl w.heap.size 5 i0 (.int .u8 0) 1 Try.underlying22 hi hz0 hz1 hz2 rfl _ _ _ rfl ho1 _ A n c _ rfl ?e0 (h.below hb1) (bvs_one _) ?e2 ?e3 hb1.size ?_))
  case e0 => rw [bvs_length]; exact HL.out
  case e2 => have := hn1.out; have h3 := enc_len (n := n) (by omega); rw [bvs_length] at this; unfold maxLen; omega
  case e3 => have := hn1.out; have h3 := enc_len (n := n) (by omega); rw [bvs_length] at this; omega
  intro v2 w2 hown2 hg2 hb2 _
  go_wp2
  go_ret
  have e : bvs (row l) = bvs (enc n) ++ bvs l := by rw [← bvs_append, ← HL.out]; rfl
  rw [e]
  exact Owned.of hown2 (hb1.trans hb2)

theorem flatten_snoc (ls : List (List UInt8)) (k : Nat) (h : k < ls.length) : (ls.take (k + 1)).flatten = (ls.take k).flatten ++ ls[k] := by
  rw [List.take_succ_eq_append_getElem h, List.flatten_append, List.flatten_cons, List.flatten_nil, List.append_nil]

theorem flatten_len (ls : List (List UInt8)) {M : Nat} (h : ∀ x ∈ ls, x.length ≤ M) : ls.flatten.length ≤ M * ls.length := by
  induction ls with
  | nil => simp
  | cons x t ih =>
    have h1 := h x (by simp)
    have h2 := ih (fun y hy => h y (by simp [hy]))
    simp only [List.flatten_cons, List.length_append, List.length_cons]
    rw [Nat.mul_succ]; omega

set_option maxHeartbeats 800000 in
theorem refJoin_any (A2 : Option Addr) (m c2 : Nat) (vs : List Value) (ls : List (List UInt8)) (w : World) (hl2 : vs.length = m) (hm : m ≤ 100) (h2 : Lies w w.heap.size A2 vs) (hr : BytRows w w.heap.size vs ls) (hls : ∀ x ∈ ls, x.length ≤ 1000) :
    Calls Try.prog 14 #[.slice A2 m c2] w (Owned w w.heap.size (bvs ls.flatten)) := by
  obtain ⟨i0, hi, hz0, hz1, hz2⟩ := info_parts Try.info5
  have HL2 := Lib.hid hl2
  have HLS := Lib.hid hls
  have HR := Lib.hid hr
  clear hl2 hls hr
  go_enter Try.func14, Try.ntmps14
  go_wp2
  have hR0 : PutRel w (bvs (ls.take 0).flatten) (.slice (some ⟨w.heap.size, 0, none⟩) 0 0) (w.alloc (.cells #[] 5)) := by
    rw [List.take_zero]
    exact PutRel.of (World.ownsRow_lit w #[] 0 (Nat.le_refl _) (Nat.zero_le _) rfl) ((Below.refl _ _).alloc (Nat.le_refl _) _)
  go_loopw [3, 8] (fun v i wr => ∃ (k : Nat), k ≤ m ∧ i = .int .i64 k ∧ PutRel w (bvs (ls.take k).flatten) v wr) (fun _ i _ => m - (intOf i).toNat)
  case atStart => exact ⟨0, Nat.zero_le _, rfl, hR0⟩
  case round =>
    obtain ⟨k, hk, rfl, hR⟩ := hrel
    by_cases hlt : k < m
    · have hk1 : k < vs.length := by rw [HL2.out]; exact hlt
      have hk2 : k < ls.length := by rw [← HR.out.1]; exact hk1
      have hel := flatten_len (ls.take k) (M := 1000) (fun x hx => HLS.out x (List.mem_of_mem_take hx))
      have hxl : (bvs (ls.take k).flatten).length ≤ 100000 := by
        rw [bvs_length]
        have : (ls.take k).length ≤ 100 := by have := List.length_take_le k ls; omega
        omega
      obtain ⟨Ar, nr, cr, hvr, hlr, _, _, hLr⟩ := (HR.out.2 k hk1 hk2).below hR.below
      obtain ⟨b, off, rfl, hb, hc⟩ := (h2.below hR.below).at_ (List.getElem?_eq_getElem hk1)
      rw [hvr] at hc
      have hx : nr ≤ 1000 := by have := HLS.out ls[k] (List.getElem_mem hk2); omega
      have hsz : w.heap.size ≤ wr.heap.size := hR.below.size
      obtain ⟨L, hoL, hbL, hLL⟩ := id hR
      have hLx : L ≤ 100000 := by omega
      have HLR := Lib.hid hlr
      clear hR hel hxl hLL hvr hlr hR0
      go_wp2_with (at_builtin; refine wpList_append_lst rfl _ _ 22 rfl w.heap.size 5 i0 (.int .u8 0) 1 Try.underlying22 hi hz0 hz1 hz2 rfl _ _ _ rfl hoL _ _ _ _ (bvs ls[k]) rfl ?d0 hLr (bvs_one _) ?d2 ?d3 hsz ?_)
      case d0 => rw [bvs_length]; exact HLR.out
      case d2 => unfold maxLen; omega
      case d3 => omega
      intro v4 w4 hown4 hg4 hb4 _
      go_wp2
      go_roundw
      case rel =>
        refine ⟨k + 1, by omega, by go_num, ?_⟩
        rw [flatten_snoc ls k hk2, bvs_append]
        exact PutRel.of hown4 (hbL.trans hb4)
      case measure => simp [intOf]; omega
    · go_wp2
      go_ret
      have : k = m := by omega
      subst this
      rw [← HL2.out, HR.out.1, List.take_length] at hR
      exact hR.owned

end Go.Proofs.Ythpdcoodfjficaa
