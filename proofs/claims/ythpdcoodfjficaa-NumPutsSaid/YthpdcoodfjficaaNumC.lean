/- The walks of Put and Rows: numbers, and rows, are put behind bytes, in memory of the call's own. -/
import Derived.Test.YthpdcoodfjficaaNumB
import Derived.Test.YthpdcoodfjficaaOpen
namespace Go.Proofs.Ythpdcoodfjficaa
open Go.RowKit


theorem uvs_at {l : List Nat} {k : Nat} (h : k < l.length) : (uvs l)[k]? = some (.int .u64 (l[k] : Int)) := by simp [uvs, uv, h]

theorem encs_snoc (ns : List Nat) (k : Nat) (h : k < ns.length) : encs (ns.take (k + 1)) = encs (ns.take k) ++ enc ns[k] := by
  rw [List.take_succ_eq_append_getElem h, encs_append]; simp [encs]

theorem encs_len {ns : List Nat} (h : ∀ x ∈ ns, x < 18446744073709551616) : (encs ns).length ≤ 9 * ns.length := by
  induction ns with
  | nil => simp [encs]
  | cons x t ih =>
    have h1 := enc_len (h x (by simp))
    have h2 := ih (fun y hy => h y (by simp [hy]))
    simp [encs]; omega

/-- What Put, and Rows, have made so far. -/
def PutRel (w : World) (xs : List Value) (v : Value) (wr : World) : Prop :=
  ∃ n, wr.ownsRow w.heap.size 5 1 v n xs ∧ Below w.heap.size w wr ∧ xs.length = n

theorem Owned.rel {w wr w' : World} {xs : List Value} {v : Value} (h : PutRel w xs v wr) {ys : List Value} {e : Ending} (ho : Owned wr w.heap.size ys e w') : ∃ A n c, e = .returned (.slice A n c) ∧ PutRel w ys (.slice A n c) w' := by
  obtain ⟨A, n, c, rfl, h0, _, _, h1, h2⟩ := ho
  obtain ⟨_, _, hb, _⟩ := h
  exact ⟨A, n, c, rfl, n, h1, hb.trans h2, h0.out⟩

theorem PutRel.below {w wr : World} {xs : List Value} {v : Value} (h : PutRel w xs v wr) : Below w.heap.size w wr := by
  obtain ⟨_, _, hb, _⟩ := h
  exact hb

theorem PutRel.owned {w wr : World} {xs : List Value} {v : Value} (h : PutRel w xs v wr) : Owned w w.heap.size xs (.returned v) wr := by
  obtain ⟨_, ho, hb, _⟩ := h
  exact Owned.of ho hb

set_option maxHeartbeats 800000 in
theorem put_any (A A2 : Option Addr) (n c m c2 : Nat) (l : List UInt8) (ns : List Nat) (w : World) (hl : l.length = n) (hn : n ≤ 10000) (h : Lies w w.heap.size A (bvs l))
    (hl2 : ns.length = m) (hm : m ≤ 1000) (h2 : Lies w w.heap.size A2 (uvs ns)) (hns : ∀ x ∈ ns, x < 18446744073709551616) :
    Calls Try.prog 12 #[.slice A n c, .slice A2 m c2] w (Owned w w.heap.size (bvs (l ++ encs ns))) := by
  have HL := Lib.hid hl
  have HL2 := Lib.hid hl2
  have HNS := Lib.hid hns
  clear hl hl2 hns
  go_enter Try.func12, Try.ntmps12
  go_wp2_with (go_at_call 24; refine (fresh_any A _ n c l _ HL.out (by omega) h).mono ?_; rintro e w1 ⟨A1, n1, c1, rfl, hn1, _, _, ho1, hb1⟩)
  have hR0 : PutRel w (bvs (l ++ encs (ns.take 0))) (.slice A1 n1 c1) w1 := by
    rw [List.take_zero, encs, List.append_nil]; exact ⟨_, ho1, hb1, hn1.out⟩
  clear ho1 hb1
  go_loopw [5, 12] (fun v i wr => ∃ (k : Nat), k ≤ m ∧ i = .int .i64 k ∧ PutRel w (bvs (l ++ encs (ns.take k))) v wr) (fun _ i _ => m - (intOf i).toNat)
  case atStart => exact ⟨0, Nat.zero_le _, rfl, hR0⟩
  case round =>
    obtain ⟨k, hk, rfl, hR⟩ := hrel
    by_cases hlt : k < m
    · have hk2 : k < ns.length := by rw [HL2.out]; exact hlt
      have hel := encs_len (ns := ns.take k) (fun x hx => HNS.out x (List.mem_of_mem_take hx))
      have hxl : (bvs (l ++ encs (ns.take k))).length ≤ 1000000 := by
        rw [bvs_length, List.length_append, HL.out]
        have : (ns.take k).length ≤ 1000 := by have := List.length_take_le k ns; omega
        omega
      obtain ⟨b, off, rfl, hb, hc⟩ := (h2.below hR.below).at_ (uvs_at hk2)
      have hx := HNS.out ns[k] (List.getElem_mem hk2)
      have hsz : w.heap.size ≤ wr.heap.size := hR.below.size
      obtain ⟨L, hoL, hbL, hLL⟩ := id hR
      have hLx : L ≤ 1000000 := by omega
      have HR := Lib.hid hR
      clear hR hel hxl hLL
      go_wp2_with (go_at_call 25; refine (appendNumber_any w.heap.size _ L _ ns[k] _ hoL hLx hx hsz).mono ?_; intro e w2 ho; obtain ⟨A2, n2, c2, rfl, hR2⟩ := Owned.rel HR.out ho; clear ho)
      go_roundw
      case rel =>
        refine ⟨k + 1, by omega, by go_num, ?_⟩
        rw [encs_snoc ns k hk2, ← List.append_assoc, bvs_append]
        exact hR2
      case measure => simp [intOf]; omega
    · go_wp2
      go_ret
      have : k = m := by omega
      subst this
      rw [← HL2.out, List.take_length] at hR
      exact hR.owned

end Go.Proofs.Ythpdcoodfjficaa
