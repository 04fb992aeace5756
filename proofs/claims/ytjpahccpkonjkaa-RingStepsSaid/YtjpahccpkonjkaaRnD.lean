/- Stage 15: Contains, in; Way, Next; the program's and the document's; Same. -/
import Derived.Test.YtjpahccpkonjkaaRnC
set_option maxRecDepth 20000
namespace Go.Proofs.Ytjpahccpkonjkaa
open Go.RowKit Go.Sort

theorem contains_next {l : List Int} {x : Int} {k : Nat} (hk : k < l.length) : (l.take (k + 1)).contains x = ((l.take k).contains x || (l[k] == x)) := by
  rw [List.take_succ_eq_append_getElem hk, Bool.eq_iff_iff]
  simp only [List.contains_iff_mem, List.mem_append, List.mem_singleton, Bool.or_eq_true, beq_iff_eq]
  exact ⟨fun h => h.imp_right Eq.symm, fun h => h.imp_right Eq.symm⟩

theorem contains_first {l : List Int} {x : Int} {k : Nat} (hk : k < l.length) (h : (l[k] == x) = true) : l.contains x = true := by
  simp only [beq_iff_eq] at h
  subst h
  simp

section
variable {w : World}

theorem index_any (A : Option Addr) (n c : Nat) (l : List Int) (x : Int) (w : World) (hl : l.length = n) (hn : n ≤ 1000) (hL : Lies w w.heap.size A (zvs l)) :
    Calls Try.prog 20 #[.slice A n c, .int .i64 x] w fun e w' => ∃ r : Int, e = .returned (.int .i64 r) ∧ Hid (decide (0 ≤ r) = l.contains x) ∧ w = w' := by
  have HL := Lib.hid hl
  have H := Lib.hid hL
  clear hl hL
  go_enter Try.func20, Try.ntmps20
  go_wp2
  go_loopw [5, 8] (fun _ s8 wr => ∃ k : Nat, k ≤ n ∧ s8 = .int .i64 (k : Int) ∧ Hid ((l.take k).contains x = false) ∧ wr = w) (fun _ s8 _ => n - (Lib.intOf s8).toNat)
  case atStart => exact ⟨0, Nat.zero_le _, rfl, (by show _ = _; simp), rfl⟩
  case round =>
    obtain ⟨k, hk, rfl, hK, rfl⟩ := hrel
    by_cases hlt : k < n
    · have hkl : k < l.length := by rw [HL.out]; exact hlt
      obtain ⟨b, off, rfl, hbl, hc⟩ := H.out.at_ (zvs_at hkl)
      have HF := Lib.hid (fun h => contains_first (x := x) hkl h)
      have HN := Lib.hid (contains_next (x := x) hkl)
      generalize l[k] = y at hc HF HN
      cases hq : (x == y) with
      | true =>
        have hq' : (y == x) = true := by simp at hq ⊢; exact hq.symm
        have HF2 := Lib.hid (HF.out hq')
        clear hkl hbl hq'
        go_wp2
        go_ret
        exact ⟨_, rfl, by show _ = _; rw [HF2.out]; simp, rfl⟩
      | false =>
        have hq' : (y == x) = false := by simp at hq ⊢; omega
        have HN2 : Hid ((l.take (k + 1)).contains x = false) := by show _ = _; rw [HN.out, hK.out, hq']; rfl
        clear hkl hbl hq'
        go_wp2
        exact ⟨⟨k + 1, by omega, by go_num, HN2, trivial⟩, by simp [Lib.intOf]; omega⟩
    · have hkn : Hid (l.contains x = false) := by
        show _ = _
        have := hK.out
        rwa [List.take_of_length_le (by rw [HL.out]; omega)] at this
      go_wp2
      go_ret
      exact ⟨_, rfl, by show _ = _; rw [hkn.out]; rfl, rfl⟩

theorem contains_any (A : Option Addr) (n c : Nat) (l : List Int) (x : Int) (w : World) (hl : l.length = n) (hn : n ≤ 1000) (hL : Lies w w.heap.size A (zvs l)) :
    Calls Try.prog 17 #[.slice A n c, .int .i64 x] w fun e w' => e = .returned (.bool (l.contains x)) ∧ w = w' := by
  have hi := index_any A n c l x w hl hn hL
  clear hl hL
  go_enter Try.func17, Try.ntmps17
  go_wp2_with fail
  refine hi.mono ?_
  rintro e w' ⟨r, rfl, hr, rfl⟩
  go_wp2
  go_ret
  exact ⟨by rw [← hr.out]; rfl, rfl⟩

theorem in_any (A : Option Addr) (n c : Nat) (l : List Int) (x : Int) (w : World) (hl : l.length = n) (hn : n ≤ 1000) (hL : Lies w w.heap.size A (zvs l)) :
    Calls Try.prog 19 #[.slice A n c, .int .i64 x] w fun e w' => e = .returned (.bool (l.contains x)) ∧ w = w' := by
  have HL := Lib.hid hl
  have H := Lib.hid hL
  clear hl hL
  go_enter Try.func19, Try.ntmps19
  go_wp2
  go_loopw [5, 8] (fun _ s8 wr => ∃ k : Nat, k ≤ n ∧ s8 = .int .i64 (k : Int) ∧ Hid ((l.take k).contains x = false) ∧ wr = w) (fun _ s8 _ => n - (Lib.intOf s8).toNat)
  case atStart => exact ⟨0, Nat.zero_le _, rfl, (by show _ = _; simp), rfl⟩
  case round =>
    obtain ⟨k, hk, rfl, hK, rfl⟩ := hrel
    by_cases hlt : k < n
    · have hkl : k < l.length := by rw [HL.out]; exact hlt
      obtain ⟨b, off, rfl, hbl, hc⟩ := H.out.at_ (zvs_at hkl)
      have HF := Lib.hid (fun h => contains_first (x := x) hkl h)
      have HN := Lib.hid (contains_next (x := x) hkl)
      generalize l[k] = y at hc HF HN
      cases hq : (y == x) with
      | true =>
        have HF2 := Lib.hid (HF.out hq)
        clear hkl hbl
        go_wp2
        go_ret
        exact ⟨by rw [HF2.out]; rfl, rfl⟩
      | false =>
        have HN2 : Hid ((l.take (k + 1)).contains x = false) := by show _ = _; rw [HN.out, hK.out, hq]; rfl
        clear hkl hbl
        go_wp2
        exact ⟨⟨k + 1, by omega, by go_num, HN2, trivial⟩, by simp [Lib.intOf]; omega⟩
    · have hkn : Hid (l.contains x = false) := by
        show _ = _
        have := hK.out
        rwa [List.take_of_length_le (by rw [HL.out]; omega)] at this
      go_wp2
      go_ret
      exact ⟨by rw [hkn.out]; rfl, rfl⟩

theorem way_no (n p : Int) (v : Value) (h : ¬ (n ≤ 64 ∧ 0 ≤ p ∧ p < n)) (w : World) : Calls Try.prog 10 #[.int .i64 n, .int .i64 p, v] w fun e w' => OwnedK w w.heap.size [] e w' := by
  have H1 := fun W => has_no n p h W
  clear h
  go_enter Try.func10, Try.ntmps10
  go_wp2_with fail
  refine (H1 _).mono ?_
  rintro e w' ⟨rfl, rfl⟩
  go_wp2
  go_ret
  exact OwnedK.of (World.ownsRow_nil _ _ _ _) (RowKit.Below.refl _ _)

theorem refWay_no (n p : Int) (v : Value) (h : ¬ (n ≤ 64 ∧ 0 ≤ p ∧ p < n)) (w : World) : Calls Try.prog 11 #[.int .i64 n, .int .i64 p, v] w fun e w' => OwnedK w w.heap.size [] e w' := by
  have H1 := fun W => of_no n p h W
  clear h
  go_enter Try.func11, Try.ntmps11
  go_wp2_with fail
  refine (H1 _).mono ?_
  rintro e w' ⟨rfl, rfl⟩
  go_wp2
  go_ret
  exact OwnedK.of (World.ownsRow_lit w #[] 0 (Nat.le_refl _) (Nat.zero_le _) rfl) ((RowKit.Below.refl _ _).alloc (Nat.le_refl _) _)

set_option maxHeartbeats 1600000 in
theorem way_any (n p : Nat) (hp : p < n) (hn : n ≤ 64) (A : Option Addr) (m c : Nat) (l : List Int) (w : World) (hl : l.length = m) (hm : m ≤ 1000) (hL : Lies w w.heap.size A (zvs l)) :
    Calls Try.prog 10 #[.int .i64 (n : Int), .int .i64 (p : Int), .slice A m c] w fun e w' => OwnedK w w.heap.size (wayR n p l (n - 1)) e w' := by
  have HH := fun W => has_yes n p hp hn W
  have HB0 := fun W => behind_any n p hp hn W
  have HB1 := Lib.hid (fun (q : Nat) (hq : q < n) W => behind_any n q hq hn W)
  have HC := Lib.hid (fun (x : Int) W (hW : RowKit.Below w.heap.size w W) => contains_any A m c l x W hl hm (hL.on hW))
  clear hL hl
  rw [← pos_zero hp] at HB0
  have h0 : posR n p 0 < n := pos_lt hp (by omega)
  obtain ⟨q0, hq0⟩ : ∃ q0, posR n p 0 = q0 := ⟨_, rfl⟩
  rw [hq0] at h0 HB0
  have HZ := Lib.hid hq0
  clear hq0
  go_enter Try.func10, Try.ntmps10
  go_wp2_with fail
  have HBS : Hid (RowKit.Below w.heap.size w w) := RowKit.Below.refl _ _
  have HOS : Hid (w.ownsRow w.heap.size 3 1 (.slice none 0 0) 0 (kvs (wayR n p l 0))) := World.ownsRow_nil _ _ _ _
  refine (HH _).mono ?_
  rintro e w' ⟨rfl, rfl⟩
  go_wp2_with fail
  refine (HB0 _).mono ?_
  rintro e w' ⟨rfl, rfl⟩
  clear HH HB0
  go_wp2
  go_loopw [7, 8] (fun s7 s8 wr => ∃ (k q j c' : Nat) (A' : Option Addr), s8 = .int .i64 (q : Int) ∧ s7 = .slice A' j c' ∧ q < n ∧ k < n ∧ j < n ∧ Hid (posR n p k = q) ∧ Hid ((wayR n p l k).length = j) ∧ Hid (RowKit.Below w.heap.size w wr) ∧ Hid (wr.ownsRow w.heap.size 3 1 (.slice A' j c') j (kvs (wayR n p l k)))) (fun _ s8 _ => stpR n (Lib.intOf s8).toNat p)
  case atStart => exact ⟨0, q0, 0, 0, _, rfl, rfl, h0, by omega, by omega, HZ, rfl, HBS, HOS⟩
  case round =>
    obtain ⟨k, q, j, c1, A1, rfl, rfl, hq, hk, hj, HP, HN, HB, HO⟩ := hrel
    by_cases h : q = p
    · subst h
      have hE : Hid (wayR n q l k = wayR n q l (n - 1)) := by
        have := pos_me.1 HP.out
        show _ = _
        rw [show k = n - 1 by omega]
      rw [hE.out] at HO HN
      go_wp2
      go_ret
      exact OwnedK.of HO.out HB.out
    · have hne : ((q : Int) == (p : Int)) = false := by simp; omega
      have hk1 : Hid (k + 1 < n) := by
        show _ < _
        refine Nat.lt_of_le_of_ne hk fun e => h ?_
        rw [← HP.out]; exact pos_me.2 e
      have hP1 : Hid (posR n p (k + 1) = nxtR n q) := by show _ = _; rw [← HP.out]; exact (pos_next hp hk1.out).symm
      have hM : Hid (stpR n (nxtR n q) p < stpR n q p) := by show _ < _; rw [stp_step hq hp h]; exact Nat.lt_succ_self _
      have hx := nxt_lt hq
      have hb1 := fun W => HB1.out q hq W
      have hc1 := HC.out (q : Int) wr HB.out
      have HI := Lib.hid (fun h => way_in (n := n) (p := p) (k := k) (sk := l) h)
      have HU := Lib.hid (fun h => way_out (n := n) (p := p) (k := k) (sk := l) h)
      rw [HP.out] at HI HU
      generalize nxtR n q = q2 at hb1 hx hM hP1
      generalize l.contains (q : Int) = b at hc1 HI HU
      go_wp2_with fail
      refine hc1.mono ?_
      rintro e w' ⟨rfl, rfl⟩
      cases b with
      | true =>
        have hE := Lib.hid (HI.out rfl)
        clear HI HU hc1 h
        have HN2 : Hid ((wayR n p l (k + 1)).length = j) := by show _ = _; rw [hE.out]; exact HN.out
        have HO2 : Hid (wr.ownsRow w.heap.size 3 1 (.slice A1 j c1) j (kvs (wayR n p l (k + 1)))) := by rw [hE.out]; exact HO
        go_wp2_with fail
        refine (hb1 _).mono ?_
        rintro e w2 ⟨rfl, rfl⟩
        go_wp2
        exact ⟨⟨k + 1, q2, j, c1, A1, rfl, rfl, hx, hk1.out, hj, hP1, HN2, HB, HO2⟩, hM.out⟩
      | false =>
        have hE := Lib.hid (HU.out rfl)
        clear HI HU hc1 h
        have hbase := HB.out.size
        have ho := HO.out
        have HN2 : Hid ((wayR n p l (k + 1)).length = j + 1) := by show _ = _; rw [hE.out, List.length_append, HN.out]; rfl
        have hj2 : Hid (j + 1 < n) := by have := HN2.out; have := way_len (n := n) (p := p) (k := k + 1) (sk := l); have := hk1.out; show _ < _; omega
        go_wp2_with (at_builtin; refine wpList_pushK rfl (.tmp 26) (.tmp 28) rfl _ j (wayR n p l k) q _ rfl rfl ho ?a1 hbase ?_)
        case a1 => omega
        intro v2 w2 hown2 hb2
        obtain ⟨A2, c2, rfl, hc1, hc2⟩ := own_slice hown2
        rw [← hE.out] at hown2
        have HO2 := Lib.hid hown2
        have HB2 := Lib.hid (HB.out.trans hb2)
        clear hown2 hb2 ho HO
        go_wp2_with fail
        refine (hb1 _).mono ?_
        rintro e w3 ⟨rfl, rfl⟩
        go_wp2
        exact ⟨⟨k + 1, q2, j + 1, c2, A2, rfl, rfl, hx, hk1.out, hj2.out, hP1, HN2, HB2, HO2⟩, hM.out⟩

set_option maxHeartbeats 1600000 in
theorem refWay_any (n p : Nat) (hp : p < n) (hn : n ≤ 64) (A : Option Addr) (m c : Nat) (l : List Int) (w : World) (hl : l.length = m) (hm : m ≤ 1000) (hL : Lies w w.heap.size A (zvs l)) :
    Calls Try.prog 11 #[.int .i64 (n : Int), .int .i64 (p : Int), .slice A m c] w fun e w' => OwnedK w w.heap.size (wayR n p l (n - 1)) e w' := by
  have HH := fun W => of_yes n p hp hn W
  have HB0 := fun W => refBehind_any n p hp hn W
  have HB1 := Lib.hid (fun (q : Nat) (hq : q < n) W => refBehind_any n q hq hn W)
  have HC := Lib.hid (fun (x : Int) W (hW : RowKit.Below w.heap.size w W) => in_any A m c l x W hl hm (hL.on hW))
  clear hL hl
  rw [← pos_zero hp] at HB0
  have h0 : posR n p 0 < n := pos_lt hp (by omega)
  obtain ⟨q0, hq0⟩ : ∃ q0, posR n p 0 = q0 := ⟨_, rfl⟩
  rw [hq0] at h0 HB0
  have HZ := Lib.hid hq0
  clear hq0
  go_enter Try.func11, Try.ntmps11
  go_wp2_with fail
  have HBS : Hid (RowKit.Below w.heap.size w (w.alloc (.cells #[] 3))) := (RowKit.Below.refl _ _).alloc (Nat.le_refl _) _
  have HOS : Hid ((w.alloc (.cells #[] 3)).ownsRow w.heap.size 3 1 (.slice (some ⟨w.heap.size, 0, none⟩) 0 0) 0 (kvs (wayR n p l 0))) := World.ownsRow_lit w #[] 0 (Nat.le_refl _) (Nat.zero_le _) rfl
  generalize hW : World.alloc w _ = w0
  rw [hW] at HBS HOS
  clear hW
  refine (HH _).mono ?_
  rintro e w' ⟨rfl, rfl⟩
  go_wp2_with fail
  refine (HB0 _).mono ?_
  rintro e w' ⟨rfl, rfl⟩
  clear HH HB0
  go_wp2
  go_loopw [7, 8] (fun s7 s8 wr => ∃ (k q j c' : Nat) (A' : Option Addr), s8 = .int .i64 (q : Int) ∧ s7 = .slice A' j c' ∧ q < n ∧ k < n ∧ j < n ∧ Hid (posR n p k = q) ∧ Hid ((wayR n p l k).length = j) ∧ Hid (RowKit.Below w.heap.size w wr) ∧ Hid (wr.ownsRow w.heap.size 3 1 (.slice A' j c') j (kvs (wayR n p l k)))) (fun _ s8 _ => stpR n (Lib.intOf s8).toNat p)
  case atStart => exact ⟨0, q0, 0, 0, _, rfl, rfl, h0, by omega, by omega, HZ, rfl, HBS, HOS⟩
  case round =>
    obtain ⟨k, q, j, c1, A1, rfl, rfl, hq, hk, hj, HP, HN, HB, HO⟩ := hrel
    by_cases h : q = p
    · subst h
      have hE : Hid (wayR n q l k = wayR n q l (n - 1)) := by
        have := pos_me.1 HP.out
        show _ = _
        rw [show k = n - 1 by omega]
      rw [hE.out] at HO HN
      go_wp2
      go_ret
      exact OwnedK.of HO.out HB.out
    · have hne : ((q : Int) == (p : Int)) = false := by simp; omega
      have hk1 : Hid (k + 1 < n) := by
        show _ < _
        refine Nat.lt_of_le_of_ne hk fun e => h ?_
        rw [← HP.out]; exact pos_me.2 e
      have hP1 : Hid (posR n p (k + 1) = nxtR n q) := by show _ = _; rw [← HP.out]; exact (pos_next hp hk1.out).symm
      have hM : Hid (stpR n (nxtR n q) p < stpR n q p) := by show _ < _; rw [stp_step hq hp h]; exact Nat.lt_succ_self _
      have hx := nxt_lt hq
      have hb1 := fun W => HB1.out q hq W
      have hc1 := HC.out (q : Int) wr HB.out
      have HI := Lib.hid (fun h => way_in (n := n) (p := p) (k := k) (sk := l) h)
      have HU := Lib.hid (fun h => way_out (n := n) (p := p) (k := k) (sk := l) h)
      rw [HP.out] at HI HU
      generalize nxtR n q = q2 at hb1 hx hM hP1
      generalize l.contains (q : Int) = b at hc1 HI HU
      go_wp2_with fail
      refine hc1.mono ?_
      rintro e w' ⟨rfl, rfl⟩
      cases b with
      | true =>
        have hE := Lib.hid (HI.out rfl)
        clear HI HU hc1 h
        have HN2 : Hid ((wayR n p l (k + 1)).length = j) := by show _ = _; rw [hE.out]; exact HN.out
        have HO2 : Hid (wr.ownsRow w.heap.size 3 1 (.slice A1 j c1) j (kvs (wayR n p l (k + 1)))) := by rw [hE.out]; exact HO
        go_wp2_with fail
        refine (hb1 _).mono ?_
        rintro e w2 ⟨rfl, rfl⟩
        go_wp2
        exact ⟨⟨k + 1, q2, j, c1, A1, rfl, rfl, hx, hk1.out, hj, hP1, HN2, HB, HO2⟩, hM.out⟩
      | false =>
        have hE := Lib.hid (HU.out rfl)
        clear HI HU hc1 h
        have hbase := HB.out.size
        have ho := HO.out
        have HN2 : Hid ((wayR n p l (k + 1)).length = j + 1) := by show _ = _; rw [hE.out, List.length_append, HN.out]; rfl
        have hj2 : Hid (j + 1 < n) := by have := HN2.out; have := way_len (n := n) (p := p) (k := k + 1) (sk := l); have := hk1.out; show _ < _; omega
        go_wp2_with (at_builtin; refine wpList_pushK rfl (.tmp 28) (.tmp 30) rfl _ j (wayR n p l k) q _ rfl rfl ho ?a1 hbase ?_)
        case a1 => omega
        intro v2 w2 hown2 hb2
        obtain ⟨A2, c2, rfl, hc1, hc2⟩ := own_slice hown2
        rw [← hE.out] at hown2
        have HO2 := Lib.hid hown2
        have HB2 := Lib.hid (HB.out.trans hb2)
        clear hown2 hb2 ho HO
        go_wp2_with fail
        refine (hb1 _).mono ?_
        rintro e w3 ⟨rfl, rfl⟩
        go_wp2
        exact ⟨⟨k + 1, q2, j + 1, c2, A2, rfl, rfl, hx, hk1.out, hj2.out, hP1, HN2, HB2, HO2⟩, hM.out⟩

end

end Go.Proofs.Ytjpahccpkonjkaa
