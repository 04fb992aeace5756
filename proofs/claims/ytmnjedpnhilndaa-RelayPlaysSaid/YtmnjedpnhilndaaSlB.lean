/- The numbers of the document as bytes, and its Same of two frames (picked). -/
import Derived.Test.YtmnjedpnhilndaaSlA
import Derived.Deep.RegionWith
import Derived.Deep.Cut
import Derived.Deep.CutRange
import Derived.IntWalk
namespace Go.Proofs.Ytmnjedpnhilndaa
open Go.RowKit Go.Sort Go.ChangeShapes Go.WideShapes Go.ChangeAt

/-- What has been collected of n's digits when k are done, j being what is left of n. -/
def DigRel (w : World) (n j k : Nat) (v : Value) (wr : World) : Prop :=
  k ≤ (digs n).length ∧ j ≤ n ∧ digs j = (digs n).drop k ∧ wr.ownsRow w.heap.size 5 1 v k (bvs ((digs n).take k)) ∧ Below w.heap.size w wr

theorem DigRel.start (w : World) (n : Nat) : DigRel w n n 0 (.slice (some ⟨w.heap.size, 0, none⟩) 0 0) (w.alloc (.cells #[] 5)) :=
  ⟨Nat.zero_le _, Nat.le_refl _, by simp, World.ownsRow_lit w #[] 0 (Nat.le_refl _) (Nat.zero_le _) rfl, (Below.refl _ _).alloc (Nat.le_refl _) _⟩

theorem DigRel.step {w wr w2 : World} {n j k : Nat} {v v2 : Value} {o : Obj} (h : DigRel w n j k v wr) (hj0 : 0 < j)
    (hown : w2.ownsRow w.heap.size 5 1 v2 (k + 1) (bvs (List.take k (digs n)) ++ [Value.int IntKind.u8 (↑j % 256)])) (hb : Below w.heap.size (wr.alloc o) w2) :
    DigRel w n (j / 256) (k + 1) v2 w2 := by
  obtain ⟨hk1, hj, hdj, _, hbr⟩ := h
  rw [digs_pos hj0] at hdj
  obtain ⟨h1, h2, h3⟩ := take_step hdj
  refine ⟨h3, by omega, h2, ?_, (hbr.alloc hbr.size _).trans hb⟩
  rw [h1]
  rw [low_byte] at hown
  rw [bvs_append]
  exact hown

theorem DigRel.done {w wr w2 : World} {n j k : Nat} {v v2 : Value} {o : Obj} (h : DigRel w n j k v wr) (hk : k = (digs n).length) (h8 : (digs n).length ≤ 8)
    (hown : w2.ownsRow w.heap.size 5 1 v2 (1 + k) (#[Value.int IntKind.u8 (k : Int)].toList ++ bvs (List.take k (digs n)))) (hb : Below w.heap.size (wr.alloc o) w2) : Owned w w.heap.size (bvs (enc n)) (.returned v2) w2 := by
  obtain ⟨_, _, _, _, hbr⟩ := h
  subst hk
  refine Owned.of (n := 1 + (digs n).length) ?_ ((hbr.alloc hbr.size _).trans hb)
  rw [List.take_length, head_byte h8] at hown
  exact hown

set_option maxRecDepth 100000 in
set_option maxHeartbeats 800000 in
theorem refNum_any (n : Nat) (w : World) (hn : n < 18446744073709551616) : Calls Try.prog 40 #[.int .u64 n] w (Owned w w.heap.size (bvs (enc n))) := by
  obtain ⟨i0, hi, hz0, hz1, hz2⟩ := info_parts Try.info5
  have h8 := digs_le8 hn
  have HN := Lib.hid hn
  go_enter Try.func40, Try.ntmps40
  go_wp2
  have hS := DigRel.start w n
  go_loopw [0, 3] (fun m v wr => ∃ (j k : Nat), m = .int .u64 j ∧ DigRel w n j k v wr) (fun m _ _ => (intOf m).toNat)
  case atStart => exact ⟨n, 0, rfl, hS⟩
  case round =>
    obtain ⟨j, k, rfl, hR⟩ := hrel
    obtain ⟨hk1, hj, hdj, hownr, hbr⟩ := id hR
    have HD := Lib.hid hdj
    have HR := Lib.hid hR
    have hbs := hbr.size
    clear hdj hR hS
    by_cases hlt : 0 < j
    · go_wp2_with (at_builtin; refine wpList_append_lst rfl _ _ 38 rfl w.heap.size 5 i0 (.int .u8 0) 1 Try.underlying38 hi hz0 hz1 hz2 rfl _ _ _ rfl (hownr.alloc _) _ _ 1 _ _ rfl ?d0 (lies_new _ _ _) ?d1 ?d2 ?d3 ?d4 ?_)
      case d1 => rfl
      case d2 => unfold maxLen; omega
      case d3 => omega
      case d4 => simp; omega
      intro v2 w2 hown2 hg2 hb2 _
      go_wp2
      go_roundw
      case rel =>
        exact ⟨j / 256, k + 1, by go_num, HR.out.step hlt hown2 hb2⟩
      case measure => simp [intOf]; omega
    · have hkk : k = (digs n).length := by
        have hj0 : j = 0 := by omega
        have := HD.out
        rw [hj0, digs_zero] at this
        have h2 := congrArg List.length this
        simp at h2; omega
      obtain ⟨A1, c1, hv1, _, _⟩ := own_slice hownr
      subst hv1
      have HK := Lib.hid hkk
      clear hkk
      have hL := Lies.of_own hownr
      go_wp2_with (at_builtin; refine wpList_append_lst rfl _ _ 38 rfl w.heap.size 5 i0 (.int .u8 0) 1 Try.underlying38 hi hz0 hz1 hz2 rfl _ _ _ rfl (World.ownsRow_lit wr _ 1 hbs (by unfold maxLen; omega) rfl) _ A1 k c1 _ rfl ?e0 (hL.below ((Below.refl _ _).alloc (Nat.le_refl _) _)) ?e1 ?e2 ?e3 ?e4 ?_)
      case e0 => rw [bvs_length]; simp; omega
      case e1 => exact bvs_one _
      case e2 => unfold maxLen; omega
      case e3 => omega
      case e4 => simp; omega
      intro v2 w2 hown2 hg2 hb2 _
      go_wp2
      go_ret
      exact HR.out.done HK.out h8 hown2 hb2

set_option maxRecDepth 100000 in
set_option maxHeartbeats 800000 in
theorem refNums_any (A : Option Addr) (n c : Nat) (l : List Nat) (w : World) (hl : l.length = n) (hn : n ≤ 100) (h : Lies w w.heap.size A (uvs l)) (hns : ∀ x ∈ l, x < 18446744073709551616) :
    Calls Try.prog 35 #[.slice A n c] w (Owned w w.heap.size (bvs (encs (l.length :: l)))) := by
  obtain ⟨i0, hi, hz0, hz1, hz2⟩ := info_parts Try.info5
  have HL := Lib.hid hl
  have HNS := Lib.hid hns
  clear hl hns
  go_enter Try.func35, Try.ntmps35
  go_wp2_with fail
  refine (refNum_any n w (by omega)).mono ?_
  rintro e w1 ⟨A1, n1, c1, rfl, hn1, hq1, hq2, ho1, hb1⟩
  have hR0 : PutRel w (bvs (enc n ++ encs (l.take 0))) (.slice A1 n1 c1) w1 := by
    rw [List.take_zero, encs, List.append_nil]; exact ⟨_, ho1, hb1, hn1.out⟩
  have HR0 := Lib.hid hR0
  clear ho1 hb1 hR0 hn1
  go_wp2
  go_loopw [3, 11] (fun v i wr => ∃ (k : Nat), k ≤ n ∧ i = .int .i64 k ∧ PutRel w (bvs (enc n ++ encs (l.take k))) v wr) (fun _ i _ => n - (intOf i).toNat)
  case atStart => exact ⟨0, Nat.zero_le _, rfl, HR0.out⟩
  case round =>
    obtain ⟨k, hk, rfl, hR⟩ := hrel
    by_cases hlt : k < n
    · have hk2 : k < l.length := by rw [HL.out]; exact hlt
      have hel := encs_len (ns := l.take k) (fun x hx => HNS.out x (List.mem_of_mem_take hx))
      have henc := enc_len (n := n) (by omega)
      have hxl : (bvs (enc n ++ encs (l.take k))).length ≤ 1000 := by
        rw [bvs_length, List.length_append]
        have : (l.take k).length ≤ 100 := by have := List.length_take_le k l; omega
        omega
      obtain ⟨b, off, rfl, hb, hc⟩ := (h.below hR.below).at_ (uvs_at hk2)
      have hx := HNS.out l[k] (List.getElem_mem hk2)
      obtain ⟨L, hoL, hbL, hLL⟩ := id hR
      have hLx : L ≤ 1000 := by omega
      have HSN := Lib.hid (encs_snoc l k hk2)
      have HBL := Lib.hid hbL
      have HOL := Lib.hid hoL
      obtain ⟨A3, c3, rfl, -, -⟩ := own_slice hoL
      clear hR hel hxl hLL hoL hbL
      generalize hy : l[k] = y at hc hx HSN
      clear hy
      go_wp2_with fail
      refine (refNum_any y wr hx).mono ?_
      rintro e w2 ⟨A4, n4, c4, rfl, hn4, -, -, ho4, hb4⟩
      have hn4' : n4 ≤ 9 := by have h1 := hn4.out; rw [bvs_length] at h1; have := enc_len hx; omega
      have HO2 : Hid (w2.ownsRow w.heap.size 5 1 (.slice A3 L c3) L (bvs (enc n ++ encs (l.take k)))) := own_below HOL.out hb4
      have HL4 : Hid (Lies w2 w2.heap.size A4 (bvs (enc y))) := Lies.of_own ho4
      have HN4 : Hid ((bvs (enc y)).length = n4) := hn4
      have HB2 : Hid (RowKit.Below w.heap.size w w2) := HBL.out.trans (hb4.mono HBL.out.size)
      clear ho4 hb4 hn4
      go_wp2_with (at_builtin; refine wpList_append_lst rfl (.tmp 14) (.tmp 19) 38 rfl w.heap.size 5 i0 (.int .u8 0) 1 Try.underlying38 hi hz0 hz1 hz2 rfl _ _ _ rfl HO2.out _ _ _ _ (bvs (enc y)) rfl ?d0 HL4.out (bvs_one _) ?d2 ?d3 ?d4 ?_)
      case d0 => exact HN4.out
      case d2 => unfold maxLen; omega
      case d3 => omega
      case d4 => exact HB2.out.size
      intro v4 w4 hown4 hg4 hb5 _
      have HP : Hid (PutRel w (bvs (enc n ++ encs (l.take (k + 1)))) v4 w4) := by
        rw [HSN.out, ← List.append_assoc, bvs_append]
        exact PutRel.of hown4 (HB2.out.trans hb5)
      clear hown4 hg4 hb5
      go_wp2
      go_roundw
      case rel => exact ⟨k + 1, by omega, by go_num, HP.out⟩
      case measure => simp [intOf]; omega
    · have : k = n := by omega
      subst this
      have HR := Lib.hid hR
      clear hR hlt
      go_wp2
      go_ret
      have h1 := HR.out
      rw [← HL.out, List.take_length] at h1
      have e : encs (l.length :: l) = enc l.length ++ encs l := by simp [encs]
      rw [e]
      exact h1.owned

/-- A cell that stays. -/
def KeepC (W : World) (b i : Nat) (u : Value) : Prop := ∀ V : World, RowKit.Below W.heap.size W V → V.cell? ⟨b, i, none⟩ = some u

theorem KeepC.on {W W' : World} {b i : Nat} {u : Value} (h : KeepC W b i u) (hb : RowKit.Below W.heap.size W W') : KeepC W' b i u := fun V hV => h V (hb.trans (hV.mono hb.size))

/-- Where the slices of two frames lie. -/
structure SameK (B : Nat) (p q : Fin 5 → Hd) (F : Fr) (W : World) : Prop where
  a0 : KeepC W B 11 (.slice (p 0).1 F.est.length (p 0).2)
  b0 : KeepC W (B + 1) 11 (.slice (q 0).1 F.est.length (q 0).2)
  a1 : KeepC W B 12 (.slice (p 1).1 F.aux.length (p 1).2)
  b1 : KeepC W (B + 1) 12 (.slice (q 1).1 F.aux.length (q 1).2)
  a2 : KeepC W B 13 (.slice (p 2).1 F.done.length (p 2).2)
  b2 : KeepC W (B + 1) 13 (.slice (q 2).1 F.done.length (q 2).2)
  a3 : KeepC W B 14 (.slice (p 3).1 F.held.length (p 3).2)
  b3 : KeepC W (B + 1) 14 (.slice (q 3).1 F.held.length (q 3).2)
  a4 : KeepC W B 15 (.slice (p 4).1 F.data.length (p 4).2)
  b4 : KeepC W (B + 1) 15 (.slice (q 4).1 F.data.length (q 4).2)
  sa : KeepS W (p 4).1 F.data.length (p 4).2 F.data
  sb : KeepS W (q 4).1 F.data.length (q 4).2 F.data

theorem SameK.on {B : Nat} {p q : Fin 5 → Hd} {F : Fr} {W W' : World} (h : SameK B p q F W) (hb : RowKit.Below W.heap.size W W') : SameK B p q F W' :=
  ⟨h.a0.on hb, h.b0.on hb, h.a1.on hb, h.b1.on hb, h.a2.on hb, h.b2.on hb, h.a3.on hb, h.b3.on hb, h.a4.on hb, h.b4.on hb, keepS_later h.sa hb, keepS_later h.sb hb⟩

def NumsGot (W : World) (l : List Nat) (e : Ending) (W' : World) : Prop := ∃ A n c, e = .returned (.slice A n c) ∧ KeepS W' A n c (encs (l.length :: l)) ∧ RowKit.Below W.heap.size W W'

theorem nums_keep {w0 : World} {A : Option Addr} {c : Nat} (l : List Nat) (hn : l.length ≤ 100) (hns : ∀ x ∈ l, x < 18446744073709551616) (h : Lies w0 w0.heap.size A (uvs l)) (W : World) (hb : RowKit.Below w0.heap.size w0 W) :
    Calls Try.prog 35 #[.slice A l.length c] W (NumsGot W l) :=
  (refNums_any A l.length c l W rfl hn (h.later hb) hns).mono fun e W' hO => by
    obtain ⟨A', n', c', rfl, hn', -, -, ho, hb'⟩ := hO
    exact ⟨A', n', c', rfl, keepS_of (by have := hn'.out; rw [bvs_length] at this; exact this) (Lies.of_own ho), hb'⟩

theorem runs_same {w0 : World} {A1 A2 : Option Addr} {c1 c2 : Nat} (l : List Rn) (hn : l.length ≤ 100) (h1 : Lies w0 w0.heap.size A1 (flat encRn l)) (h2 : Lies w0 w0.heap.size A2 (flat encRn l)) (W : World) (hb : RowKit.Below w0.heap.size w0 W) :
    Calls Try.prog 34 #[.slice A1 l.length c1, .slice A2 l.length c2] W fun e W' => e = .returned (.bool true) ∧ RowKit.Below W.heap.size W W' :=
  (sameRns_any A1 A2 l.length c1 l.length c2 l l W rfl rfl (by omega) (h1.later hb) (h2.later hb)).mono fun e W' h => by
    rw [decide_eq_true rfl] at h
    exact h

/-- Two frames that are boxed: what is known of them. -/
def SameB (w : World) (F : Fr) (w0 : World) : Prop :=
  RowKit.Below w.heap.size w w0 ∧ ∃ p q : Fin 5 → Hd, SameK w.heap.size p q F w0 ∧
    (∀ W, RowKit.Below w0.heap.size w0 W → Calls Try.prog 34 #[.slice (p 0).1 F.est.length (p 0).2, .slice (q 0).1 F.est.length (q 0).2] W fun e W' => e = .returned (.bool true) ∧ RowKit.Below W.heap.size W W') ∧
    (∀ W, RowKit.Below w0.heap.size w0 W → Calls Try.prog 34 #[.slice (p 1).1 F.aux.length (p 1).2, .slice (q 1).1 F.aux.length (q 1).2] W fun e W' => e = .returned (.bool true) ∧ RowKit.Below W.heap.size W W') ∧
    (∀ W, RowKit.Below w0.heap.size w0 W → Calls Try.prog 35 #[.slice (p 2).1 F.done.length (p 2).2] W (NumsGot W F.done)) ∧
    (∀ W, RowKit.Below w0.heap.size w0 W → Calls Try.prog 35 #[.slice (q 2).1 F.done.length (q 2).2] W (NumsGot W F.done)) ∧
    (∀ W, RowKit.Below w0.heap.size w0 W → Calls Try.prog 35 #[.slice (p 3).1 F.held.length (p 3).2] W (NumsGot W F.held)) ∧
    (∀ W, RowKit.Below w0.heap.size w0 W → Calls Try.prog 35 #[.slice (q 3).1 F.held.length (q 3).2] W (NumsGot W F.held))

/-- These cells are this frame's, and its slices lie there (whatever their room is). -/
def FrL (w : World) (F : Fr) (cs : Array Value) : Prop := ∃ p : Fin 5 → Hd, cs = frCells F (.slice (p 0).1 F.est.length (p 0).2) (.slice (p 1).1 F.aux.length (p 1).2) (.slice (p 2).1 F.done.length (p 2).2) (.slice (p 3).1 F.held.length (p 3).2) (.slice (p 4).1 F.data.length (p 4).2) ∧
    Lies w w.heap.size (p 0).1 (flat encRn F.est) ∧ Lies w w.heap.size (p 1).1 (flat encRn F.aux) ∧ Lies w w.heap.size (p 2).1 (uvs F.done) ∧ Lies w w.heap.size (p 3).1 (uvs F.held) ∧ Lies w w.heap.size (p 4).1 (bvs F.data)

theorem FrL.on {w w' : World} {F : Fr} {cs : Array Value} (h : FrL w F cs) (hb : RowKit.Below w.heap.size w w') : FrL w' F cs := by
  obtain ⟨p, e, h0, h1, h2, h3, h4⟩ := h
  exact ⟨p, e, h0.later hb, h1.later hb, h2.later hb, h3.later hb, h4.later hb⟩

theorem FrL.size {w : World} {F : Fr} {cs : Array Value} (h : FrL w F cs) : cs.size = 16 := by
  obtain ⟨p, rfl, _⟩ := h
  rfl

theorem same_boxed {w w0 : World} {F : Fr} {csa csb : Array Value} (hok : F.Ok) (ha : FrL w F csa) (hb : FrL w F csb) (hw : World.alloc (World.alloc w (.cells csa 40)) (.cells csb 40) = w0) : SameB w F w0 := by
  obtain ⟨hs, hG, hc1, hc2⟩ := box2 w w0 _ _ _ _ hw
  have hB := hG.below
  obtain ⟨p, rfl, p0, p1, p2, p3, p4⟩ := ha
  obtain ⟨q, rfl, q0, q1, q2, q3, q4⟩ := hb
  have ka : ∀ i u, (frCells F (.slice (p 0).1 F.est.length (p 0).2) (.slice (p 1).1 F.aux.length (p 1).2) (.slice (p 2).1 F.done.length (p 2).2) (.slice (p 3).1 F.held.length (p 3).2) (.slice (p 4).1 F.data.length (p 4).2))[i]? = some u → KeepC w0 w.heap.size i u := fun i u hu V hV => (hV.cell (p := ⟨w.heap.size, i, none⟩) (by show w.heap.size < _; omega)).trans (hc1 i u hu)
  have kb : ∀ i u, (frCells F (.slice (q 0).1 F.est.length (q 0).2) (.slice (q 1).1 F.aux.length (q 1).2) (.slice (q 2).1 F.done.length (q 2).2) (.slice (q 3).1 F.held.length (q 3).2) (.slice (q 4).1 F.data.length (q 4).2))[i]? = some u → KeepC w0 (w.heap.size + 1) i u := fun i u hu V hV => (hV.cell (p := ⟨w.heap.size + 1, i, none⟩) (by show w.heap.size + 1 < _; omega)).trans (hc2 i u hu)
  refine ⟨hB, p, q, ⟨ka 11 _ rfl, kb 11 _ rfl, ka 12 _ rfl, kb 12 _ rfl, ka 13 _ rfl, kb 13 _ rfl, ka 14 _ rfl, kb 14 _ rfl, ka 15 _ rfl, kb 15 _ rfl, keepS_of rfl (p4.later hB), keepS_of rfl (q4.later hB)⟩, ?_, ?_, ?_, ?_, ?_, ?_⟩
  · exact fun W hW => runs_same F.est hok.est (p0.later hB) (q0.later hB) W hW
  · exact fun W hW => runs_same F.aux hok.aux (p1.later hB) (q1.later hB) W hW
  · exact fun W hW => nums_keep F.done hok.done hok.doneN (p2.later hB) W hW
  · exact fun W hW => nums_keep F.done hok.done hok.doneN (q2.later hB) W hW
  · exact fun W hW => nums_keep F.held hok.held hok.heldN (p3.later hB) W hW
  · exact fun W hW => nums_keep F.held hok.held hok.heldN (q3.later hB) W hW

theorem FrL.at_ {w : World} {F : Fr} {cs : Array Value} (h : FrL w F cs) : cs[0]? = some (.int .u8 (F.kind : Int)) ∧ cs[1]? = some (.int .u8 (F.src : Int)) ∧ cs[2]? = some (.int .u8 (F.dst : Int)) ∧ cs[3]? = some (.int .u8 (F.id.f : Int)) ∧ cs[4]? = some (.int .u64 (F.id.s : Int)) ∧ cs[5]? = some (.int .u64 (F.seq : Int)) ∧ cs[6]? = some (.int .u32 (F.at_ : Int)) ∧ cs[7]? = some (.int .u32 (F.of_ : Int)) ∧ cs[8]? = some (.int .u32 (F.size : Int)) ∧ cs[9]? = some (.int .u64 (F.inst : Int)) ∧ cs[10]? = some (.int .u64 (F.rnd : Int)) := by
  obtain ⟨p, rfl, _⟩ := h
  exact ⟨rfl, rfl, rfl, rfl, rfl, rfl, rfl, rfl, rfl, rfl, rfl⟩

set_option maxRecDepth 100000 in
set_option maxHeartbeats 6400000 in
theorem refSame_any (F : Fr) (csa csb : Array Value) (w : World) (hok : F.Ok) (ha : FrL w F csa) (hb : FrL w F csb) :
    Calls Try.prog 23 #[.agg csa, .agg csb] w fun e w' => e = .returned (.bool true) ∧ RowKit.Below w.heap.size w w' := by
  have mixed := mixedOrders
  have hSB : Hid (∀ w0, World.alloc (World.alloc w (.cells csa 40)) (.cells csb 40) = w0 → SameB w F w0) := fun w0 h => same_boxed hok ha hb h
  obtain ⟨x0, x1, x2, x3, x4, x5, x6, x7, x8, x9, x10⟩ := ha.at_
  obtain ⟨y0, y1, y2, y3, y4, y5, y6, y7, y8, y9, y10⟩ := hb.at_
  have hid : ∀ W, (binOp .neq 34 (.agg #[.int .u8 (F.id.f : Int), .int .u64 (F.id.s : Int)]) (.agg #[.int .u8 (F.id.f : Int), .int .u64 (F.id.s : Int)])).run Try.prog W = .ok (.bool false) W := fun W => by
    rw [neqId F.id F.id W, decide_eq_true rfl]
    rfl
  have hgd := guardId
  clear hok ha hb mixed
  go_enter Try.func23, Try.ntmps23
  go_upto_region 3 with fail
  clear x0 y0 x1 y1 x2 y2 x3 y3 x4 y4 x5 y5 x6 y6 x7 y7 x8 y8 x9 y9 x10 y10 hid hgd
  generalize hw0 : World.alloc (World.alloc w _) _ = w0
  obtain ⟨hB0, p, q, hK0, hE, hX, hDa, hDb, hHa, hHb⟩ := hSB.out w0 hw0
  have HB0 := Lib.hid hB0
  have HK00 := Lib.hid hK0
  have HE := Lib.hid hE
  have HX := Lib.hid hX
  have HDa := Lib.hid hDa
  have HDb := Lib.hid hDb
  have HHa := Lib.hid hHa
  have HHb := Lib.hid hHb
  clear hw0 hSB hB0 hK0 hE hX hDa hDb hHa hHb
  have hbd : RowKit.Below w0.heap.size w0 w0.drew := (RowKit.Below.refl _ _).drew
  refine wp_region_held_drew (S := fun V => RowKit.Below w0.heap.size w0 V) (by kernel_rfl) hbd (fun hHeld => ?_)
  have HQ0 : Hid (RowKit.Below w0.heap.size w0 w0.drew) := hbd
  have HK0 := Lib.hid HK00.out
  clear hbd
  generalize w0.drew = X0 at hHeld HQ0 ⊢
  obtain ⟨ka, kb, kc, kd, ke, kf, kg, kh, ki, kj, sa, sb⟩ := HK0.out
  unfold KeepC at ka kb kc kd ke kf kg kh ki kj
  unfold KeepS at sa sb
  refine wpAnyH_takeAt (i := 0) (d := 79) (v := ?_) rfl rfl (by kernel_rfl) (by kernel_rfl) (by kernel_rfl) (fun _ _ _ h => h) (Or.inl ⟨by rfl, ?_⟩) hHeld ?_
  rotate_left
  · (intro _ hSw; go_simp; try with_reducible rfl)
  simp only [List.setIfInBounds_toArray, List.set_cons_zero, List.set_cons_succ]
  refine wpAnyH_takeAt (i := 1) (d := 80) (v := ?_) rfl rfl (by kernel_rfl) (by kernel_rfl) (by kernel_rfl) (fun _ _ _ h => h) (Or.inl ⟨by rfl, ?_⟩) hHeld ?_
  rotate_left
  · (intro _ hSw; go_simp; try with_reducible rfl)
  simp only [List.setIfInBounds_toArray, List.set_cons_zero, List.set_cons_succ]
  refine wpAnyH_takeAt (i := 2) (d := 81) (v := ?_) rfl rfl (by kernel_rfl) (by kernel_rfl) (by kernel_rfl) (fun _ _ _ h => h) (Or.inl ⟨by rfl, ?_⟩) hHeld ?_
  rotate_left
  · (intro _ hSw; go_simp; try with_reducible rfl)
  simp only [List.setIfInBounds_toArray, List.set_cons_zero, List.set_cons_succ]
  refine wpAnyH_takeAt (i := 3) (d := 82) (v := ?_) rfl rfl (by kernel_rfl) (by kernel_rfl) (by kernel_rfl) (fun _ _ _ h => h) (Or.inl ⟨by rfl, ?_⟩) hHeld ?_
  rotate_left
  · (intro _ hSw; go_simp; try with_reducible rfl)
  simp only [List.setIfInBounds_toArray, List.set_cons_zero, List.set_cons_succ]
  refine wpAnyH_ready (rs := [4]) (by kernel_rfl) (by simp) ?_
  refine AllReadyH.cons rfl (fun K hK => ?_) AllReadyH.nil
  go_simp
  refine (HE.out X0 HQ0.out).mono ?_
  rintro e X1 ⟨rfl, hbx⟩
  have HQ1 : Hid (RowKit.Below w0.heap.size w0 X1) := HQ0.out.trans (hbx.mono HQ0.out.size)
  have HK1 := Lib.hid (HK0.out.on HQ1.out)
  have hS1 := HQ1.out
  clear ka kb kc kd ke kf kg kh ki kj sa sb hbx
  obtain ⟨ka, kb, kc, kd, ke, kf, kg, kh, ki, kj, sa, sb⟩ := HK1.out
  unfold KeepC at ka kb kc kd ke kf kg kh ki kj
  unfold KeepS at sa sb
  refine hK.out _ _ hS1 (fun _ => ?_)
  clear hK K
  refine wpAnyH_mono (S' := fun V => RowKit.Below X1.heap.size X1 V) (fun V hV => hS1.trans (RowKit.Below.mono hV hS1.size)) _ _ _ _ ?_
  clear hS1 hHeld
  have hHeld := RowKit.Below.refl X1.heap.size X1
  refine wpAnyH_takeAt (i := 5) (d := 84) (v := ?_) rfl rfl (by kernel_rfl) (by kernel_rfl) (by kernel_rfl) (fun _ _ _ h => h) (Or.inl ⟨by rfl, ?_⟩) hHeld ?_
  rotate_left
  · (intro _ hSw; go_simp; try with_reducible rfl)
  simp only [List.setIfInBounds_toArray, List.set_cons_zero, List.set_cons_succ]
  refine wpAnyH_takeAt (i := 6) (d := 85) (v := ?_) rfl rfl (by kernel_rfl) (by kernel_rfl) (by kernel_rfl) (fun _ _ _ h => h) (Or.inl ⟨by rfl, ?_⟩) hHeld ?_
  rotate_left
  · (intro _ hSw; go_simp; try with_reducible rfl)
  simp only [List.setIfInBounds_toArray, List.set_cons_zero, List.set_cons_succ]
  refine wpAnyH_takeAt (i := 7) (d := 86) (v := ?_) rfl rfl (by kernel_rfl) (by kernel_rfl) (by kernel_rfl) (fun _ _ _ h => h) (Or.inl ⟨by rfl, ?_⟩) hHeld ?_
  rotate_left
  · (intro _ hSw; go_simp; try with_reducible rfl)
  simp only [List.setIfInBounds_toArray, List.set_cons_zero, List.set_cons_succ]
  refine wpAnyH_takeAt (i := 8) (d := 87) (v := ?_) rfl rfl (by kernel_rfl) (by kernel_rfl) (by kernel_rfl) (fun _ _ _ h => h) (Or.inl ⟨by rfl, ?_⟩) hHeld ?_
  rotate_left
  · (intro _ hSw; go_simp; try with_reducible rfl)
  simp only [List.setIfInBounds_toArray, List.set_cons_zero, List.set_cons_succ]
  refine wpAnyH_takeAt (i := 9) (d := 88) (v := ?_) rfl rfl (by kernel_rfl) (by kernel_rfl) (by kernel_rfl) (fun _ _ _ h => h) (Or.inl ⟨by rfl, ?_⟩) hHeld ?_
  rotate_left
  · (intro _ hSw; go_simp; try with_reducible rfl)
  simp only [List.setIfInBounds_toArray, List.set_cons_zero, List.set_cons_succ]
  refine wpAnyH_ready (rs := [10]) (by kernel_rfl) (by simp) ?_
  refine AllReadyH.cons rfl (fun K hK => ?_) AllReadyH.nil
  go_simp
  refine (HX.out X1 HQ1.out).mono ?_
  rintro e X2 ⟨rfl, hbx⟩
  have HQ2 : Hid (RowKit.Below w0.heap.size w0 X2) := HQ1.out.trans (hbx.mono HQ1.out.size)
  have HK2 := Lib.hid (HK0.out.on HQ2.out)
  have hS2 : RowKit.Below X1.heap.size X1 X2 := hbx
  clear ka kb kc kd ke kf kg kh ki kj sa sb hbx
  obtain ⟨ka, kb, kc, kd, ke, kf, kg, kh, ki, kj, sa, sb⟩ := HK2.out
  unfold KeepC at ka kb kc kd ke kf kg kh ki kj
  unfold KeepS at sa sb
  refine hK.out _ _ hS2 (fun _ => ?_)
  clear hK K
  refine wpAnyH_mono (S' := fun V => RowKit.Below X2.heap.size X2 V) (fun V hV => hS2.trans (RowKit.Below.mono hV hS2.size)) _ _ _ _ ?_
  clear hS2 hHeld
  have hHeld := RowKit.Below.refl X2.heap.size X2
  refine wpAnyH_takeAt (i := 11) (d := 90) (v := ?_) rfl rfl (by kernel_rfl) (by kernel_rfl) (by kernel_rfl) (fun _ _ _ h => h) (Or.inl ⟨by rfl, ?_⟩) hHeld ?_
  rotate_left
  · (intro _ hSw; go_simp; try with_reducible rfl)
  simp only [List.setIfInBounds_toArray, List.set_cons_zero, List.set_cons_succ]
  refine wpAnyH_takeAt (i := 12) (d := 91) (v := ?_) rfl rfl (by kernel_rfl) (by kernel_rfl) (by kernel_rfl) (fun _ _ _ h => h) (Or.inl ⟨by rfl, ?_⟩) hHeld ?_
  rotate_left
  · (intro _ hSw; go_simp; try with_reducible rfl)
  simp only [List.setIfInBounds_toArray, List.set_cons_zero, List.set_cons_succ]
  refine wpAnyH_takeAt (i := 13) (d := 92) (v := ?_) rfl rfl (by kernel_rfl) (by kernel_rfl) (by kernel_rfl) (fun _ _ _ h => h) (Or.inl ⟨by rfl, ?_⟩) hHeld ?_
  rotate_left
  · (intro _ hSw; go_simp; try with_reducible rfl)
  simp only [List.setIfInBounds_toArray, List.set_cons_zero, List.set_cons_succ]
  refine wpAnyH_takeAt (i := 14) (d := 93) (v := ?_) rfl rfl (by kernel_rfl) (by kernel_rfl) (by kernel_rfl) (fun _ _ _ h => h) (Or.inl ⟨by rfl, ?_⟩) hHeld ?_
  rotate_left
  · (intro _ hSw; go_simp; try with_reducible rfl)
  simp only [List.setIfInBounds_toArray, List.set_cons_zero, List.set_cons_succ]
  refine wpAnyH_takeAt (i := 17) (d := 96) (v := ?_) rfl rfl (by kernel_rfl) (by kernel_rfl) (by kernel_rfl) (fun _ _ _ h => h) (Or.inl ⟨by rfl, ?_⟩) hHeld ?_
  rotate_left
  · (intro _ hSw; go_simp; try with_reducible rfl)
  simp only [List.setIfInBounds_toArray, List.set_cons_zero, List.set_cons_succ]
  refine wpAnyH_takeAt (i := 18) (d := 97) (v := ?_) rfl rfl (by kernel_rfl) (by kernel_rfl) (by kernel_rfl) (fun _ _ _ h => h) (Or.inl ⟨by rfl, ?_⟩) hHeld ?_
  rotate_left
  · (intro _ hSw; go_simp; try with_reducible rfl)
  simp only [List.setIfInBounds_toArray, List.set_cons_zero, List.set_cons_succ]
  refine wpAnyH_ready (rs := [15]) (by kernel_rfl) (by simp) ?_
  refine AllReadyH.cons rfl (fun K hK => ?_) AllReadyH.nil
  go_simp
  refine (HDa.out X2 HQ2.out).mono ?_
  rintro e X3 ⟨A1, n1, c1, rfl, s1, hbx⟩
  unfold KeepS at s1
  have HQ3 : Hid (RowKit.Below w0.heap.size w0 X3) := HQ2.out.trans (hbx.mono HQ2.out.size)
  have HK3 := Lib.hid (HK0.out.on HQ3.out)
  have hS3 : RowKit.Below X2.heap.size X2 X3 := hbx
  clear ka kb kc kd ke kf kg kh ki kj sa sb hbx
  obtain ⟨ka, kb, kc, kd, ke, kf, kg, kh, ki, kj, sa, sb⟩ := HK3.out
  unfold KeepC at ka kb kc kd ke kf kg kh ki kj
  unfold KeepS at sa sb
  refine hK.out _ _ hS3 (fun _ => ?_)
  clear hK K
  refine wpAnyH_mono (S' := fun V => RowKit.Below X3.heap.size X3 V) (fun V hV => hS3.trans (RowKit.Below.mono hV hS3.size)) _ _ _ _ ?_
  clear hS3 hHeld
  have hHeld := RowKit.Below.refl X3.heap.size X3
  refine wpAnyH_takeAt (i := 16) (d := 95) (v := ?_) rfl rfl (by kernel_rfl) (by kernel_rfl) (by kernel_rfl) (fun _ _ _ h => h) (Or.inl ⟨by rfl, ?_⟩) hHeld ?_
  rotate_left
  · (intro _ hSw; go_simp; try with_reducible rfl)
  simp only [List.setIfInBounds_toArray, List.set_cons_zero, List.set_cons_succ]
  refine wpAnyH_ready (rs := [19]) (by kernel_rfl) (by simp) ?_
  refine AllReadyH.cons rfl (fun K hK => ?_) AllReadyH.nil
  go_simp
  refine (HDb.out X3 HQ3.out).mono ?_
  rintro e X4 ⟨A2, n2, c2, rfl, s2, hbx⟩
  unfold KeepS at s2
  have HQ4 : Hid (RowKit.Below w0.heap.size w0 X4) := HQ3.out.trans (hbx.mono HQ3.out.size)
  have HK4 := Lib.hid (HK0.out.on HQ4.out)
  have hS4 : RowKit.Below X3.heap.size X3 X4 := hbx
  clear ka kb kc kd ke kf kg kh ki kj sa sb hbx
  obtain ⟨ka, kb, kc, kd, ke, kf, kg, kh, ki, kj, sa, sb⟩ := HK4.out
  unfold KeepC at ka kb kc kd ke kf kg kh ki kj
  unfold KeepS at sa sb
  refine hK.out _ _ hS4 (fun _ => ?_)
  clear hK K
  refine wpAnyH_mono (S' := fun V => RowKit.Below X4.heap.size X4 V) (fun V hV => hS4.trans (RowKit.Below.mono hV hS4.size)) _ _ _ _ ?_
  clear hS4 hHeld
  have hHeld := RowKit.Below.refl X4.heap.size X4
  refine wpAnyH_takeAt (i := 20) (d := 99) (v := ?_) rfl rfl (by kernel_rfl) (by kernel_rfl) (by kernel_rfl) (fun _ _ _ h => h) (Or.inl ⟨by rfl, ?_⟩) hHeld ?_
  rotate_left
  · (intro _ hSw; go_simp; try with_reducible rfl)
  simp only [List.setIfInBounds_toArray, List.set_cons_zero, List.set_cons_succ]
  refine wpAnyH_takeAt (i := 21) (d := 100) (v := ?_) rfl rfl (by kernel_rfl) (by kernel_rfl) (by kernel_rfl) (fun _ _ _ h => h) (Or.inl ⟨by rfl, ?_⟩) hHeld ?_
  rotate_left
  · (intro _ hSw; go_simp; try with_reducible rfl)
  simp only [List.setIfInBounds_toArray, List.set_cons_zero, List.set_cons_succ]
  refine wpAnyH_takeAt (i := 22) (d := 101) (v := ?_) rfl rfl (by kernel_rfl) (by kernel_rfl) (by kernel_rfl) (fun _ _ _ h => h) (Or.inl ⟨by rfl, ?_⟩) hHeld ?_
  rotate_left
  · (intro _ hSw; go_simp; try with_reducible rfl)
  simp only [List.setIfInBounds_toArray, List.set_cons_zero, List.set_cons_succ]
  refine wpAnyH_takeAt (i := 23) (d := 102) (v := ?_) rfl rfl (by kernel_rfl) (by kernel_rfl) (by kernel_rfl) (fun _ _ _ h => h) (Or.inl ⟨by rfl, ?_⟩) hHeld ?_
  rotate_left
  · (intro _ hSw; go_simp; try with_reducible rfl)
  simp only [List.setIfInBounds_toArray, List.set_cons_zero, List.set_cons_succ]
  refine wpAnyH_takeAt (i := 24) (d := 103) (v := ?_) rfl rfl (by kernel_rfl) (by kernel_rfl) (by kernel_rfl) (fun _ _ _ h => h) (Or.inl ⟨by rfl, ?_⟩) hHeld ?_
  rotate_left
  · (intro _ hSw; go_simp; try with_reducible rfl)
  simp only [List.setIfInBounds_toArray, List.set_cons_zero, List.set_cons_succ]
  refine wpAnyH_takeAt (i := 25) (d := 104) (v := ?_) rfl rfl (by kernel_rfl) (by kernel_rfl) (by kernel_rfl) (fun _ _ _ h => h) (Or.inl ⟨by rfl, ?_⟩) hHeld ?_
  rotate_left
  · (intro _ hSw; go_simp; try with_reducible rfl)
  simp only [List.setIfInBounds_toArray, List.set_cons_zero, List.set_cons_succ]
  refine wpAnyH_takeAt (i := 28) (d := 107) (v := ?_) rfl rfl (by kernel_rfl) (by kernel_rfl) (by kernel_rfl) (fun _ _ _ h => h) (Or.inl ⟨by rfl, ?_⟩) hHeld ?_
  rotate_left
  · (intro _ hSw; go_simp; try with_reducible rfl)
  simp only [List.setIfInBounds_toArray, List.set_cons_zero, List.set_cons_succ]
  refine wpAnyH_takeAt (i := 29) (d := 108) (v := ?_) rfl rfl (by kernel_rfl) (by kernel_rfl) (by kernel_rfl) (fun _ _ _ h => h) (Or.inl ⟨by rfl, ?_⟩) hHeld ?_
  rotate_left
  · (intro _ hSw; go_simp; try with_reducible rfl)
  simp only [List.setIfInBounds_toArray, List.set_cons_zero, List.set_cons_succ]
  refine wpAnyH_ready (rs := [26]) (by kernel_rfl) (by simp) ?_
  refine AllReadyH.cons rfl (fun K hK => ?_) AllReadyH.nil
  go_simp
  refine (HHa.out X4 HQ4.out).mono ?_
  rintro e X5 ⟨A3, n3, c3, rfl, s3, hbx⟩
  unfold KeepS at s3
  have HQ5 : Hid (RowKit.Below w0.heap.size w0 X5) := HQ4.out.trans (hbx.mono HQ4.out.size)
  have HK5 := Lib.hid (HK0.out.on HQ5.out)
  have hS5 : RowKit.Below X4.heap.size X4 X5 := hbx
  clear ka kb kc kd ke kf kg kh ki kj sa sb hbx
  obtain ⟨ka, kb, kc, kd, ke, kf, kg, kh, ki, kj, sa, sb⟩ := HK5.out
  unfold KeepC at ka kb kc kd ke kf kg kh ki kj
  unfold KeepS at sa sb
  refine hK.out _ _ hS5 (fun _ => ?_)
  clear hK K
  refine wpAnyH_mono (S' := fun V => RowKit.Below X5.heap.size X5 V) (fun V hV => hS5.trans (RowKit.Below.mono hV hS5.size)) _ _ _ _ ?_
  clear hS5 hHeld
  have hHeld := RowKit.Below.refl X5.heap.size X5
  refine wpAnyH_takeAt (i := 27) (d := 106) (v := ?_) rfl rfl (by kernel_rfl) (by kernel_rfl) (by kernel_rfl) (fun _ _ _ h => h) (Or.inl ⟨by rfl, ?_⟩) hHeld ?_
  rotate_left
  · (intro _ hSw; go_simp; try with_reducible rfl)
  simp only [List.setIfInBounds_toArray, List.set_cons_zero, List.set_cons_succ]
  refine wpAnyH_ready (rs := [30]) (by kernel_rfl) (by simp) ?_
  refine AllReadyH.cons rfl (fun K hK => ?_) AllReadyH.nil
  go_simp
  refine (HHb.out X5 HQ5.out).mono ?_
  rintro e X6 ⟨A4, n4, c4, rfl, s4, hbx⟩
  unfold KeepS at s4
  have HQ6 : Hid (RowKit.Below w0.heap.size w0 X6) := HQ5.out.trans (hbx.mono HQ5.out.size)
  have HK6 := Lib.hid (HK0.out.on HQ6.out)
  have hS6 : RowKit.Below X5.heap.size X5 X6 := hbx
  clear ka kb kc kd ke kf kg kh ki kj sa sb hbx
  obtain ⟨ka, kb, kc, kd, ke, kf, kg, kh, ki, kj, sa, sb⟩ := HK6.out
  unfold KeepC at ka kb kc kd ke kf kg kh ki kj
  unfold KeepS at sa sb
  refine hK.out _ _ hS6 (fun _ => ?_)
  clear hK K
  refine wpAnyH_mono (S' := fun V => RowKit.Below X6.heap.size X6 V) (fun V hV => hS6.trans (RowKit.Below.mono hV hS6.size)) _ _ _ _ ?_
  clear hS6 hHeld
  have hHeld := RowKit.Below.refl X6.heap.size X6
  refine wpAnyH_takeAt (i := 31) (d := 110) (v := ?_) rfl rfl (by kernel_rfl) (by kernel_rfl) (by kernel_rfl) (fun _ _ _ h => h) (Or.inl ⟨by rfl, ?_⟩) hHeld ?_
  rotate_left
  · (intro _ hSw; go_simp; try with_reducible rfl)
  simp only [List.setIfInBounds_toArray, List.set_cons_zero, List.set_cons_succ]
  refine wpAnyH_takeAt (i := 32) (d := 111) (v := ?_) rfl rfl (by kernel_rfl) (by kernel_rfl) (by kernel_rfl) (fun _ _ _ h => h) (Or.inl ⟨by rfl, ?_⟩) hHeld ?_
  rotate_left
  · (intro _ hSw; go_simp; try with_reducible rfl)
  simp only [List.setIfInBounds_toArray, List.set_cons_zero, List.set_cons_succ]
  refine wpAnyH_takeAt (i := 33) (d := 112) (v := ?_) rfl rfl (by kernel_rfl) (by kernel_rfl) (by kernel_rfl) (fun _ _ _ h => h) (Or.inl ⟨by rfl, ?_⟩) hHeld ?_
  rotate_left
  · (intro _ hSw; go_simp; try with_reducible rfl)
  simp only [List.setIfInBounds_toArray, List.set_cons_zero, List.set_cons_succ]
  refine wpAnyH_takeAt (i := 34) (d := 113) (v := ?_) rfl rfl (by kernel_rfl) (by kernel_rfl) (by kernel_rfl) (fun _ _ _ h => h) (Or.inl ⟨by rfl, ?_⟩) hHeld ?_
  rotate_left
  · (intro _ hSw; go_simp; try with_reducible rfl)
  simp only [List.setIfInBounds_toArray, List.set_cons_zero, List.set_cons_succ]
  refine wpAnyH_takeAt (i := 35) (d := 114) (v := ?_) rfl rfl (by kernel_rfl) (by kernel_rfl) (by kernel_rfl) (fun _ _ _ h => h) (Or.inl ⟨by rfl, ?_⟩) hHeld ?_
  rotate_left
  · (intro _ hSw; go_simp; try with_reducible rfl)
  simp only [List.setIfInBounds_toArray, List.set_cons_zero, List.set_cons_succ]
  refine wpAnyH_takeAt (i := 36) (d := 115) (v := ?_) rfl rfl (by kernel_rfl) (by kernel_rfl) (by kernel_rfl) (fun _ _ _ h => h) (Or.inl ⟨by rfl, ?_⟩) hHeld ?_
  rotate_left
  · (intro _ hSw; go_simp; try with_reducible rfl)
  simp only [List.setIfInBounds_toArray, List.set_cons_zero, List.set_cons_succ]
  refine wpAnyH_takeAt (i := 37) (d := 116) (v := ?_) rfl rfl (by kernel_rfl) (by kernel_rfl) (by kernel_rfl) (fun _ _ _ h => h) (Or.inl ⟨by rfl, ?_⟩) hHeld ?_
  rotate_left
  · (intro _ hSw; go_simp; try with_reducible rfl)
  simp only [List.setIfInBounds_toArray, List.set_cons_zero, List.set_cons_succ]
  refine wpAnyH_takeAt (i := 38) (d := 117) (v := ?_) rfl rfl (by kernel_rfl) (by kernel_rfl) (by kernel_rfl) (fun _ _ _ h => h) (Or.inl ⟨by rfl, ?_⟩) hHeld ?_
  rotate_left
  · (intro _ hSw; go_simp; try with_reducible rfl)
  simp only [List.setIfInBounds_toArray, List.set_cons_zero, List.set_cons_succ]
  refine wpAnyH_takeAt (i := 39) (d := 118) (v := ?_) rfl rfl (by kernel_rfl) (by kernel_rfl) (by kernel_rfl) (fun _ _ _ h => h) (Or.inl ⟨by rfl, ?_⟩) hHeld ?_
  rotate_left
  · (intro _ hSw; go_simp; try with_reducible rfl)
  simp only [List.setIfInBounds_toArray, List.set_cons_zero, List.set_cons_succ]
  refine wpAnyH_takeAt (i := 40) (d := 119) (v := ?_) rfl rfl (by kernel_rfl) (by kernel_rfl) (by kernel_rfl) (fun _ _ _ h => h) (Or.inl ⟨by rfl, ?_⟩) hHeld ?_
  rotate_left
  · (intro _ hSw; go_simp; try with_reducible rfl)
  simp only [List.setIfInBounds_toArray, List.set_cons_zero, List.set_cons_succ]
  refine wpAnyH_takeAt (i := 41) (d := 120) (v := ?_) rfl rfl (by kernel_rfl) (by kernel_rfl) (by kernel_rfl) (fun _ _ _ h => h) (Or.inl ⟨by rfl, ?_⟩) hHeld ?_
  rotate_left
  · (intro _ hSw; go_simp; try with_reducible rfl)
  simp only [List.setIfInBounds_toArray, List.set_cons_zero, List.set_cons_succ]
  refine wpAnyH_takeAt (i := 42) (d := 121) (v := ?_) rfl rfl (by kernel_rfl) (by kernel_rfl) (by kernel_rfl) (fun _ _ _ h => h) (Or.inl ⟨by rfl, ?_⟩) hHeld ?_
  rotate_left
  · (intro _ hSw; go_simp; try with_reducible rfl)
  simp only [List.setIfInBounds_toArray, List.set_cons_zero, List.set_cons_succ]
  refine wpAnyH_takeAt (i := 43) (d := 4) (v := ?_) rfl rfl (by kernel_rfl) (by kernel_rfl) (by kernel_rfl) (fun _ _ _ h => h) (Or.inl ⟨by rfl, ?_⟩) hHeld ?_
  rotate_left
  · (intro _ hSw; go_simp; try with_reducible rfl)
  simp only [List.setIfInBounds_toArray, List.set_cons_zero, List.set_cons_succ]
  refine wpAnyH_done (by kernel_rfl) ?_ _
  go_wp2
  go_ret
  exact ⟨rfl, HB0.out.trans (HQ6.out.mono HB0.out.size)⟩

theorem FrL.sls {w : World} {F : Fr} {cs : Array Value} (h : FrL w F cs) : ∃ A1 c1 A2 c2 A3 c3 A4 c4 A5 c5, cs[11]? = some (.slice A1 F.est.length c1) ∧ cs[12]? = some (.slice A2 F.aux.length c2) ∧ cs[13]? = some (.slice A3 F.done.length c3) ∧ cs[14]? = some (.slice A4 F.held.length c4) ∧ cs[15]? = some (.slice A5 F.data.length c5) := by
  obtain ⟨p, rfl, _⟩ := h
  exact ⟨_, _, _, _, _, _, _, _, _, _, rfl, rfl, rfl, rfl, rfl⟩

/-- A slice reads as these cells, in a block that is not among D (whatever its room is). -/
def LiesX (w : World) (D : Nat → Prop) (A : Option Addr) (xs : List Value) : Prop := xs ≠ [] → ∃ b off, A = some ⟨b, off, none⟩ ∧ b < w.heap.size ∧ ¬ D b ∧ ∀ i u, xs[i]? = some u → w.cell? ⟨b, off + i, none⟩ = some u

theorem LiesX.lies {w : World} {D : Nat → Prop} {A : Option Addr} {xs : List Value} (h : LiesX w D A xs) : Lies w w.heap.size A xs := fun hn => by
  obtain ⟨b, off, e, h1, _, h2⟩ := h hn
  exact ⟨b, off, e, h1, h2⟩

theorem LiesX.nil {w : World} {D : Nat → Prop} {A : Option Addr} : LiesX w D A [] := fun h => absurd rfl h

theorem LiesX.kept {w w' : World} {D : Nat → Prop} {A : Option Addr} {xs : List Value} (h : LiesX w D A xs) (ho : OnlyE w w' D) : LiesX w' D A xs := fun hn => by
  obtain ⟨b, off, e, h1, hd, h2⟩ := h hn
  refine ⟨b, off, e, Nat.lt_of_lt_of_le h1 ho.1, hd, fun i u hu => ?_⟩
  rw [World.cell?_of_block (w := w) (ho.2 b h1 hd)]
  exact h2 i u hu

theorem LiesX.widen {w : World} {D D' : Nat → Prop} {A : Option Addr} {xs : List Value} (h : LiesX w D A xs) (hD : ∀ k, D' k → w.heap.size ≤ k ∨ D k) : LiesX w D' A xs := fun hn => by
  obtain ⟨b, off, e, h1, hd, h2⟩ := h hn
  exact ⟨b, off, e, h1, fun hk => (hD b hk).elim (fun h => absurd h1 (Nat.not_lt.2 h)) hd, h2⟩

theorem LiesX.of_own {w : World} {D : Nat → Prop} {A : Option Addr} {xs : List Value} {base n c k : Nat} {e : TypeId} (h : w.ownsRow base e k (.slice A n c) n xs) (hD : ∀ k, D k → k < base) : LiesX w D A xs := fun hn => by
  obtain ⟨b, off, eA, h1, h2⟩ := Lies.of_ownK h hn
  refine ⟨b, off, eA, h1, fun hk => ?_, h2⟩
  have := (h.lt b (by rw [eA]; rfl)).1
  have := hD b hk
  omega

/-- These cells are this frame's, its slices lie outside of D. -/
def FrX (w : World) (D : Nat → Prop) (F : Fr) (cs : Array Value) : Prop := ∃ p : Fin 5 → Hd, cs = frCells F (.slice (p 0).1 F.est.length (p 0).2) (.slice (p 1).1 F.aux.length (p 1).2) (.slice (p 2).1 F.done.length (p 2).2) (.slice (p 3).1 F.held.length (p 3).2) (.slice (p 4).1 F.data.length (p 4).2) ∧
    LiesX w D (p 0).1 (flat encRn F.est) ∧ LiesX w D (p 1).1 (flat encRn F.aux) ∧ LiesX w D (p 2).1 (uvs F.done) ∧ LiesX w D (p 3).1 (uvs F.held) ∧ LiesX w D (p 4).1 (bvs F.data)

theorem FrX.toL {w : World} {D : Nat → Prop} {F : Fr} {cs : Array Value} (h : FrX w D F cs) : FrL w F cs := by
  obtain ⟨p, e, h0, h1, h2, h3, h4⟩ := h
  exact ⟨p, e, h0.lies, h1.lies, h2.lies, h3.lies, h4.lies⟩

theorem FrX.kept {w w' : World} {D : Nat → Prop} {F : Fr} {cs : Array Value} (h : FrX w D F cs) (ho : OnlyE w w' D) : FrX w' D F cs := by
  obtain ⟨p, e, h0, h1, h2, h3, h4⟩ := h
  exact ⟨p, e, h0.kept ho, h1.kept ho, h2.kept ho, h3.kept ho, h4.kept ho⟩

theorem FrX.widen {w : World} {D D' : Nat → Prop} {F : Fr} {cs : Array Value} (h : FrX w D F cs) (hD : ∀ k, D' k → w.heap.size ≤ k ∨ D k) : FrX w D' F cs := by
  obtain ⟨p, e, h0, h1, h2, h3, h4⟩ := h
  exact ⟨p, e, h0.widen hD, h1.widen hD, h2.widen hD, h3.widen hD, h4.widen hD⟩

theorem FrX.put {w : World} {D : Nat → Prop} {F F' : Fr} {cs : Array Value} (h : FrX w D F cs) (i : Nat) (u : Value) (hc : ∀ ve vx vn vh vd, (frCells F ve vx vn vh vd).setIfInBounds i u = frCells F' ve vx vn vh vd)
    (e1 : F'.est = F.est) (e2 : F'.aux = F.aux) (e3 : F'.done = F.done) (e4 : F'.held = F.held) (e5 : F'.data = F.data) : FrX w D F' (cs.setIfInBounds i u) := by
  obtain ⟨p, e, h0, h1, h2, h3, h4⟩ := h
  refine ⟨p, ?_, ?_, ?_, ?_, ?_, ?_⟩
  · rw [e, hc, e1, e2, e3, e4, e5]
  · rw [e1]; exact h0
  · rw [e2]; exact h1
  · rw [e3]; exact h2
  · rw [e4]; exact h3
  · rw [e5]; exact h4

def setP (p : Fin 5 → Hd) (i : Fin 5) (x : Hd) : Fin 5 → Hd := fun j => if j = i then x else p j

theorem FrX.est {w : World} {D : Nat → Prop} {F : Fr} {cs : Array Value} (h : FrX w D F cs) (A : Option Addr) (n c : Nat) (l : List Rn) (hl : l.length = n) (hL : LiesX w D A (flat encRn l)) : FrX w D { F with est := l } (cs.setIfInBounds 11 (.slice A n c)) := by
  obtain ⟨p, rfl, h0, h1, h2, h3, h4⟩ := h
  subst hl
  exact ⟨setP p 0 (A, c), rfl, hL, h1, h2, h3, h4⟩

theorem FrX.aux {w : World} {D : Nat → Prop} {F : Fr} {cs : Array Value} (h : FrX w D F cs) (A : Option Addr) (n c : Nat) (l : List Rn) (hl : l.length = n) (hL : LiesX w D A (flat encRn l)) : FrX w D { F with aux := l } (cs.setIfInBounds 12 (.slice A n c)) := by
  obtain ⟨p, rfl, h0, h1, h2, h3, h4⟩ := h
  subst hl
  exact ⟨setP p 1 (A, c), rfl, h0, hL, h2, h3, h4⟩

theorem FrX.done {w : World} {D : Nat → Prop} {F : Fr} {cs : Array Value} (h : FrX w D F cs) (A : Option Addr) (n c : Nat) (l : List Nat) (hl : l.length = n) (hL : LiesX w D A (uvs l)) : FrX w D { F with done := l } (cs.setIfInBounds 13 (.slice A n c)) := by
  obtain ⟨p, rfl, h0, h1, h2, h3, h4⟩ := h
  subst hl
  exact ⟨setP p 2 (A, c), rfl, h0, h1, hL, h3, h4⟩

theorem FrX.held {w : World} {D : Nat → Prop} {F : Fr} {cs : Array Value} (h : FrX w D F cs) (A : Option Addr) (n c : Nat) (l : List Nat) (hl : l.length = n) (hL : LiesX w D A (uvs l)) : FrX w D { F with held := l } (cs.setIfInBounds 14 (.slice A n c)) := by
  obtain ⟨p, rfl, h0, h1, h2, h3, h4⟩ := h
  subst hl
  exact ⟨setP p 3 (A, c), rfl, h0, h1, h2, hL, h4⟩

theorem FrX.data {w : World} {D : Nat → Prop} {F : Fr} {cs : Array Value} (h : FrX w D F cs) (A : Option Addr) (n c : Nat) (l : List UInt8) (hl : l.length = n) (hL : LiesX w D A (bvs l)) : FrX w D { F with data := l } (cs.setIfInBounds 15 (.slice A n c)) := by
  obtain ⟨p, rfl, h0, h1, h2, h3, h4⟩ := h
  subst hl
  exact ⟨setP p 4 (A, c), rfl, h0, h1, h2, h3, hL⟩

/-- A frame is loaded, in a region that draws its order. -/
theorem yields_frame {ops : Array Oper} {S : World → Prop} {o : Oper} {a : Act} {x : Operand} {g : Nat} {cs : Array Value} (hw : Region.wanted o (yielded ops a.tmps) = true) (ho : o.op = .load 40 x) (hx : a.eval x = .pointer (some ⟨g, 0, none⟩)) (hs : cs.size = 16)
    (hS : ∀ V, S V → V.heap[g]? = some (.cells cs 40 (0, 0))) : YieldsIf Try.prog ops S o (.agg cs) a :=
  .inl ⟨hw, fun V hV => by
    unfold execOp
    simp only [ho, hx, Instr.loadAt, Instr.sureAddr, Sem.run_bind, Sem.run_pure, Result.andThen_ok, load_row33 (hS V hV) hs]⟩

end Go.Proofs.Ytmnjedpnhilndaa
