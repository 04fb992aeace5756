/- The walks of slices.Clone and of Set: new vectors, in memory of the call's own. -/
import Derived.Test.YtjhdaddemeegmaaVcA
import Derived.Laws.CopyOwn
import Derived.Laws.OwnMore
import Derived.Lib.SliceRun
namespace Go.Proofs.Ytjhdaddemeegmaa
open Go.RowKit

/-- append([]uint64{}, a...) -/
theorem wpList_anew {wb : World} {ops : Array Oper} {rest : List Oper} {o : Oper} {a : Act} {Q : Exit → Act → World → Prop} (hgd : o.guard = none) (s x : Operand)
    (ho : o.op = .call { callee := .builtin .append, args := #[s, x], argTypes := #[22, 22] }) (hs : a.eval s = .slice (some ⟨wb.heap.size, 0, none⟩) 0 0)
    (A : Option Addr) (n c B : Nat) (l : List Nat) (hx : a.eval x = .slice A n c) (hl : l.length = n) (hL : Lies wb B A (uvs l)) (hB : B ≤ wb.heap.size) (hn : n ≤ 1000)
    (h : ∀ v' w', w'.ownsRow wb.heap.size 23 1 v' n (uvs l) → Below wb.heap.size wb w' → wpList Try.prog ops Q rest (a.put o.dst v') w') :
    wpList Try.prog ops Q (o :: rest) a (wb.alloc (.cells #[] 23)) := by
  obtain ⟨i0, hi, hz0, hz1, hz2⟩ := info_parts Try.infoU
  have hal : Below wb.heap.size wb (wb.alloc (.cells #[] 23)) := (Below.refl _ _).alloc (Nat.le_refl _) _
  refine wpList_append_lst hgd s x 22 ho wb.heap.size 23 i0 (.int .u64 0) 8 Try.underlying22 hi hz0 hz1 hz2 rfl _ 0 [] hs (World.ownsRow_lit wb #[] 0 (Nat.le_refl _) (Nat.zero_le _) rfl) B A n c (uvs l) hx (by rw [uvs_length]; exact hl) (hL.below (hal.mono hB)) (uvs_one l) (by unfold maxLen; omega) (by omega) (by simp) ?_
  intro v' w' hown' _ hb' _
  refine h v' w' ?_ (hal.trans hb')
  simpa using hown'

theorem eqNilU (w : World) (A : Option Addr) (n c n' c' : Nat) : (binOp .eql 22 (.slice A n c) (.slice none n' c')).run Try.prog w = .ok (.bool A.isNone) w := Lib.run_eql_slice_nil w _ _ A n c n' c' Try.underlying22

set_option maxHeartbeats 400000 in
theorem clone_any (A : Option Addr) (n c : Nat) (l : List Nat) (w : World) (hl : l.length = n) (hn : n ≤ 1000) (h : Lies w w.heap.size A (uvs l)) :
    Calls Try.prog 25 #[.slice A n c] w (OwnedV w w.heap.size l) := by
  have q := eqNilU
  rcases A with _ | ad
  · have hnil : l = [] := by
      rcases l with _ | ⟨x, r⟩
      · rfl
      · obtain ⟨_, _, h, _⟩ := h (by simp [uvs])
        cases h
    subst hnil
    have : n = 0 := by simpa using hl.symm
    subst this
    go_enter Try.func25, Try.ntmps25
    go_wp2
    go_ret
    exact OwnedV.of (World.ownsRow_nil _ _ _ _) (Below.refl _ _)
  · have HL := Lib.hid hl
    clear hl
    go_enter Try.func25, Try.ntmps25
    go_wp2_with (at_builtin; refine wpList_anew rfl (.tmp 5) (.tmp 6) rfl rfl (some ad) n c _ l rfl HL.out h (Nat.le_refl _) hn ?_)
    intro v1 w1 hown hb
    have HO := Lib.hid hown
    clear hown
    go_wp2
    go_ret
    exact OwnedV.of HO.out hb

/-- A vector with a number for a process. -/
def longL (a : List Nat) (i : Nat) : List Nat := a ++ List.replicate (i + 1 - a.length) 0
def setL (a : List Nat) (i n : Nat) : List Nat := (longL a i).set i n
def setI (a : List Nat) (i : Int) (n : Nat) : List Nat := if 0 ≤ i ∧ i < 64 then setL a i.toNat n else a

theorem longL_length (a : List Nat) (i : Nat) : (longL a i).length = max a.length (i + 1) := by simp [longL]; omega
theorem setL_length (a : List Nat) (i n : Nat) : (setL a i n).length = max a.length (i + 1) := by simp [setL, longL_length]
theorem uvs_set (l : List Nat) (i n : Nat) : uvs (l.set i n) = (uvs l).set i (.int .u64 (n : Int)) := by simp [uvs, uv, List.map_set]
theorem uvs_replicate (k : Nat) : uvs (List.replicate k 0) = List.replicate k (.int .u64 0) := by simp [uvs, uv]

/-- copy(dst, a), where dst is a row of the call's own that is at least as long. -/
theorem wpList_front {w : World} {ops : Array Oper} {rest : List Oper} {o : Oper} {a : Act} {Q : Exit → Act → World → Prop} (hgd : o.guard = none) (d s : Operand)
    (ho : o.op = .call { callee := .builtin .copy, args := #[d, s], argTypes := #[22, 22] }) (base g N : Nat) (xs : List Value) (hd : a.eval d = .slice (some ⟨g, 0, none⟩) N N)
    (hown : w.ownsRow base 23 1 (.slice (some ⟨g, 0, none⟩) N N) N xs) (A : Option Addr) (n c B : Nat) (l : List Nat) (hx : a.eval s = .slice A n c) (hl : l.length = n) (hL : Lies w B A (uvs l)) (hn : n ≤ N)
    (h : ∀ w', w'.ownsRow base 23 1 (.slice (some ⟨g, 0, none⟩) N N) N (uvs l ++ xs.drop n) → Below base w w' → wpList Try.prog ops Q rest (a.put o.dst (goInt n)) w') :
    wpList Try.prog ops Q (o :: rest) a w := by
  rcases hown.2 with ⟨h', _⟩ | ⟨g', cap', cur, h', hb, hg, hnc, hcm, hcs, htake⟩
  · simp at h'
  · simp only [Value.slice.injEq, Option.some.injEq, Addr.mk.injEq, and_true, true_and] at h'
    obtain ⟨rfl, rfl⟩ := h'
    have hxs : cur.toList = xs := by rw [← htake, List.take_of_length_le (by simp [hcs])]
    subst hxs
    have hlen : cur.toList.length = N := by simpa using hcs
    refine wpList_copy_splice hgd d s 22 22 ho 23 Try.underlying22 (by kernel_rfl) _ _ N N n c hd hx g 0 cur.toList 23 (by simpa using hg) (uvs l) (by rw [uvs_length, hl]; show n = min n N; omega) ?_ (by rw [uvs_length, hl, hlen]; omega) (uvs_one l) base w (Below.refl _ _) hb ?_
    · intro hpos
      refine ⟨rfl, ?_⟩
      obtain ⟨b, off, rfl, _, hc⟩ := hL (by intro h0; rw [h0] at hpos; simp at hpos)
      exact ⟨_, rfl, fun j v hj => by rw [add_plain]; exact hc j v hj⟩
    · intro w' hG hB
      have hsp : splice cur.toList 0 (uvs l) = uvs l ++ cur.toList.drop n := by simp [splice, uvs_length, hl]
      have hle : (uvs l).length = n := by rw [uvs_length]; exact hl
      rw [hle]
      refine h w' ⟨by simp [hle]; omega, .inr ⟨g, N, _, rfl, hb, hG.out, Nat.le_refl _, hcm, ?_, ?_⟩⟩ hB
      · rw [hsp]; simp [hle]; omega
      · rw [hsp, List.toList_toArray, List.take_of_length_le (by simp [hle]; omega)]

theorem toList_madeCells_one' (z : Array Value) {v : Value} (hz : z = #[v]) (n : Nat) : (madeCells z n).toList = List.replicate n v := by
  subst hz
  exact toList_madeCells_one v n

set_option maxHeartbeats 1600000 in
theorem set_nat (A : Option Addr) (n c k x : Nat) (l : List Nat) (w : World) (hn : n ≤ 1000) (hk : k < 64) (hl : l.length = n) (h : Lies w w.heap.size A (uvs l)) :
    Calls Try.prog 10 #[.slice A n c, .int .i64 (k : Int), .int .u64 (x : Int)] w (OwnedV w w.heap.size (setL l k x)) := by
  obtain ⟨i0, hi, hz0, hz1, hz2⟩ := info_parts Try.infoU
  obtain ⟨N, hN⟩ : ∃ N, N = max n (k + 1) := ⟨_, rfl⟩
  have HL := Lib.hid hl
  have HX : Hid (uvs l ++ (List.replicate N (Value.int .u64 0)).drop n = uvs (longL l k)) := by
    show _ = _
    unfold longL
    rw [uvs_append, uvs_replicate, List.drop_replicate, hl, hN]
    congr 2
    omega
  have HY : Hid ((uvs (longL l k)).set k (.int .u64 (x : Int)) = uvs (setL l k x)) := by
    show _ = _
    unfold setL
    rw [uvs_set]
  have HZ : Hid (k < (uvs (longL l k)).length) := by
    show _ < _
    rw [uvs_length, longL_length]
    omega
  clear hl
  by_cases hnk : n < k + 1
  · obtain rfl : N = k + 1 := by omega
    clear hN
    go_enter Try.func10, Try.ntmps10
    go_wp2_with (at_make; refine wpList_make_full w rfl (.tmp 20) (.tmp 20) 22 rfl w.heap.size 23 i0 (.int .u64 0) 1 Try.underlying22 hi hz0 hz1 .i64 .i64 _ _ (k + 1) rfl rfl ?a1 ?a2 ?a3 ?a4 (Nat.le_refl _) ?_)
    case a1 => omega
    case a2 => omega
    case a3 => rw [hz2]; omega
    case a4 => unfold maxLen; omega
    intro w1 hown1 hg1
    have hb1 : Below w.heap.size w w1 := (Below.refl _ _).grown hg1 (Nat.le_refl _) (fun q hq => by cases hq)
    have hL1 := h.below hb1
    rw [toList_madeCells_one' _ rfl] at hown1
    generalize List.replicate _ (Value.int .u64 0) = Zs at hown1 HX
    clear hg1
    go_wp2_with (refine wpList_front (o := ⟨some 24, _, _, _, _, _⟩) rfl (.tmp 22) (.tmp 23) rfl w.heap.size w.heap.size (k + 1) _ rfl hown1 A n c _ l rfl HL.out hL1 (by omega) ?_)
    intro w2 hown2 hb2
    rw [HX.out] at hown2
    have c1 := hown2.cellAt k (by omega)
    have c2 := hown2.frozenAt k
    have hst := hown2.stored k (.int .u64 (x : Int))
    rw [HY.out] at hst
    obtain ⟨hown3, hg3⟩ := hst
    have hb3 : Below w.heap.size w (w2.setCell ⟨w.heap.size, k, none⟩ (.int .u64 (x : Int))) := (hb1.trans hb2).grown hg3 (hb1.trans hb2).size (fun q hq => by injection hq with hq; omega)
    rw [List.getElem?_eq_getElem (HZ.out)] at c1
    generalize (uvs (longL l k))[k]'(HZ.out) = old at c1
    have HO := Lib.hid hown3
    clear hown1 hown2 hown3 hg3
    go_wp2
    go_ret
    exact OwnedV.of HO.out hb3
  · obtain rfl : n = N := by omega
    clear hN
    go_enter Try.func10, Try.ntmps10
    go_wp2_with (at_make; refine wpList_make_full w rfl (.tmp 20) (.tmp 20) 22 rfl w.heap.size 23 i0 (.int .u64 0) 1 Try.underlying22 hi hz0 hz1 .i64 .i64 _ _ (n) rfl rfl ?b1 ?b2 ?b3 ?b4 (Nat.le_refl _) ?_)
    case b1 => omega
    case b2 => omega
    case b3 => rw [hz2]; omega
    case b4 => unfold maxLen; omega
    intro w1 hown1 hg1
    have hb1 : Below w.heap.size w w1 := (Below.refl _ _).grown hg1 (Nat.le_refl _) (fun q hq => by cases hq)
    have hL1 := h.below hb1
    rw [toList_madeCells_one' _ rfl] at hown1
    generalize List.replicate _ (Value.int .u64 0) = Zs at hown1 HX
    clear hg1
    go_wp2_with (refine wpList_front (o := ⟨some 24, _, _, _, _, _⟩) rfl (.tmp 22) (.tmp 23) rfl w.heap.size w.heap.size (n) _ rfl hown1 A n c _ l rfl HL.out hL1 (by omega) ?_)
    intro w2 hown2 hb2
    rw [HX.out] at hown2
    have c1 := hown2.cellAt k (by omega)
    have c2 := hown2.frozenAt k
    have hst := hown2.stored k (.int .u64 (x : Int))
    rw [HY.out] at hst
    obtain ⟨hown3, hg3⟩ := hst
    have hb3 : Below w.heap.size w (w2.setCell ⟨w.heap.size, k, none⟩ (.int .u64 (x : Int))) := (hb1.trans hb2).grown hg3 (hb1.trans hb2).size (fun q hq => by injection hq with hq; omega)
    rw [List.getElem?_eq_getElem (HZ.out)] at c1
    generalize (uvs (longL l k))[k]'(HZ.out) = old at c1
    have HO := Lib.hid hown3
    clear hown1 hown2 hown3 hg3
    go_wp2
    go_ret
    exact OwnedV.of HO.out hb3

theorem set_any (A : Option Addr) (n c : Nat) (i : Int) (x : Nat) (l : List Nat) (w : World) (hn : n ≤ 1000) (hl : l.length = n) (h : Lies w w.heap.size A (uvs l)) :
    Calls Try.prog 10 #[.slice A n c, .int .i64 i, .int .u64 (x : Int)] w (OwnedV w w.heap.size (setI l i x)) := by
  by_cases h0 : i < 0
  · have e : setI l i x = l := by unfold setI; rw [if_neg (by omega)]
    rw [e]
    have hc := clone_any A n c l w hl hn h
    clear hl h e
    go_enter Try.func10, Try.ntmps10
    go_wp2_with (go_at_call 25; refine hc.mono ?_; rintro e w1 ⟨A1, n1, c1, rfl, hn1, h1, h2, ho, hb⟩; have HO := Lib.hid ho; clear ho)
    go_ret
    exact ⟨A1, n1, c1, rfl, hn1, h1, h2, HO.out, hb⟩
  · by_cases h64 : i < 64
    · obtain ⟨k, rfl⟩ : ∃ k : Nat, i = (k : Int) := ⟨i.toNat, by omega⟩
      have e : setI l (k : Int) x = setL l k x := by unfold setI; rw [if_pos (by omega)]; rfl
      rw [e]
      exact set_nat A n c k x l w hn (by omega) hl h
    · have e : setI l i x = l := by unfold setI; rw [if_neg (by omega)]
      rw [e]
      have hc := clone_any A n c l w hl hn h
      clear hl h e
      go_enter Try.func10, Try.ntmps10
      go_wp2_with (go_at_call 25; refine hc.mono ?_; rintro e w1 ⟨A1, n1, c1, rfl, hn1, h1, h2, ho, hb⟩; have HO := Lib.hid ho; clear ho)
      go_ret
      exact ⟨A1, n1, c1, rfl, hn1, h1, h2, HO.out, hb⟩

end Go.Proofs.Ytjhdaddemeegmaa
