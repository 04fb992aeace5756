/- Stage 11: Put. -/
import Derived.Test.YtjkolneonhfjnaaDoorBsC
set_option maxRecDepth 20000
namespace Go.Proofs.YtjkolneonhfjnaaDoor
open Go.RowKit Go.Sort

def zvs (l : List Int) : List Value := l.map (Value.int .i64)
theorem zvs_len (l : List Int) : (zvs l).length = l.length := List.length_map _
theorem zvs_at {l : List Int} {k : Nat} (h : k < l.length) : (zvs l)[k]? = some (.int .i64 l[k]) := by simp [zvs, h]

theorem shl_val {k : Nat} (hk : k < 64) : IntKind.u64.wrap (2 ^ k) = ((2 ^ k : Nat) : Int) := by
  have h : (2 : Nat) ^ k < 2 ^ 64 := Nat.pow_lt_pow_right (by decide) hk
  rw [pow64] at h
  have e : (2 ^ k : Int) = ((2 ^ k : Nat) : Int) := by simp
  rw [e, IntKind.wrap_u64]
  generalize (2 : Nat) ^ k = b at h
  omega

section
variable {w w' : World} {p q : Nat} {m : List Bool} {ws : List Nat}

theorem SetW.put (h : SetW w p q m ws) {i : Nat} (hi : i < m.length) (hb : m.getD i false = false) :
    SetW ((w.setCell ⟨q, i / 64, none⟩ (.int .u64 ((ws.getD (i / 64) 0 ||| 2 ^ (i % 64) : Nat) : Int))).setCell ⟨p, 2, none⟩ (.int .i64 ((cntS m : Int) + 1))) p q (m.set i true) (ws.set (i / 64) (ws.getD (i / 64) 0 ||| 2 ^ (i % 64))) := by
  have hk := h.bits.idx hi
  have h1 := h.own.stored (i / 64) (.int .u64 ((ws.getD (i / 64) 0 ||| 2 ^ (i % 64) : Nat) : Int))
  have hrow : (w.setCell ⟨q, i / 64, none⟩ (.int .u64 ((ws.getD (i / 64) 0 ||| 2 ^ (i % 64) : Nat) : Int))).heap[p]? = w.heap[p]? := h1.2.block p h.lt (by intro e; injection e with e; exact h.ne e)
  have h2 : ((w.setCell ⟨q, i / 64, none⟩ (.int .u64 ((ws.getD (i / 64) 0 ||| 2 ^ (i % 64) : Nat) : Int))).setCell ⟨p, 2, none⟩ (.int .i64 ((cntS m : Int) + 1))).heap[p]? = some (.cells #[.slice (some ⟨q, 0, none⟩) ws.length ws.length, .int .i64 (m.length : Int), .int .i64 ((cntS m : Int) + 1)] 42 (0, 0)) := heap_setCell_same _ p 2 _ _ _ (hrow.trans h.row)
  have e : (uvs ws).set (i / 64) (.int .u64 ((ws.getD (i / 64) 0 ||| 2 ^ (i % 64) : Nat) : Int)) = uvs (ws.set (i / 64) (ws.getD (i / 64) 0 ||| 2 ^ (i % 64))) := by simp [uvs, uv, List.map_set]
  rw [e] at h1
  exact
  { row := by
      refine h2.trans ?_
      rw [cnt_new hi hb, List.length_set, List.length_set]
      rfl
    own := by
      have := own_only h1.1 (onlyE_set (D := fun k => k = p) rfl 2 (.int .i64 ((cntS m : Int) + 1))) (fun b hb hp => by injection hb with hb; subst hb; exact h.ne hp.symm)
      rwa [List.length_set]
    bits := h.bits.set hi
    fit := by rw [List.length_set]; exact h.fit
    ne := h.ne
    lt2 := by simpa [World.setCell] using h.lt2 }
theorem putOnly (w : World) (p q i x : Nat) (y : Int) : OnlyE w ((w.setCell ⟨q, i, none⟩ (.int .u64 (x : Int))).drew.setCell ⟨p, 2, none⟩ (.int .i64 y)) (DS p q) :=
  (onlyE_set (D := DS p q) (.inr rfl) i _).trans ((onlyE_drew _ _).trans (onlyE_set (D := DS p q) (.inl rfl) 2 _))
theorem SetW.drewn {w : World} {v u : Value} {a b : Addr} (h : SetW ((w.setCell a v).setCell b u) p q m ws) : SetW ((w.setCell a v).drew.setCell b u) p q m ws :=
  ⟨h.row, h.own, h.bits, h.fit, h.ne, h.lt2⟩

set_option maxHeartbeats 1600000 in
theorem put_any (h : SetAt w p q m) (A : Option Addr) (n c : Nat) (l : List Int) (hl : l.length = n) (hn : n ≤ 1000) (hA : LiesX w (DS p q) A (zvs l)) :
    Calls Tryd.prog 11 #[.pointer (some ⟨p, 0, none⟩), .slice A n c] w fun e w' => e = .returned (.int .i64 ((cntS (putS m l) - cntS m : Nat) : Int)) ∧ SetAt w' p q (putS m l) ∧ OnlyE w w' (DS p q) := by
  have H := Lib.hid h
  have HA := Lib.hid hA
  have HL := Lib.hid hl
  clear h hA
  go_enter Tryd.func11, Tryd.ntmps11
  go_wp2_with fail
  go_loopw [5, 10] (fun s5 s10 wr => ∃ k : Nat, k ≤ n ∧ s10 = .int .i64 (k : Int) ∧ s5 = .int .i64 ((cntS (putS m (l.take k)) - cntS m : Nat) : Int) ∧ SetAt wr p q (putS m (l.take k)) ∧ OnlyE w wr (DS p q)) (fun _ s10 _ => n - (Lib.intOf s10).toNat)
  case atStart => exact ⟨0, Nat.zero_le _, rfl, by simp [putS], H.out, OnlyE.refl _ _⟩
  case round =>
    obtain ⟨k, hk, rfl, rfl, hS, hO⟩ := hrel
    have HS := Lib.hid hS
    have HO := Lib.hid hO
    clear hS hO
    by_cases hkn : k < n
    · have hkl : k < l.length := by have := HL.out; omega
      obtain ⟨b, off, eA, hlt, hc⟩ := (HA.out.kept HO.out).lies.at_ (zvs_at hkl)
      subst eA
      have HN := Lib.hid (putS_next m l k hkl)
      generalize hx : l[k] = x at hc HN
      clear hlt hx
      have hcb : cntS (putS m (l.take k)) - cntS m ≤ 1000 := by
        have := (cnt_put m (l.take k)).2
        have h2 : (l.take k).length ≤ k := by rw [List.length_take]; omega
        omega
      have HNext : cntS (addS (putS m (l.take k)) x) - cntS m = (cntS (putS m (l.take k)) - cntS m) + (cntS (addS (putS m (l.take k)) x) - cntS (putS m (l.take k))) := by
        have h1 := (cnt_put m (l.take k)).1
        have h2 := (cnt_add (putS m (l.take k)) x).1
        omega
      have HN2 := Lib.hid HNext
      clear HNext
      generalize hC : cntS (putS m (l.take k)) - cntS m = C at hcb HN2
      clear hC
      generalize hM : putS m (l.take k) = M at HS HN HN2
      clear hM
      have hlt0 := HS.out.lt
      have hlen := hlt0.2.2.2
      by_cases hi : 0 ≤ x ∧ x < (M.length : Int)
      · obtain ⟨i, rfl⟩ := Int.eq_ofNat_of_zero_le hi.1
        have hiM : i < M.length := by omega
        clear hi
        have hp := place_yes HS.out i hiM
        have hh := has_yes HS.out i hiM
        cases hv : M.getD i false
        · rw [hv] at hh
          have HE := Lib.hid (show cntS (addS M (i : Int)) - cntS M = 1 by rw [addS_nat, cnt_new hiM hv]; omega)
          obtain ⟨ws, hS⟩ := HS.out
          have hkw := hS.bits.idx hiM
          have c0 := hS.c0
          have c2 := hS.c2
          have cw := hS.word hkw
          have f2 := hS.fr 2
          have fw : wr.frozen? ⟨q, i / 64, none⟩ = false := by have := hS.own.frozenAt (g := q) (i / 64); exact this
          have HP := Lib.hid (hS.put hiM hv).drewn
          have cp : (wr.setCell ⟨q, i / 64, none⟩ (.int .u64 ((ws.getD (i / 64) 0 ||| 2 ^ (i % 64) : Nat) : Int))).cell? ⟨p, 2, none⟩ = some (.int .i64 (cntS M : Int)) :=
            (World.cell?_of_block ((onlyE_set (D := fun k => k = q) rfl (i / 64) _).same p hS.lt hS.ne)).trans c2
          have fp : (wr.setCell ⟨q, i / 64, none⟩ (.int .u64 ((ws.getD (i / 64) 0 ||| 2 ^ (i % 64) : Nat) : Int))).frozen? ⟨p, 2, none⟩ = false :=
            frozen_of_row _ p 2 _ _ (((onlyE_set (D := fun k => k = q) rfl (i / 64) _).same p hS.lt hS.ne).trans hS.row)
          have hxlt := hS.bits.word_lt (i / 64)
          have hcM : cntS M ≤ 1048576 := Nat.le_trans (cnt_le M) hlen
          have e1 : (i : Int) / 64 = ((i / 64 : Nat) : Int) := by omega
          have e2 : IntKind.u64.wrap (2 ^ (i % 64)) = ((2 ^ (i % 64) : Nat) : Int) := shl_val (Nat.mod_lt _ (by decide))
          have e3 : bits BinOp.or .u64 (ws.getD (i / 64) 0 : Int) ((2 ^ (i % 64) : Nat) : Int) = ((ws.getD (i / 64) 0 ||| 2 ^ (i % 64) : Nat) : Int) :=
            bits_or_u64_nat _ _ hxlt (by rw [← pow64]; exact Nat.pow_lt_pow_right (by decide) (Nat.mod_lt _ (by decide)))
          have HO2 := Lib.hid (putOnly wr p q (i / 64) (ws.getD (i / 64) 0 ||| 2 ^ (i % 64)) ((cntS M : Int) + 1))
          have hiB : i < 1048576 := by omega
          clear hv hiM hlt0 hlen hxlt
          clear HS hS
          generalize ws.getD (i / 64) 0 ||| 2 ^ (i % 64) = y at HP HO2 e3 cp fp
          generalize ws.getD (i / 64) 0 = xw at cw e3
          generalize ws.set (i / 64) y = ws2 at HP
          generalize ws.length = nw at c0 hkw
          generalize (2 : Nat) ^ (i % 64) = zz at e2 e3
          generalize i / 64 = kk at e1 hkw cw fw HP HO2 cp fp
          go_wp2_with (first
            | (go_at_call 20; refine hp.mono ?_; rintro e w' ⟨rfl, rfl⟩)
            | (go_at_call 12; refine hh.mono ?_; rintro e w' ⟨rfl, rfl⟩))
          all_goals go_region
          all_goals go_wp2
          all_goals
            refine ⟨⟨k + 1, by omega, rfl, ?_, ?_, HO.out.trans HO2.out⟩, ?_⟩
            · rw [HN.out, HN2.out, HE.out]; simp
            · rw [HN.out, addS_nat]; exact ⟨_, HP.out⟩
            · simp [Lib.intOf]; omega
        · rw [hv] at hh
          have HE := Lib.hid (show addS M (i : Int) = M by rw [addS_nat, set_old hv])
          clear hv hiM hlt0 hlen
          go_wp2_with (first
            | (go_at_call 20; refine hp.mono ?_; rintro e w' ⟨rfl, rfl⟩)
            | (go_at_call 12; refine hh.mono ?_; rintro e w' ⟨rfl, rfl⟩))
          refine ⟨⟨k + 1, by omega, rfl, ?_, ?_, HO.out⟩, ?_⟩
          · rw [HN.out, HN2.out, HE.out]; simp
          · rw [HN.out, HE.out]; exact HS.out
          · simp [Lib.intOf]; omega
      · have hp := place_no HS.out x (by omega)
        have HE := Lib.hid (addS_out (m := M) (i := x) (by omega))
        clear hi hlt0 hlen
        go_wp2_with (go_at_call 20; refine hp.mono ?_; rintro e w' ⟨rfl, rfl⟩)
        refine ⟨⟨k + 1, by omega, rfl, ?_, ?_, HO.out⟩, ?_⟩
        · rw [HN.out, HN2.out, HE.out]; simp
        · rw [HN.out, HE.out]; exact HS.out
        · simp [Lib.intOf]; omega
    · obtain rfl : n = k := by omega
      have HE := Lib.hid (show l.take n = l from List.take_of_length_le (by have := HL.out; omega))
      clear hkn
      go_wp2_with fail
      go_ret
      rw [HE.out] at HS ⊢
      exact ⟨rfl, HS.out, HO.out⟩

end

end Go.Proofs.YtjkolneonhfjnaaDoor
