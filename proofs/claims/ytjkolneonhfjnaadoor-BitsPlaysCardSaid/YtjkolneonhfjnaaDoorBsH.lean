/- Stage 11: the document's New, Put, Count. -/
import Derived.Test.YtjkolneonhfjnaaDoorBsG
set_option maxRecDepth 20000
namespace Go.Proofs.YtjkolneonhfjnaaDoor
open Go.RowKit Go.Sort

theorem Tryd.infoB : (Tryd.prog.info? 4).map (fun i => (i.zero, i.size, i.bytes)) = some (some (.bool false), 1, 1) := by kernel_rfl

/-- Flags as cells. -/
def bls (m : List Bool) : List Value := m.map Value.bool
theorem bls_len (m : List Bool) : (bls m).length = m.length := List.length_map _
theorem bls_append (a b : List Bool) : bls (a ++ b) = bls a ++ bls b := List.map_append
theorem bls_at {m : List Bool} {k : Nat} (h : k < m.length) : (bls m)[k]? = some (.bool (m.getD k false)) := by simp [bls, h]
theorem bls_one (m : List Bool) : ∀ u ∈ bls m, u.oneCell' = true := by
  intro u hu
  simp only [bls, List.mem_map] at hu
  obtain ⟨c, _, rfl⟩ := hu
  rfl

/-- A new slice of the call's own, that holds these flags. -/
def OwnedF (w : World) (base : Nat) (m : List Bool) (A : Option Addr) (n c : Nat) (w' : World) : Prop :=
  m.length = n ∧ n ≤ c ∧ c ≤ maxLen ∧ w'.ownsRow base 4 1 (.slice A n c) n (bls m) ∧ RowKit.Below base w w'

/-- append(owned, false). -/
theorem wpList_pushF {wb : World} {ops : Array Oper} {rest : List Oper} {o : Oper} {a : Act} {Q : Exit → Act → World → Prop} (hgd : o.guard = none) (s x : Operand)
    (ho : o.op = .call { callee := .builtin .append, args := #[s, x], argTypes := #[26, 26] }) (base n : Nat) (l : List Bool) (y : Bool) (v : Value) (hs : a.eval s = v) (hx : a.eval x = .slice (some ⟨wb.heap.size, 0, none⟩) 1 1)
    (hown : wb.ownsRow base 4 1 v n (bls l)) (hn : n ≤ 1048576) (hbase : base ≤ wb.heap.size)
    (h : ∀ v' w', w'.ownsRow base 4 1 v' (n + 1) (bls (l ++ [y])) → RowKit.Below base wb w' → wpList Tryd.prog ops Q rest (a.put o.dst v') w') :
    wpList Tryd.prog ops Q (o :: rest) a (wb.alloc (.cells #[.bool y] 4)) := by
  obtain ⟨i0, hi, e0⟩ := Option.map_eq_some_iff.1 Tryd.infoB
  have e1 := Prod.mk.inj e0
  have e2 := Prod.mk.inj e1.2
  have hb : RowKit.Below base wb (wb.alloc (.cells #[.bool y] 4)) := (RowKit.Below.refl _ _).alloc hbase _
  have hown2 := own_below hown ((RowKit.Below.refl _ _).alloc (Nat.le_refl _) (.cells #[.bool y] 4))
  refine wpList_append_lstK hgd s x 26 ho base 1 (by decide) 4 i0 (.bool false) 1 Tryd.underlying26 hi e1.1 e2.1 e2.2 rfl v n (bls l) hs hown2 (wb.heap.size + 1) (some ⟨wb.heap.size, 0, none⟩) 1 1 [.bool y] hx rfl
    (lies_new wb #[.bool y] 4) (by intro u hu; simp at hu; subst hu; rfl) (by unfold maxLen; omega) (by omega) (by simp; omega) ?_
  intro v' w' h1 _ h3 _
  refine h v' w' ?_ (hb.trans h3)
  rw [bls_append]
  exact h1
/-- append([]bool{}, l...). -/
theorem wpList_anewF {wb : World} {ops : Array Oper} {rest : List Oper} {o : Oper} {a : Act} {Q : Exit → Act → World → Prop} (hgd : o.guard = none) (s x : Operand)
    (ho : o.op = .call { callee := .builtin .append, args := #[s, x], argTypes := #[26, 26] }) (hs : a.eval s = .slice (some ⟨wb.heap.size, 0, none⟩) 0 0)
    (A : Option Addr) (n c : Nat) (l : List Bool) (hx : a.eval x = .slice A n c) (hl : l.length = n) (hL : Lies wb wb.heap.size A (bls l)) (hn : n ≤ 1048576)
    (h : ∀ v' w', w'.ownsRow wb.heap.size 4 1 v' n (bls l) → RowKit.Below wb.heap.size wb w' → wpList Tryd.prog ops Q rest (a.put o.dst v') w') :
    wpList Tryd.prog ops Q (o :: rest) a (wb.alloc (.cells #[] 4)) := by
  obtain ⟨i0, hi, e0⟩ := Option.map_eq_some_iff.1 Tryd.infoB
  have e1 := Prod.mk.inj e0
  have e2 := Prod.mk.inj e1.2
  have hal : RowKit.Below wb.heap.size wb (wb.alloc (.cells #[] 4)) := (RowKit.Below.refl _ _).alloc (Nat.le_refl _) _
  refine wpList_append_lstK hgd s x 26 ho wb.heap.size 1 (by decide) 4 i0 (.bool false) 1 Tryd.underlying26 hi e1.1 e2.1 e2.2 rfl _ 0 [] hs (World.ownsRow_lit wb #[] 0 (Nat.le_refl _) (Nat.zero_le _) rfl) wb.heap.size A n c (bls l) hx (by rw [bls_len]; omega)
    (hL.below hal) (bls_one l) (by unfold maxLen; omega) (by omega) (by simp) ?_
  intro v' w' hown' _ hb' _
  refine h v' w' ?_ (hal.trans hb')
  simpa using hown'

section
variable {w w' : World} {m : List Bool}

set_option maxHeartbeats 800000 in
theorem refNew_any (z : Int) (n : Nat) (hz : z.toNat = n) (hn : n ≤ 2000) (w : World) :
    Calls Tryd.prog 9 #[.int .i64 z] w fun e w' => ∃ A c, e = .returned (.slice A n c) ∧ OwnedF w w.heap.size (List.replicate n false) A n c w' := by
  go_enter Tryd.func9, Tryd.ntmps9
  go_wp2_with fail
  have HST := Lib.hid (show (w.alloc (.cells #[] 4)).ownsRow w.heap.size 4 1 (.slice (some ⟨w.heap.size, 0, none⟩) 0 0) 0 (bls (List.replicate 0 false)) from World.ownsRow_lit w #[] 0 (Nat.le_refl _) (Nat.zero_le _) rfl)
  have HB0 := Lib.hid (show RowKit.Below w.heap.size w (w.alloc (.cells #[] 4)) from (RowKit.Below.refl _ _).alloc (Nat.le_refl _) _)
  generalize hW : World.alloc w _ = w0
  rw [hW] at HST HB0
  clear hW
  go_loopw [3, 4] (fun s3 s4 wr => ∃ (k c : Nat) (A : Option Addr), s4 = .int .i64 (k : Int) ∧ s3 = .slice A k c ∧ k ≤ n ∧ wr.ownsRow w.heap.size 4 1 (.slice A k c) k (bls (List.replicate k false)) ∧ RowKit.Below w.heap.size w wr) (fun _ s4 _ => n - (Lib.intOf s4).toNat)
  case atStart => exact ⟨0, 0, _, rfl, rfl, Nat.zero_le _, HST.out, HB0.out⟩
  case round =>
    obtain ⟨k, c, A, rfl, rfl, hk, hown, hb⟩ := hrel
    have HO := Lib.hid hown
    have HB := Lib.hid hb
    have hbase := hb.size
    clear hown hb
    by_cases hkn : k < n
    · have hd : decide ((k : Int) < z) = true := by simp; omega
      have hd2 : decide ((k : Int) < 1048576) = true := by simp; omega
      have ho := HO.out
      have hkB : k ≤ 2000 := by omega
      go_wp2_with (at_builtin; refine wpList_pushF rfl (.tmp 15) (.tmp 16) rfl _ k (List.replicate k false) false _ rfl rfl ho ?a1 hbase ?_)
      case a1 => omega
      intro v2 w2 hown2 hb2
      obtain ⟨A2, c2, rfl, hc1, hc2⟩ := own_slice hown2
      have HO2 := Lib.hid hown2
      have HB2 := Lib.hid (HB.out.trans hb2)
      clear hown2 hb2 ho HO
      go_wp2_with fail
      refine ⟨⟨k + 1, c2, A2, rfl, rfl, hkn, ?_, HB2.out⟩, by simp [Lib.intOf]; omega⟩
      rw [List.replicate_succ']; exact HO2.out
    · have hd : decide ((k : Int) < z) = false := by simp; omega
      obtain rfl : n = k := by omega
      obtain ⟨A', c', e, hc1, hc2⟩ := own_slice HO.out
      injection e with e1 _ e3
      subst e1 e3
      go_wp2_with fail
      go_ret
      exact ⟨_, _, rfl, by simp, hc1, hc2, HO.out, HB.out⟩

set_option maxHeartbeats 800000 in
theorem refCount_any (A : Option Addr) (n c : Nat) (hl : m.length = n) (hn : n ≤ 2000) (hL : Lies w w.heap.size A (bls m)) :
    Calls Tryd.prog 13 #[.slice A n c] w fun e w' => e = .returned (.int .i64 (cntS m : Int)) ∧ w' = w := by
  have HL := Lib.hid hl
  have H := Lib.hid hL
  clear hl hL
  go_enter Tryd.func13, Tryd.ntmps13
  go_wp2_with fail
  go_loopw [3, 7] (fun s3 s7 wr => ∃ k : Nat, s7 = .int .i64 (k : Int) ∧ s3 = .int .i64 (cntS (m.take k) : Int) ∧ k ≤ n ∧ wr = w) (fun _ s7 _ => n - (Lib.intOf s7).toNat)
  case atStart => exact ⟨0, rfl, by simp [cntS], Nat.zero_le _, rfl⟩
  case round =>
    obtain ⟨k, rfl, rfl, hk, rfl⟩ := hrel
    by_cases hkn : k < n
    · have hkl : k < m.length := by have := HL.out; omega
      obtain ⟨b, off, eA, hlt, hc⟩ := H.out.at_ (bls_at hkl)
      subst eA
      have e : cntS (m.take (k + 1)) = cntS (m.take k) + (if m.getD k false then 1 else 0) := by
        unfold cntS
        rw [List.take_succ_eq_append_getElem hkl, List.count_append]
        have : m.getD k false = m[k] := by simp [List.getD, hkl]
        rw [this]
        cases m[k] <;> simp
      have hB : cntS (m.take k) ≤ 2000 := by
        have := cnt_le (m.take k)
        rw [List.length_take] at this
        omega
      have HE := Lib.hid e
      clear e hlt hkl
      generalize cntS (m.take k) = C at hB HE
      cases hv : m.getD k false
      · rw [hv] at hc HE
        have HV := Lib.hid hv
        clear hv
        go_wp2_with fail
        refine ⟨⟨k + 1, rfl, ?_, hkn, trivial⟩, by simp [Lib.intOf]; omega⟩
        rw [HE.out]; rfl
      · rw [hv] at hc HE
        have HV := Lib.hid hv
        clear hv
        go_wp2_with fail
        refine ⟨⟨k + 1, rfl, ?_, hkn, trivial⟩, by simp [Lib.intOf]; omega⟩
        rw [HE.out]; rfl
    · obtain rfl : n = k := by omega
      have e : m.take n = m := List.take_of_length_le (by have := HL.out; omega)
      rw [e]
      go_wp2_with fail
      go_ret
      exact ⟨rfl, rfl⟩

theorem refPut_old (A : Option Addr) (n c : Nat) (i : Int) (hl : m.length = n) (hL : Lies w w.heap.size A (bls m)) (hi : i < 0 ∨ (m.length : Int) ≤ i ∨ inS m i = true) :
    Calls Tryd.prog 10 #[.slice A n c, .int .i64 i] w fun e w' => e = .returned (.tuple #[.slice A n c, .int .i64 0]) ∧ w' = w := by
  by_cases h0 : i < 0
  · have hd : decide (i < 0) = true := by simpa using h0
    clear hi
    go_enter Tryd.func10, Tryd.ntmps10
    go_wp2
    go_ret2
    exact ⟨rfl, rfl⟩
  · obtain ⟨k, rfl⟩ := Int.eq_ofNat_of_zero_le (Int.not_lt.1 h0)
    have hd : decide (((k : Nat) : Int) < 0) = false := by simp
    by_cases h1 : n ≤ k
    · have hd1 : decide ((n : Int) ≤ ((k : Nat) : Int)) = true := by simp; omega
      clear hi h0 hL hl
      go_enter Tryd.func10, Tryd.ntmps10
      go_wp2
      go_ret2
      exact ⟨rfl, rfl⟩
    · have hkl : k < m.length := by omega
      have hv : m.getD k false = true := by
        rcases hi with h | h | h
        · omega
        · omega
        · rw [show inS m ((k : Nat) : Int) = m.getD k false from inS_nat m k] at h; exact h
      have hd1 : decide ((n : Int) ≤ ((k : Nat) : Int)) = false := by simp; omega
      obtain ⟨b, off, eA, hlt, hc⟩ := hL.at_ (bls_at hkl)
      subst eA
      rw [hv] at hc
      have hkn : k < n := by omega
      clear hi h0 hL hl hv hkl hlt
      go_enter Tryd.func10, Tryd.ntmps10
      go_wp2
      go_ret2
      exact ⟨rfl, rfl⟩

set_option maxHeartbeats 800000 in
theorem refPut_new (A : Option Addr) (n c : Nat) (k : Nat) (hl : m.length = n) (hL : Lies w w.heap.size A (bls m)) (hn : n ≤ 2000) (hk : k < m.length) (hv : m.getD k false = false) :
    Calls Tryd.prog 10 #[.slice A n c, .int .i64 (k : Int)] w fun e w' => ∃ A' c', e = .returned (.tuple #[.slice A' n c', .int .i64 1]) ∧ OwnedF w w.heap.size (m.set k true) A' n c' w' := by
  have hd : decide ((k : Int) < 0) = false := by simp
  have hd1 : decide ((n : Int) ≤ (k : Int)) = false := by simp; omega
  have H := Lib.hid hL
  have HL := Lib.hid hl
  obtain ⟨b, off, eA, hlt, hc⟩ := hL.at_ (bls_at hk)
  subst eA
  rw [hv] at hc
  have hkn : k < n := by omega
  have HE : Hid ((bls m).set k (.bool true) = bls (m.set k true)) := by show _ = _; simp [bls, List.map_set]
  clear hL hl hv hk hlt
  go_enter Tryd.func10, Tryd.ntmps10
  go_wp2_with (at_builtin; refine wpList_anewF (wb := w) rfl (.tmp 22) (.tmp 23) rfl rfl (some ⟨b, off, none⟩) n c m rfl HL.out H.out ?a1 ?_)
  case a1 => omega
  intro v' w1 hown hb
  obtain ⟨A', c', rfl, hc1, hc2⟩ := own_slice hown
  obtain ⟨g, cap, hv, hg1, hg2⟩ := hown.form (by omega)
  injection hv with hv _ hcc
  subst hv hcc
  have hst := hown.stored k (.bool true)
  rw [HE.out] at hst
  have HO := Lib.hid hst.1
  have HB := Lib.hid (hb.grown hst.2 hb.size (fun q hq => by injection hq with hq; omega))
  have c1 := hown.cellAt k (by omega)
  have c2 := hown.frozenAt k
  have hkb : k < (bls m).length := by rw [bls_len]; have := HL.out; omega
  rw [List.getElem?_eq_getElem hkb] at c1
  generalize (bls m)[k]'hkb = old at c1
  clear hown hb hst hkb
  go_wp2
  go_ret2
  exact ⟨_, _, rfl, by rw [List.length_set]; exact HL.out, hc1, hc2, HO.out, HB.out⟩
end

end Go.Proofs.YtjkolneonhfjnaaDoor
