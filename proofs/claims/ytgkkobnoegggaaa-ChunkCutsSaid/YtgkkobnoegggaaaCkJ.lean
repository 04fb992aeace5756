/- Stage 12: the document's Cuts. -/
import Derived.Test.YtgkkobnoegggaaaCkI
set_option maxRecDepth 20000
namespace Go.Proofs.Ytgkkobnoegggaaa
open Go.RowKit Go.Sort

theorem Try.infoB : (Try.prog.info? 29).map (fun i => (i.zero, i.size, i.bytes)) = some (some (.slice none 0 0), 1, 24) := by kernel_rfl

/-- append(owned, row). -/
theorem wpList_pushB {wb : World} {ops : Array Oper} {rest : List Oper} {o : Oper} {a : Act} {Q : Exit → Act → World → Prop} (hgd : o.guard = none) (s x : Operand)
    (ho : o.op = .call { callee := .builtin .append, args := #[s, x], argTypes := #[30, 30] }) (base n : Nat) (vs : List Value) (A : Option Addr) (m c : Nat) (v : Value) (hs : a.eval s = v) (hx : a.eval x = .slice (some ⟨wb.heap.size, 0, none⟩) 1 1)
    (hown : wb.ownsRow base 29 1 v n vs) (hn : n ≤ 1048576) (hbase : base ≤ wb.heap.size)
    (h : ∀ v' w', w'.ownsRow base 29 1 v' (n + 1) (vs ++ [.slice A m c]) → RowKit.Below base wb w' → wpList Try.prog ops Q rest (a.put o.dst v') w') :
    wpList Try.prog ops Q (o :: rest) a (wb.alloc (.cells #[.slice A m c] 29)) := by
  obtain ⟨i0, hi, e0⟩ := Option.map_eq_some_iff.1 Try.infoB
  have e1 := Prod.mk.inj e0
  have e2 := Prod.mk.inj e1.2
  have hb : RowKit.Below base wb (wb.alloc (.cells #[.slice A m c] 29)) := (RowKit.Below.refl _ _).alloc hbase _
  have hown2 := own_below hown ((RowKit.Below.refl _ _).alloc (Nat.le_refl _) (.cells #[.slice A m c] 29))
  refine wpList_append_lstK hgd s x 30 ho base 1 (by decide) 29 i0 (.slice none 0 0) 24 Try.underlying30 hi e1.1 e2.1 e2.2 rfl v n vs hs hown2 (wb.heap.size + 1) (some ⟨wb.heap.size, 0, none⟩) 1 1 [.slice A m c] hx rfl
    (lies_new wb #[.slice A m c] 29) (by intro u hu; simp at hu; subst hu; rfl) (by unfold maxLen; omega) (by omega) (by simp; omega) ?_
  intro v' w' h1 _ h3 _
  exact h v' w' h1 (hb.trans h3)

theorem BytRows.nil {w : World} {B : Nat} : BytRows w B [] [] := ⟨rfl, fun _ h => absurd h (Nat.not_lt_zero _)⟩
theorem BytRows.snoc {w : World} {B : Nat} {vs : List Value} {ls : List (List UInt8)} (h : BytRows w B vs ls) {v : Value} {l : List UInt8} (hv : Byt w B v l) : BytRows w B (vs ++ [v]) (ls ++ [l]) := by
  refine ⟨by rw [List.length_append, List.length_append, h.1]; rfl, fun i h1 h2 => ?_⟩
  rw [List.getElem_append, List.getElem_append]
  by_cases hi : i < vs.length
  · rw [dif_pos hi, dif_pos (by rw [← h.1]; exact hi)]
    exact h.2 i hi _
  · rw [dif_neg hi, dif_neg (by rw [← h.1]; exact hi)]
    simpa using hv

def chs (l : List UInt8) (k j : Nat) : List (List UInt8) := (List.range j).map (chL l k)
theorem chs_len (l : List UInt8) (k j : Nat) : (chs l k j).length = j := by simp [chs]
theorem chs_at (l : List UInt8) (k j i : Nat) (h : i < (chs l k j).length) : (chs l k j)[i] = chL l k i := by simp [chs]
theorem chs_succ (l : List UInt8) (k j : Nat) : chs l k (j + 1) = chs l k j ++ [chL l k j] := by simp [chs, List.range_succ]

/-- A list of rows of the call's own; the rows lie in what was there. -/
def RowsOut (w : World) (ls : List (List UInt8)) (v : Value) (w' : World) : Prop := ∃ vs, w'.ownsRow w.heap.size 29 1 v ls.length vs ∧ BytRows w w.heap.size vs ls ∧ RowKit.Below w.heap.size w w'
def RowsEnd (w : World) (ls : List (List UInt8)) (e : Ending) (w' : World) : Prop := ∃ A n c, e = .returned (.slice A n c) ∧ Hid (ls.length = n) ∧ RowsOut w ls (.slice A n c) w'
theorem RowsEnd.of {w w' : World} {ls : List (List UInt8)} {v : Value} (h : RowsOut w ls v w') : RowsEnd w ls (.returned v) w' := by
  obtain ⟨vs, h1, h2, h3⟩ := h
  obtain ⟨A, c, rfl, -, -⟩ := own_slice h1
  exact ⟨A, _, c, rfl, rfl, vs, h1, h2, h3⟩

def sLen : Value → Nat
  | .slice _ n _ => n
  | _ => 0

theorem refCuts_no (A : Option Addr) (n c : Nat) (k : Int) (w : World) (hn : n ≤ 2000) (hk : k < 1 ∨ 65536 < k) :
    Calls Try.prog 13 #[.slice A n c, .int .i64 k] w (RowsEnd w []) := by
  have HO : Hid (RowsOut w [] (.slice (some ⟨w.heap.size, 0, none⟩) 0 0) (w.alloc (.cells #[] 29))) := ⟨[], World.ownsRow_lit w #[] 0 (Nat.le_refl _) (Nat.zero_le _) rfl, BytRows.nil, (RowKit.Below.refl _ _).alloc (Nat.le_refl _) _⟩
  have d1 : decide ((1048576 : Int) < (n : Int)) = false := by simp; omega
  by_cases h1 : k < 1
  · have d2 : decide (k < 1) = true := by simpa using h1
    go_enter Try.func13, Try.ntmps13
    go_wp2
    go_ret
    exact RowsEnd.of HO.out
  · have d2 : decide (k < 1) = false := by simpa using h1
    have d3 : decide (65536 < k) = true := by simp; omega
    clear hk h1
    go_enter Try.func13, Try.ntmps13
    go_wp2
    go_ret
    exact RowsEnd.of HO.out

/-- What is still to be cut, behind j chunks. -/
def Front (w : World) (l : List UInt8) (k N j : Nat) (v : Value) : Prop := ∃ A c, v = .slice A (l.length - j * k) c ∧ j < N ∧ l.length - j * k ≤ c ∧ c ≤ maxLen ∧ Lies w w.heap.size A (bvs (l.drop (j * k)))

set_option maxHeartbeats 1600000 in
theorem refCuts_yes (A : Option Addr) (c : Nat) (l : List UInt8) (k : Nat) (w : World) (hn : l.length ≤ 2000) (hc : l.length ≤ c) (hm : c ≤ maxLen) (h : Lies w w.heap.size A (bvs l)) (hk : 1 ≤ k) (hk2 : k ≤ 65536) :
    Calls Try.prog 13 #[.slice A l.length c, .int .i64 (k : Int)] w (RowsEnd w (chs l k (cntN l.length k))) := by
  have HO : Hid (RowsOut w (chs l k 0) (.slice (some ⟨w.heap.size, 0, none⟩) 0 0) (w.alloc (.cells #[] 29))) := ⟨[], World.ownsRow_lit w #[] 0 (Nat.le_refl _) (Nat.zero_le _) rfl, BytRows.nil, (RowKit.Below.refl _ _).alloc (Nat.le_refl _) _⟩
  have HLT : Hid (∀ j, j + 1 < cntN l.length k ↔ (j + 1) * k < l.length) := fun j => cntN_lt hk
  have HP : Hid (0 < cntN l.length k) := cntN_pos _ _
  have hNle := cntN_le l.length k
  have HF0 : Hid (Front w l k (cntN l.length k) 0 (.slice A l.length c)) := ⟨A, c, by rw [Nat.zero_mul, Nat.sub_zero], cntN_pos _ _, by omega, hm, by rw [Nat.zero_mul, List.drop_zero]; exact h⟩
  clear h hc hm
  generalize cntN l.length k = N at *
  go_enter Try.func13, Try.ntmps13
  go_wp2
  go_loopw [0, 5] (fun p v wr => ∃ j, Front w l k N j p ∧ Hid (RowsOut w (chs l k j) v wr)) (fun p _ _ => sLen p)
  case atStart => exact ⟨0, HF0.out, HO⟩
  case round =>
    clear HF0 HO HP
    obtain ⟨j, ⟨Aj, cj, rfl, hjN, hcj, hmj, hLj⟩, HR⟩ := hrel
    have hmul : (j + 1) * k = j * k + k := by rw [Nat.add_mul, Nat.one_mul]
    have hjk : j ≤ 2000 := by omega
    obtain ⟨vs, ho, hv, hb⟩ := HR.out
    rw [chs_len] at ho
    obtain ⟨Av, cv, rfl, -, -⟩ := own_slice ho
    have HOW := Lib.hid ho
    have HBR := Lib.hid hv
    have HB := Lib.hid hb
    have HLJ := Lib.hid hLj
    clear HR ho hv hb hLj
    have hdl : (l.drop (j * k)).length = l.length - j * k := List.length_drop
    by_cases hlt : k < l.length - j * k
    · obtain ⟨b, off, rfl, -, -⟩ := HLJ.out (by
        intro h0
        have := congrArg List.length h0
        rw [bvs_length, hdl, List.length_nil] at this
        omega)
      have hj1 : j + 1 < N := (HLT.out j).2 (by omega)
      have HBY : Hid (Byt w w.heap.size (.slice (some ⟨b, off, none⟩) k cj) (chL l k j)) := ⟨_, _, _, rfl, by rw [chL_len]; omega, by omega, hmj, by
        have e : bvs (chL l k j) = ((bvs (l.drop (j * k))).drop 0).take k := by rw [List.drop_zero]; unfold chL bvs; rw [List.map_take]
        rw [e]
        exact lies_mid HLJ.out 0 k⟩
      have HFR : Hid (Front w l k N (j + 1) (.slice (some ⟨b, off + k, none⟩) (l.length - j * k - k) (cj - k))) := ⟨_, _, by rw [hmul, Nat.sub_add_eq], hj1, by omega, by omega, by
        have e : bvs (l.drop ((j + 1) * k)) = ((bvs (l.drop (j * k))).drop k).take l.length := by
          unfold bvs
          rw [← List.map_drop, List.drop_drop, hmul, List.take_of_length_le (by rw [List.length_map, List.length_drop]; omega)]
        rw [e]
        exact lies_mid HLJ.out k l.length⟩
      have HRS : Hid (∀ v' w', RowKit.Below w.heap.size wr w' → w'.ownsRow w.heap.size 29 1 v' (j + 1) (vs ++ [.slice (some ⟨b, off, none⟩) k cj]) → RowsOut w (chs l k (j + 1)) v' w') := fun v' w' h1 h2 => ⟨_, by rw [chs_len]; exact h2, by rw [chs_succ]; exact HBR.out.snoc HBY.out, HB.out.trans h1⟩
      have hck : ¬ cj = k := by omega
      have hmm : (cj : Int) ≤ 9223372036854775807 := by unfold maxLen at hmj; omega
      have hm1 : l.length - j * k ≤ 2000 := by omega
      clear hmul hdl HLJ HBR HBY hj1 HLT hn hNle
      generalize l.length - j * k = m at *
      go_wp2_with (first | (at_builtin; refine wpList_pushB rfl (.tmp 23) (.tmp 27) rfl w.heap.size j vs _ _ _ _ rfl rfl HOW.out (by omega) HB.out.size ?_) | fail)
      intro v4 w4 hown4 hb4
      have HR4 := Lib.hid (HRS.out v4 w4 hb4 hown4)
      clear hown4 hb4
      go_wp2_with fail
      go_roundw
      case rel => exact ⟨j + 1, HFR.out, HR4⟩
      case measure => simp [sLen]; omega
    · have hend : j + 1 = N := by have := HLT.out j; omega
      have HBY : Hid (Byt w w.heap.size (.slice Aj (l.length - j * k) cj) (chL l k j)) := ⟨_, _, _, rfl, by rw [chL_len]; omega, by omega, hmj, by
        have e : chL l k j = l.drop (j * k) := by unfold chL; rw [List.take_of_length_le (by omega)]
        rw [e]
        exact HLJ.out⟩
      have HRS : Hid (∀ v' w', RowKit.Below w.heap.size wr w' → w'.ownsRow w.heap.size 29 1 v' (j + 1) (vs ++ [.slice Aj (l.length - j * k) cj]) → RowsEnd w (chs l k N) (.returned v') w') := fun v' w' h1 h2 => by
        rw [← hend]
        exact RowsEnd.of ⟨_, by rw [chs_len]; exact h2, by rw [chs_succ]; exact HBR.out.snoc HBY.out, HB.out.trans h1⟩
      have hm1 : l.length - j * k ≤ 2000 := by omega
      have hle : l.length - j * k ≤ k := by omega
      clear hmul hdl HLJ HBR HBY HLT hn hNle hlt hend hcj
      generalize l.length - j * k = m at *
      have dk : decide ((k : Int) < (m : Int)) = false := by simp; omega
      go_wp2_with (first | (at_builtin; refine wpList_pushB rfl (.tmp 32) (.tmp 34) rfl w.heap.size j vs _ _ _ _ rfl rfl HOW.out (by omega) HB.out.size ?_) | fail)
      intro v4 w4 hown4 hb4
      have HR4 := Lib.hid (HRS.out v4 w4 hb4 hown4)
      clear hown4 hb4
      go_wp2_with fail
      go_ret
      exact HR4.out

end Go.Proofs.Ytgkkobnoegggaaa
