/- The document's Take and Count, walked. -/
import Derived.Test.YtpnihkepfcnglaaAcE
namespace Go.Proofs.Ytpnihkepfcnglaa
open Go.RowKit Go.Sort

/-- What the document's Take answers: the gate behind one more number, of whose kinds a new list tells, and what was made of it. -/
def DGot (w : World) (ks : List Nat) (k u : Nat) (e : Ending) (w' : World) : Prop :=
  ∃ A' c', e = .returned (.tuple #[.agg #[.slice A' (ks.length + 1) c', .int .u64 (u : Int), .bool true], .int .u8 (k : Int)]) ∧ w'.ownsRow w.heap.size 5 1 (.slice A' (ks.length + 1) c') (ks.length + 1) (kvs (ks ++ [k])) ∧ RowKit.Below w.heap.size w w'

theorem DGot.mk {w W3 : World} {ks : List Nat} {k u n c' : Nat} {A' : Option Addr} {gs rs : Array Value} {i0 i1 : Nat} {u0 u1 r0 r1 r2 : Value} (hl : ks.length = n) (hG : GBox w gs rs W3)
    (ho : W3.ownsRow (w.heap.size + 2) 5 1 (.slice A' (n + 1) c') (n + 1) (kvs (ks ++ [k]))) :
    DGot w ks k u (.returned (.tuple #[.agg #[.slice A' (n + 1) c', .int .u64 (u : Int), .bool true], .int .u8 (k : Int)]))
      (((((W3.setCell ⟨w.heap.size, i0, none⟩ u0).setCell ⟨w.heap.size, i1, none⟩ u1).setCell ⟨w.heap.size + 1, 0, none⟩ r0).setCell ⟨w.heap.size + 1, 1, none⟩ r1).setCell ⟨w.heap.size + 1, 2, none⟩ r2) := by
  subst hl
  have hE := ((((hG.setBox i0 u0).setBox i1 u1).setRes 0 r0).setRes 1 r1).setRes 2 r2
  have hO : OnlyE W3 (((((W3.setCell ⟨w.heap.size, i0, none⟩ u0).setCell ⟨w.heap.size, i1, none⟩ u1).setCell ⟨w.heap.size + 1, 0, none⟩ r0).setCell ⟨w.heap.size + 1, 1, none⟩ r1).setCell ⟨w.heap.size + 1, 2, none⟩ r2) (fun k => k < w.heap.size + 2) :=
    ((((onlyE_set (by show _ < _; omega) _ _).trans (onlyE_set (by show _ < _; omega) _ _)).trans (onlyE_set (by show _ < _; omega) _ _)).trans (onlyE_set (by show _ < _; omega) _ _)).trans (onlyE_set (by show _ < _; omega) _ _)
  exact ⟨A', c', rfl, own_base (own_only ho hO fun b hb => by have := (ho.lt b hb).1; show ¬ b < _; omega) (by omega), hE.below⟩

def dCells (A : Option Addr) (n c u : Nat) (o : Bool) : Array Value := #[.slice A n c, .int .u64 (u : Int), .bool o]
def dZero : Array Value := #[.slice none 0 0, .int .u64 0, .bool false]

section
variable (A : Option Addr) (n c u v : Nat) (o : Bool) (ks : List Nat) (w : World)
set_option maxHeartbeats 1600000 in
theorem refTake_one (hl : ks.length = n) (hn : n ≤ 1000) (hL : Lies w w.heap.size A (kvs ks)) (hu : u ≤ 1000000) (hv : v = u + 1) :
    Calls Try.prog 10 #[.agg #[.slice A n c, .int .u64 (u : Int), .bool o], .int .u64 (v : Int)] w (DGot w ks 1 v) := by
  have HL := Lib.hid hl
  have HK := Lib.hid hL
  clear hl hL
  have hd : decide (v ≤ u) = false := by simp; omega
  have hd1 : ((v : Int) == (u : Int) + 1) = true := by simp; omega
  clear hv
  go_enter Try.func10, Try.ntmps10
  go_wp2_with (at_builtin; refine wpList_anewG (w := w) (gs := dCells A n c v o) (rs := dZero) (GBox.start (by rfl)) (by rfl) (.tmp 18) (.tmp 20) (by rfl) (by rfl) (by simp) A n c ks (by rfl) HL.out HK.out hn ?_)
  intro A1 c1 W1 ho1 hG1
  have HO1 := Lib.hid ho1
  have HG1 := Lib.hid hG1
  clear ho1 hG1
  go_wp2_with (at_builtin; refine wpList_pushG HG1.out (by rfl) (.tmp 21) (.tmp 23) (by rfl) A1 n c1 1 ks _ (by rfl) (by rfl) HO1.out (by rfl) hn ?_)
  intro A2 c2 W2 ho2 hG2
  have x0 := hG2.cell 0
  have x1 := hG2.cell 1
  have x2 := hG2.cell 2
  have y0 := hG2.cellR 0
  have y1 := hG2.cellR 1
  have y2 := hG2.cellR 2
  simp only [dCells, dZero, List.getElem?_toArray, List.getElem?_cons_succ, List.getElem?_cons_zero] at x0 x1 x2 y0 y1 y2
  have f0 := hG2.fr 0
  have f1 := hG2.fr 1
  have f2 := hG2.fr 2
  have g0 := hG2.frR 0
  have g1 := hG2.frR 1
  have g2 := hG2.frR 2
  have HO2 := Lib.hid ho2
  have HG2 := Lib.hid hG2
  clear ho2 hG2 HO1 HG1
  go_wp2
  refine bodyPost_ret (results_cell_tmp rfl _ _ (w.heap.size + 1) _ rfl (load_rowG (((((HG2.out.setBox _ _).setBox _ _).setRes 0 _).setRes 1 _).setRes 2 _).res rfl)) rfl ?_
  exact DGot.mk HL.out HG2.out HO2.out

set_option maxHeartbeats 1600000 in
theorem refTake_old (hl : ks.length = n) (hn : n ≤ 1000) (hL : Lies w w.heap.size A (kvs ks)) (hv : v ≤ u) :
    Calls Try.prog 10 #[.agg #[.slice A n c, .int .u64 (u : Int), .bool o], .int .u64 (v : Int)] w (DGot w ks 2 (u)) := by
  have HL := Lib.hid hl
  have HK := Lib.hid hL
  clear hl hL
  have hd : decide (v ≤ u) = true := by simpa using hv
  go_enter Try.func10, Try.ntmps10
  go_wp2_with (at_builtin; refine wpList_anewG (w := w) (gs := dCells A n c (u) o) (rs := dZero) (GBox.start (by rfl)) (by rfl) (.tmp 18) (.tmp 20) (by rfl) (by rfl) (by simp) A n c ks (by rfl) HL.out HK.out hn ?_)
  intro A1 c1 W1 ho1 hG1
  have HO1 := Lib.hid ho1
  have HG1 := Lib.hid hG1
  clear ho1 hG1
  go_wp2_with (at_builtin; refine wpList_pushG HG1.out (by rfl) (.tmp 21) (.tmp 23) (by rfl) A1 n c1 2 ks _ (by rfl) (by rfl) HO1.out (by rfl) hn ?_)
  intro A2 c2 W2 ho2 hG2
  have x0 := hG2.cell 0
  have x1 := hG2.cell 1
  have x2 := hG2.cell 2
  have y0 := hG2.cellR 0
  have y1 := hG2.cellR 1
  have y2 := hG2.cellR 2
  simp only [dCells, dZero, List.getElem?_toArray, List.getElem?_cons_succ, List.getElem?_cons_zero] at x0 x1 x2 y0 y1 y2
  have f0 := hG2.fr 0
  have f1 := hG2.fr 1
  have f2 := hG2.fr 2
  have g0 := hG2.frR 0
  have g1 := hG2.frR 1
  have g2 := hG2.frR 2
  have HO2 := Lib.hid ho2
  have HG2 := Lib.hid hG2
  clear ho2 hG2 HO1 HG1
  go_wp2
  refine bodyPost_ret (results_cell_tmp rfl _ _ (w.heap.size + 1) _ rfl (load_rowG (((((HG2.out.setBox _ _).setBox _ _).setRes 0 _).setRes 1 _).setRes 2 _).res rfl)) rfl ?_
  exact DGot.mk HL.out HG2.out HO2.out

set_option maxHeartbeats 1600000 in
theorem refTake_ahead (hl : ks.length = n) (hn : n ≤ 1000) (hL : Lies w w.heap.size A (kvs ks)) (hu : u ≤ 1000000) (hv : u + 1 < v) :
    Calls Try.prog 10 #[.agg #[.slice A n c, .int .u64 (u : Int), .bool o], .int .u64 (v : Int)] w (DGot w ks 3 (u)) := by
  have HL := Lib.hid hl
  have HK := Lib.hid hL
  clear hl hL
  have hd : decide (v ≤ u) = false := by simp; omega
  have hd1 : ((v : Int) == (u : Int) + 1) = false := by simp; omega
  go_enter Try.func10, Try.ntmps10
  go_wp2_with (at_builtin; refine wpList_anewG (w := w) (gs := dCells A n c (u) o) (rs := dZero) (GBox.start (by rfl)) (by rfl) (.tmp 18) (.tmp 20) (by rfl) (by rfl) (by simp) A n c ks (by rfl) HL.out HK.out hn ?_)
  intro A1 c1 W1 ho1 hG1
  have HO1 := Lib.hid ho1
  have HG1 := Lib.hid hG1
  clear ho1 hG1
  go_wp2_with (at_builtin; refine wpList_pushG HG1.out (by rfl) (.tmp 21) (.tmp 23) (by rfl) A1 n c1 3 ks _ (by rfl) (by rfl) HO1.out (by rfl) hn ?_)
  intro A2 c2 W2 ho2 hG2
  have x0 := hG2.cell 0
  have x1 := hG2.cell 1
  have x2 := hG2.cell 2
  have y0 := hG2.cellR 0
  have y1 := hG2.cellR 1
  have y2 := hG2.cellR 2
  simp only [dCells, dZero, List.getElem?_toArray, List.getElem?_cons_succ, List.getElem?_cons_zero] at x0 x1 x2 y0 y1 y2
  have f0 := hG2.fr 0
  have f1 := hG2.fr 1
  have f2 := hG2.fr 2
  have g0 := hG2.frR 0
  have g1 := hG2.frR 1
  have g2 := hG2.frR 2
  have HO2 := Lib.hid ho2
  have HG2 := Lib.hid hG2
  clear ho2 hG2 HO1 HG1
  go_wp2
  refine bodyPost_ret (results_cell_tmp rfl _ _ (w.heap.size + 1) _ rfl (load_rowG (((((HG2.out.setBox _ _).setBox _ _).setRes 0 _).setRes 1 _).setRes 2 _).res rfl)) rfl ?_
  exact DGot.mk HL.out HG2.out HO2.out

theorem refTake_any (hl : ks.length = n) (hn : n ≤ 1000) (hL : Lies w w.heap.size A (kvs ks)) (hu : u ≤ 1000000) :
    Calls Try.prog 10 #[.agg #[.slice A n c, .int .u64 (u : Int), .bool o], .int .u64 (v : Int)] w (DGot w ks (kindN u v) (if v = u + 1 then u + 1 else u)) := by
  rcases kindN_cases u v with ⟨e, h⟩ | ⟨e, h⟩ | ⟨e, h⟩
  · rw [e, if_pos h, ← h]
    exact refTake_one A n c u v o ks w hl hn hL hu h
  · rw [e, if_neg (by omega)]
    exact refTake_old A n c u v o ks w hl hn hL h
  · rw [e, if_neg (by omega)]
    exact refTake_ahead A n c u v o ks w hl hn hL hu h

theorem count_snoc (l : List Nat) (x k : Nat) : (l ++ [x]).count k = l.count k + if x = k then 1 else 0 := by
  rw [List.count_append, List.count_singleton]
  by_cases h : x = k <;> simp [h]

set_option maxHeartbeats 800000 in
theorem refCount_any (k : Nat) (hk : k < 256) (hl : ks.length = n) (hn : n ≤ 1000) (hL : Lies w w.heap.size A (kvs ks)) (hks : ∀ x ∈ ks, x < 256) :
    Calls Try.prog 13 #[.agg #[.slice A n c, .int .u64 (u : Int), .bool o], .int .u8 (k : Int)] w fun e w' => e = .returned (.int .u64 (ks.count k : Int)) ∧ RowKit.Below w.heap.size w w' := by
  have HL := Lib.hid hl
  have HK := Lib.hid hL
  have HKS := Lib.hid hks
  clear hl hL hks
  go_enter Try.func13, Try.ntmps13
  go_wp2
  generalize hW : World.alloc w _ = w0
  have hb0 : RowKit.Below w.heap.size w w0 := by subst hW; exact (RowKit.Below.refl _ _).alloc (Nat.le_refl _) _
  have x0 : w0.cell? ⟨w.heap.size, 0, none⟩ = some (.slice A n c) := by subst hW; exact cell_of_row _ _ 0 _ _ _ (heap_alloc_new w _)
  have HB := Lib.hid hb0
  clear hb0 hW
  go_loop [5, 6, 10] (fun s5 _ s10 => ∃ i : Nat, i ≤ n ∧ s10 = .int .i64 i ∧ s5 = .int .u64 ((ks.take i).count k : Int)) (fun _ _ s10 => n - (intOf s10).toNat)
  case atStart => exact ⟨0, Nat.zero_le _, rfl, rfl⟩
  case round =>
    obtain ⟨i, hi, rfl, rfl⟩ := hrel
    by_cases hlt : i < n
    · have hil : i < ks.length := by rw [HL.out]; exact hlt
      obtain ⟨b, off, rfl, hb, hc⟩ := (HK.out.below HB.out).at_ (kvs_at hil)
      have hv := HKS.out ks[i] (List.getElem_mem hil)
      have HC : Hid ((ks.take (i + 1)).count k = (ks.take i).count k + if ks[i] = k then 1 else 0) := by
        show _ = _
        rw [List.take_succ_eq_append_getElem hil, count_snoc]
      have hcl : (ks.take i).count k ≤ 1000 := Nat.le_trans (List.count_le_length) (by rw [List.length_take]; omega)
      generalize ks[i] = v at hc hv HC
      clear hil
      by_cases hvk : v = k
      · have HC2 : Hid ((ks.take (i + 1)).count k = (ks.take i).count k + 1) := by show _ = _; rw [HC.out, if_pos hvk]
        subst hvk
        clear HC
        generalize (ks.take i).count v = m at hcl HC2
        go_wp2
        go_round
        case rel => exact ⟨i + 1, by omega, by go_num, by rw [HC2.out]; go_num⟩
        case measure => simp [intOf]; omega
      · have HC2 : Hid ((ks.take (i + 1)).count k = (ks.take i).count k) := by show _ = _; rw [HC.out, if_neg hvk]; rfl
        have hd : ((v : Int) == (k : Int)) = false := by simp; omega
        clear HC
        generalize (ks.take i).count k = m at hcl HC2
        go_wp2
        go_round
        case rel => exact ⟨i + 1, by omega, by go_num, by rw [HC2.out]⟩
        case measure => simp [intOf]; omega
    · obtain rfl : i = n := by omega
      have HE : Hid (ks.take i = ks) := by show _ = _; exact List.take_of_length_le (by rw [HL.out]; omega)
      go_wp2
      go_ret
      exact ⟨by rw [HE.out]; rfl, HB.out⟩
end

end Go.Proofs.Ytpnihkepfcnglaa
