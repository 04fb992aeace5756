/- Stage 17: the document's grants as a value: New, with. -/
import Derived.Test.YtenaoinkjdaoeaaGrH
import Derived.Deep.Cut
set_option maxRecDepth 20000
namespace Go.Proofs.Ytenaoinkjdaoeaa
open Go.RowKit Go.Sort

theorem Try.infoX : (Try.prog.info? 40).map (fun i => (i.zero, i.size, i.bytes)) = some (some (.agg #[.int .u64 0, .bool false]), 2, 16) := by kernel_rfl
/-- The document's grants, as cells. -/
def dgc (v : Value) (me : Nat) : Array Value := #[v, .int .i64 (me : Int)]
def zeroG : Array Value := #[.slice none 0 0, .int .i64 0]
theorem infoG {cs : Array Value} (h : cs.size = 2) : (Try.prog.info? 29).map (·.size) = some cs.size := by
  rw [h]
  kernel_rfl
theorem load_rowG {W : World} {g : Nat} {cs : Array Value} (hg : W.heap[g]? = some (.cells cs 29 (0, 0))) (hs : cs.size = 2) : (loadVar 29 ⟨g, 0, none⟩).run Try.prog W = .ok (.agg cs) W :=
  run_loadVar_row W g _ _ cs (0, 0) _ hg Try.underlying29 rfl (infoG hs)
theorem results_cell_tmp {fn : Func} {p q : Tmp} {ty : TypeId} (h : fn.results = #[.cell p ty, .tmp q]) (tmps : Array Value) (w : World) (g : Nat) (cs : Array Value)
    (hp : tmps.getD p undef = .pointer (some ⟨g, 0, none⟩)) (hl : (loadVar ty ⟨g, 0, none⟩).run Try.prog w = .ok (.agg cs) w) :
    (results fn tmps).run Try.prog w = .ok (.tuple #[.agg cs, tmps.getD q undef]) w := by
  have hp' : tmps[p]?.getD undef = .pointer (some ⟨g, 0, none⟩) := by simpa using hp
  simp [results, h, hp', asAddr, hl]
theorem alloc2_blocks (w : World) (o1 o2 : Obj) {W : World} (hW : (w.alloc o1).alloc o2 = W) : W.heap[w.heap.size]? = some o1 ∧ W.heap[w.heap.size + 1]? = some o2 ∧ RowKit.Below w.heap.size w W := by
  subst hW
  refine ⟨(heap_alloc_old _ _ (by simp)).trans (heap_alloc_new _ _), ?_, ((RowKit.Below.refl _ _).alloc (Nat.le_refl _) _).alloc (by simp) _⟩
  have := heap_alloc_new (w.alloc o1) o2
  simpa using this

/-- Two boxes of the document's grants. -/
structure TBox (w : World) (gs rs : Array Value) (W : World) : Prop where
  below : RowKit.Below w.heap.size w W
  g : W.heap[w.heap.size]? = some (.cells gs 29 (0, 0))
  r : W.heap[w.heap.size + 1]? = some (.cells rs 29 (0, 0))
section
variable {w W W' : World} {gs rs : Array Value}
theorem TBox.start (h : (w.alloc (.cells gs 29)).alloc (.cells rs 29) = W) : TBox w gs rs W := by
  obtain ⟨h1, h2, h3⟩ := alloc2_blocks w _ _ h
  exact ⟨h3, h1, h2⟩
theorem TBox.lt (h : TBox w gs rs W) : w.heap.size + 2 ≤ W.heap.size := (Array.getElem?_eq_some_iff.1 h.r).1
theorem TBox.up (h : TBox w gs rs W) (hb : RowKit.Below (w.heap.size + 2) W W') : TBox w gs rs W' :=
  ⟨h.below.trans (hb.mono (by omega)), (hb.block _ (by omega)).trans h.g, (hb.block _ (by omega)).trans h.r⟩
theorem TBox.on (h : TBox w gs rs W) (hb : RowKit.Below W.heap.size W W') : TBox w gs rs W' := h.up (hb.mono h.lt)
theorem TBox.setG (h : TBox w gs rs W) (i : Nat) (u : Value) : TBox w (gs.setIfInBounds i u) rs (W.setCell ⟨w.heap.size, i, none⟩ u) :=
  ⟨h.below.setCell (p := ⟨w.heap.size, i, none⟩) (Nat.le_refl _) u, heap_setCell_same W _ i _ _ u h.g, (heap_setCell_other W ⟨w.heap.size, i, none⟩ (w.heap.size + 1) u (by simp)).trans h.r⟩
theorem TBox.setR (h : TBox w gs rs W) (i : Nat) (u : Value) : TBox w gs (rs.setIfInBounds i u) (W.setCell ⟨w.heap.size + 1, i, none⟩ u) :=
  ⟨h.below.setCell (p := ⟨w.heap.size + 1, i, none⟩) (by show w.heap.size ≤ w.heap.size + 1; omega) u, (heap_setCell_other W ⟨w.heap.size + 1, i, none⟩ w.heap.size u (by simp)).trans h.g, heap_setCell_same W _ i _ _ u h.r⟩
theorem TBox.cellG (h : TBox w gs rs W) (i : Nat) : W.cell? ⟨w.heap.size, i, none⟩ = gs[i]? := cell_of_row W _ i _ _ _ h.g
theorem TBox.cellR (h : TBox w gs rs W) (i : Nat) : W.cell? ⟨w.heap.size + 1, i, none⟩ = rs[i]? := cell_of_row W _ i _ _ _ h.r
theorem TBox.frG (h : TBox w gs rs W) (i : Nat) : W.frozen? ⟨w.heap.size, i, none⟩ = false := frozen_of_row W _ i _ _ h.g
theorem TBox.frR (h : TBox w gs rs W) (i : Nat) : W.frozen? ⟨w.heap.size + 1, i, none⟩ = false := frozen_of_row W _ i _ _ h.r
end

/-- What the document's New has built behind k processes. -/
structure DnS (w : World) (me k : Nat) (A : Option Addr) (c : Nat) (W : World) : Prop where
  box : TBox w zeroG (dgc (.slice A k c) me) W
  row : W.ownsRow (w.heap.size + 2) 40 2 (.slice A k c) k (flat encW (List.replicate k zeroW))
  cap : k ≤ c ∧ c ≤ maxLen

theorem DnS.start {w W : World} {me : Nat} (h : (w.alloc (.cells zeroG 29)).alloc (.cells (dgc (.slice none 0 0) me) 29) = W) : DnS w me 0 none 0 W :=
  ⟨TBox.start h, World.ownsRow_nil _ _ _ _, Nat.le_refl _, Nat.zero_le _⟩

/-- One more process: append of one that has told nothing. -/
theorem wpList_pushX {w W : World} {me k c : Nat} {A : Option Addr} (hD : DnS w me k A c W) (hk : k ≤ 64) {ops : Array Oper} {rest : List Oper} {o : Oper} {a : Act} {Q : Exit → Act → World → Prop} (hgd : o.guard = none) (s x : Operand)
    (ho : o.op = .call { callee := .builtin .append, args := #[s, x], argTypes := #[27, 27] })
    (hs : a.eval s = .slice A k c) (hx : a.eval x = .slice (some ⟨W.heap.size, 0, none⟩) 1 1)
    (h : ∀ A' c' w', TBox w zeroG (dgc (.slice A k c) me) w' → w'.ownsRow (w.heap.size + 2) 40 2 (.slice A' (k + 1) c') (k + 1) (flat encW (List.replicate (k + 1) zeroW)) → k + 1 ≤ c' ∧ c' ≤ maxLen → wpList Try.prog ops Q rest (a.put o.dst (.slice A' (k + 1) c')) w') :
    wpList Try.prog ops Q (o :: rest) a (W.alloc (.cells #[.int .u64 0, .bool false] 40)) := by
  obtain ⟨i0, hi, hz0, hz1, hz2⟩ := info_parts Try.infoX
  have hlt := hD.box.lt
  have hal := alloc_below W (.cells #[.int .u64 0, .bool false] 40)
  refine wpList_append_lstK hgd s x 27 ho (w.heap.size + 2) 2 (by decide) 40 i0 (.agg #[.int .u64 0, .bool false]) 16 Try.underlying27 hi hz0 hz1 hz2 rfl (.slice A k c) k (flat encW (List.replicate k zeroW)) hs (own_below hD.row hal) _ _ 1 1 [.int .u64 0, .bool false] hx rfl (lies_new W #[.int .u64 0, .bool false] 40) (by simp [Value.oneCell']) (by unfold maxLen; omega) (by omega) (by simp; omega) ?_
  intro v' w' hown' _ hb' _
  obtain ⟨A', c', rfl, h1, h2⟩ := own_sliceK hown'
  refine h A' c' w' ((hD.box.on hal).up hb') ?_ ⟨h1, h2⟩
  rw [List.replicate_succ', flat_append]
  exact hown'

set_option maxHeartbeats 1600000 in
theorem refNew_any (n me : Int) (hn : -9223372036854775808 ≤ n ∧ n ≤ 9223372036854775807) (w : World) : Calls Try.prog 9 #[.int .i64 n, .int .i64 me] w fun e w' =>
    ∃ A c, e = .returned (.agg (dgc (.slice A (clampN n) c) (clampM n me))) ∧ w'.ownsRow w.heap.size 40 2 (.slice A (clampN n) c) (clampN n) (flat encW (List.replicate (clampN n) zeroW)) ∧ clampN n ≤ c ∧ c ≤ maxLen ∧ RowKit.Below w.heap.size w w' := by
  have HN : Hid (min (max n 1) 64 = (clampN n : Int)) := by show _ = _; unfold clampN; omega
  have HM : Hid (min (max me 0) ((clampN n : Int) - 1) = (clampM n me : Int)) := by show _ = _; unfold clampM; have := clampN_pos n; omega
  have hNP := clampN_pos n
  generalize clampM n me = M at HM ⊢
  generalize clampN n = N at HN HM hNP ⊢
  have hb0 : Hid (w.alloc (.cells zeroG 29) = w.alloc (.cells zeroG 29)) := rfl
  go_enter Try.func9, Try.ntmps9
  go_upto_if 8 with fail
  generalize hw1 : World.alloc w _ = w1
  go_cut [0] from 7 to 8 (fun s wx => s = .int .i64 (max n 1) ∧ wx = w1)
  case first =>
    by_cases h : n < 1
    · have e : max n 1 = 1 := by omega
      go_wp2
      go_meet
      exact ⟨by rw [e], rfl⟩
    · have e : max n 1 = n := by omega
      go_wp2
      go_meet
      exact ⟨by rw [e], rfl⟩
  case rest =>
    obtain ⟨rfl, rfl⟩ := hcut
    have hm1 : 1 ≤ max n 1 := by omega
    have hm2 : max n 1 ≤ 9223372036854775807 := by omega
    generalize max n 1 = n1 at HN hm1 hm2 ⊢
    go_upto_if 10 with fail
    go_cut [0] from 9 to 10 (fun s wx => s = .int .i64 (min n1 64) ∧ wx = wc)
    case first =>
      by_cases h : 64 < n1
      · have e : min n1 64 = 64 := by omega
        go_wp2
        go_meet
        exact ⟨by rw [e], rfl⟩
      · have e : min n1 64 = n1 := by omega
        go_wp2
        go_meet
        exact ⟨by rw [e], rfl⟩
    case rest =>
      obtain ⟨rfl, rfl⟩ := hcut
      rw [HN.out]
      go_upto_if 12 with fail
      go_cut [1] from 11 to 12 (fun s wx => s = .int .i64 (max me 0) ∧ wx = wc)
      case first =>
        by_cases h : me < 0
        · have e : max me 0 = 0 := by omega
          go_wp2
          go_meet
          exact ⟨by rw [e], rfl⟩
        · have e : max me 0 = me := by omega
          go_wp2
          go_meet
          exact ⟨by rw [e], rfl⟩
      case rest =>
        obtain ⟨rfl, rfl⟩ := hcut
        generalize max me 0 = me1 at HM ⊢
        go_upto_if 16 with fail
        go_cut [1] from 13 to 18 (fun s wx => s = .int .i64 (min me1 ((N : Int) - 1)) ∧ wx = wc)
        case first =>
          by_cases h : (N : Int) - 1 < me1
          · have e : min me1 ((N : Int) - 1) = (N : Int) - 1 := by omega
            go_wp2
            go_meet
            exact ⟨by rw [e], rfl⟩
          · have e : min me1 ((N : Int) - 1) = me1 := by omega
            go_wp2
            go_meet
            exact ⟨by rw [e], rfl⟩
        case rest =>
          obtain ⟨rfl, rfl⟩ := hcut
          rw [HM.out]
          clear HM HN hm1 hm2
          subst hw1
          go_wp2
          generalize hW0 : World.alloc (World.alloc w _) _ = W0
          have HD0 := Lib.hid (DnS.start hW0)
          clear hW0 hb0
          go_loopw [6] (fun s6 wr => ∃ k : Nat, k ≤ N ∧ s6 = .int .i64 (k : Int) ∧ ∃ A c, Hid (DnS w M k A c wr)) (fun s6 _ => N - (intOf s6).toNat)
          case atStart => exact ⟨0, Nat.zero_le _, rfl, _, _, HD0⟩
          case round =>
            clear HD0
            obtain ⟨k, hk, rfl, A, c, HD⟩ := hrel
            by_cases hlt : k < N
            · have hb := HD.out.box
              have z0 : wr.cell? ⟨w.heap.size + 1, 0, none⟩ = some (.slice A k c) := hb.cellR 0
              have hsz : w.heap.size + 1 < wr.heap.size := hb.lt
              clear hb
              go_wp2_with (at_builtin; refine wpList_pushX HD.out (by omega) rfl (.tmp 27) (.tmp 29) rfl rfl rfl ?_)
              intro A' c' w' hB' ho' hc1 hc2
              have x0 : w'.cell? ⟨w.heap.size + 1, 0, none⟩ = some (.slice A k c) := hB'.cellR 0
              have xf := hB'.frR 0
              have HX : Hid (DnS w M (k + 1) A' c' (w'.setCell ⟨w.heap.size + 1, 0, none⟩ (.slice A' (k + 1) c'))) :=
                ⟨hB'.setR 0 _, own_only ho' (onlyE_set (D := fun b => b = w.heap.size + 1) rfl 0 _) fun b hb e => by have := (ho'.lt b hb).1; omega, hc1, hc2⟩
              clear hB' ho' hc1 hc2 HD z0
              go_wp2
              exact ⟨⟨k + 1, by omega, by go_num, _, _, HX⟩, by simp [intOf]; omega⟩
            · obtain rfl : k = N := by omega
              have hb := HD.out.box
              have z0 : wr.cell? ⟨w.heap.size + 1, 0, none⟩ = some (.slice A k c) := hb.cellR 0
              have z1 : wr.cell? ⟨w.heap.size + 1, 1, none⟩ = some (.int .i64 (M : Int)) := hb.cellR 1
              have r0 : wr.cell? ⟨w.heap.size, 0, none⟩ = some (.slice none 0 0) := hb.cellG 0
              have r1 : wr.cell? ⟨w.heap.size, 1, none⟩ = some (.int .i64 0) := hb.cellG 1
              have f0 := hb.frG 0
              have f1 := hb.frG 1
              clear hb
              go_wp2
              have hB2 : TBox w (dgc (.slice A k c) M) (dgc (.slice A k c) M) ((wr.setCell ⟨w.heap.size, 0, none⟩ (.slice A k c)).setCell ⟨w.heap.size, 1, none⟩ (.int .i64 (M : Int))) := (HD.out.box.setG 0 _).setG 1 _
              have hO : OnlyE wr ((wr.setCell ⟨w.heap.size, 0, none⟩ (.slice A k c)).setCell ⟨w.heap.size, 1, none⟩ (.int .i64 (M : Int))) (fun b => b = w.heap.size) := (onlyE_set (D := fun b => b = w.heap.size) rfl 0 _).trans (onlyE_set (D := fun b => b = w.heap.size) rfl 1 _)
              refine bodyPost_ret (results_cell_row rfl _ _ _ _ _ _ _ rfl hB2.g Try.underlying29 rfl (by kernel_rfl)) rfl ?_
              exact ⟨A, c, rfl, own_base (own_only HD.out.row hO fun b hb e => by have := (HD.out.row.lt b hb).1; omega) (by omega), HD.out.cap.1, HD.out.cap.2, hB2.below⟩

end Go.Proofs.Ytenaoinkjdaoeaa
