/- A link: New, Send of one frame. -/
import Derived.Test.YtbkkpimhoeagdaaLkA
import Derived.Test.YtbkkpimhoeagdaaSlU
namespace Go.Proofs.Ytbkkpimhoeagdaa
open Go.RowKit Go.Sort
set_option maxRecDepth 20000

def againN (r : Int) : Nat := (max 1 (min r 1099511627776)).toNat
def newLs (me peer : Nat) (width again : Int) : Ls := ⟨me, peer, againN again, widthN width, 0, [], ⟨0, 0, 0, false⟩, 0, 0, 0⟩

theorem link_new (me peer : Nat) (r again : Int) (w : World) (base : Nat) (D0 : Nat → Prop) (hb : base ≤ w.heap.size) (hD : ∀ b, D0 b → base ≤ b ∧ b < w.heap.size) (h1 : -9223372036854775808 ≤ r) (h2 : r ≤ 9223372036854775807) (h3 : -9223372036854775808 ≤ again) (h4 : again ≤ 9223372036854775807) (hm : me < 256) (hp : peer < 256) :
    Calls Try.prog 10 #[.int .u8 (me : Int), .int .u8 (peer : Int), .int .i64 r, .int .i64 again] w fun e w' =>
      ∃ p pw pg : Nat, e = .returned (.pointer (some ⟨p, 0, none⟩)) ∧ LinkB w' base p pw pg (.slice none 0 0) [] (newLs me peer r again) (fun k => D0 k ∨ k = p ∨ k = pw ∨ k = pg) ∧ RowKit.Below w.heap.size w w' ∧ w.heap.size ≤ p ∧ w.heap.size ≤ pw ∧ w.heap.size ≤ pg := by
  have HM : Hid (max 1 (min again 1099511627776) = (againN again : Int)) := by show _ = _; unfold againN; omega
  have ha1 : 1 ≤ againN again := by unfold againN; omega
  have ha2 : againN again ≤ 1099511627776 := by unfold againN; omega
  unfold newLs
  generalize againN again = ag at HM ha1 ha2 ⊢
  have HN := Lib.hid (new_any r w base hb h1 h2)
  go_enter Try.func10, Try.ntmps10
  go_wp2_with fail
  refine HN.out.mono ?_
  rintro e w1 ⟨rfl, hW, hb1⟩
  have HW := Lib.hid hW
  have HB1 := Lib.hid hb1
  clear hW hb1
  go_wp2_with fail
  refine (gate_any w1).mono ?_
  rintro e w2 ⟨rfl, hG, hb2⟩
  have HG := Lib.hid hG
  have HB2 := Lib.hid hb2
  clear hG hb2
  have hs1 := HB1.out.size
  have hs2 := HB2.out.size
  have hlt1 := HW.out.plt
  have hlt2 := HG.out.lt
  go_wp2
  go_ret
  rw [HM.out]
  have hbA : ∀ o, RowKit.Below w2.heap.size w2 (w2.alloc o) := fun o => (RowKit.Below.refl _ _).alloc (Nat.le_refl _) _
  refine ⟨w2.heap.size, w.heap.size, w1.heap.size, rfl, ?_, HB1.out.trans ((HB2.out.trans ((hbA _).mono hs2)).mono hs1), by omega, Nat.le_refl _, hs1⟩
  have hW2 := (HW.out.on HB2.out).on (hbA (.cells #[.pointer (some ⟨w.heap.size, 0, none⟩), .pointer (some ⟨w1.heap.size, 0, none⟩), .int .u8 (me : Int), .int .u8 (peer : Int), .int .u64 0, .int .i64 0, .int .i64 0, .int .i64 (ag : Int)] 75))
  exact
  { box := heap_alloc_new w2 _
    win :=
    { box := hW2.box, row := hW2.row, frs := by simp, oks := by simp, seqs := by simp
      dw := fun b hb' => hb'.elim (fun e => .inr (.inr (.inl e))) fun h => by simp [Value.ownBlock] at h
      din := fun b hb' => by
        simp only [World.alloc, Array.size_push]
        rcases hb' with hb' | rfl | rfl | rfl
        · have := hD b hb'; omega
        · omega
        · omega
        · omega
      fit := hW2.fit, fit2 := hW2.fit2, wid1 := hW2.wid1, wid2 := hW2.wid2, low := hW2.low }
    gate := HG.out.on (hbA _)
    fs := rfl
    dp := .inr (.inl rfl), dg := .inr (.inr (.inr rfl)), me8 := hm, peer8 := hp, sent1 := Nat.le_refl _, tick1 := Nat.zero_le _, asked1 := Nat.zero_le _, again1 := ha1, again2 := ha2 }

theorem eqNilFrs (w : World) (A : Option Addr) (n c n' c' : Nat) : (binOp .eql 26 (.slice A n c) (.slice none n' c')).run Try.prog w = .ok (.bool A.isNone) w := Lib.run_eql_slice_nil w _ _ A n c n' c' Try.underlying26

/-- slices.Clone of frames. -/
theorem clone_any (a : Addr) (n c : Nat) (xs : List Pf) (w : World) (hl : xs.length = n) (hn : n ≤ 100) (hA : Lies w w.heap.size (some a) (flat encPf xs)) :
    Calls Try.prog 29 #[.slice (some a) n c] w fun e w' => ∃ A' c', e = .returned (.slice A' n c') ∧ n ≤ c' ∧ w'.ownsRow w.heap.size 44 16 (.slice A' n c') n (flat encPf xs) ∧ RowKit.Below w.heap.size w w' := by
  have hbA : RowKit.Below w.heap.size w (w.alloc (.cells #[] 44)) := (RowKit.Below.refl _ _).alloc (Nat.le_refl _) _
  have hoa : (w.alloc (.cells #[] 44)).ownsRow w.heap.size 44 16 (.slice (some ⟨w.heap.size, 0, none⟩) 0 0) 0 [] := World.ownsRow_lit w #[] 0 (Nat.le_refl _) (Nat.zero_le _) rfl
  obtain ⟨A', c', w2, hrun, ho, -, hb2, hc, -⟩ := app_frames (c := c) hoa hl (hA.below hbA) hbA.size (by omega)
  rw [Nat.zero_add, List.nil_append] at ho
  rw [Nat.zero_add] at hrun hc
  have HO := Lib.hid ho
  have HR := Lib.hid hrun
  have HB : Hid (RowKit.Below w.heap.size w w2) := hbA.trans hb2
  have HC := Lib.hid hc
  clear ho hrun hbA hoa hb2 hA hc
  have q := eqNilFrs
  go_enter Try.func29, Try.ntmps29
  go_wp2_with (first | (at_builtin; refine wpList_append_run rfl (.tmp 5) (.tmp 6) 26 rfl rfl rfl HR.out ?_) | fail)
  go_ret
  exact ⟨_, _, rfl, HC.out, HO.out, HB.out⟩

end Go.Proofs.Ytbkkpimhoeagdaa
