/- ident.without, and Join: the rows that have just these ids. -/
import Derived.Test.YtoihikeeaobemaaIdG
namespace Go.Proofs.Ytoihikeeaobemaa
open Go.RowKit Go.Sort

/-- One more id behind rows. -/
def rowStep (rows : List Rn) (x : Id) : List Rn :=
  match rows.getLast? with
  | none => rows ++ [⟨x.f, x.s, 1, x.hf, x.hs, by decide⟩]
  | some r => if nextI r = x then rows.dropLast ++ [⟨r.f, r.a, (r.c + 1) % 18446744073709551616, r.hf, r.ha, Nat.mod_lt _ (by decide)⟩] else rows ++ [⟨x.f, x.s, 1, x.hf, x.hs, by decide⟩]

def rowsOf (l : List Id) : List Rn := l.foldl rowStep []

/-- What Join answers. -/
def joinOf (l : List Id) : List Rn := rowsOf (cpt (sortI (l.filter mayB)))

set_option maxHeartbeats 400000 in
theorem withoutIds_any (A : Option Addr) (n c : Nat) (l : List Id) (w : World) (hl : l.length = n) (hn : n ≤ 1000) (h : Lies w w.heap.size A (flat encId l)) :
    Calls Try.prog 36 #[.slice A n c, .func (.func 37) #[] #[]] w (OwnIds w w.heap.size (l.filter mayB)) := by
  have hcl := cloneIds_any A n c l w hl hn h
  have eg : ∀ args w, (callFunc 37 args).run Try.prog w = .ok (.enter 37 args) w := enters_of Try.func37 (by kernel_rfl) rfl
  have hf : (l.filter fun x => !(!mayB x)) = l.filter mayB := by simp
  rw [← hf]
  have EG := Lib.hid eg
  clear eg h hf
  go_enter Try.func36, Try.ntmps36
  go_wp2_with fail
  refine hcl.mono ?_
  rintro e w1 ⟨A1, n1, c1, rfl, hn1, hc1, hc2, hown, hb1⟩
  have e1 : n1 = n := by rw [← hn1.out]; exact hl
  subst e1
  go_wp2_with fail
  refine (deleteIds_any (fun x => !mayB x) _ EG.out (fun x W => joinOut_any x W) A1 n1 c1 w.heap.size l w1 hl hn hb1.size hown).mono ?_
  rintro e w2 ⟨A2, n2, c2, rfl, hn2, hc3, hc4, hown2, hb2⟩
  clear hown hcl
  have HO := Lib.hid hown2
  clear hown2
  go_wp2
  go_ret
  exact ⟨A2, n2, c2, rfl, hn2, hc3, hc4, HO.out, hb1.trans hb2⟩

set_option maxHeartbeats 400000 in
theorem withoutRns_any (A : Option Addr) (n c : Nat) (l : List Rn) (w : World) (hl : l.length = n) (hn : n ≤ 1000) (h : Lies w w.heap.size A (flat encRn l)) :
    Calls Try.prog 32 #[.slice A n c, .func (.func 33) #[] #[]] w (OwnRns w w.heap.size (l.filter runB)) := by
  have hcl := cloneRns_any A n c l w hl hn h
  have eg : ∀ args w, (callFunc 33 args).run Try.prog w = .ok (.enter 33 args) w := enters_of Try.func33 (by kernel_rfl) rfl
  have hf : (l.filter fun x => !(!runB x)) = l.filter runB := by simp
  rw [← hf]
  have EG := Lib.hid eg
  clear eg h hf
  go_enter Try.func32, Try.ntmps32
  go_wp2_with fail
  refine hcl.mono ?_
  rintro e w1 ⟨A1, n1, c1, rfl, hn1, hc1, hc2, hown, hb1⟩
  have e1 : n1 = n := by rw [← hn1.out]; exact hl
  subst e1
  go_wp2_with fail
  refine (deleteRns_any (fun x => !runB x) _ EG.out (fun x W => mayNot_any x W) A1 n1 c1 w.heap.size l w1 hl hn hb1.size hown).mono ?_
  rintro e w2 ⟨A2, n2, c2, rfl, hn2, hc3, hc4, hown2, hb2⟩
  clear hown hcl
  have HO := Lib.hid hown2
  clear hown2
  go_wp2
  go_ret
  exact ⟨A2, n2, c2, rfl, hn2, hc3, hc4, HO.out, hb1.trans hb2⟩

end Go.Proofs.Ytoihikeeaobemaa
