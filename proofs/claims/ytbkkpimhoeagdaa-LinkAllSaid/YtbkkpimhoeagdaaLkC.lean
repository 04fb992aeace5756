/- A link: Send of one frame. -/
import Derived.Test.YtbkkpimhoeagdaaLkB
namespace Go.Proofs.Ytbkkpimhoeagdaa
open Go.RowKit Go.Sort
set_option maxRecDepth 20000

/-- A frame as one of the link's. -/
def headed (s : Ls) (k : Nat) (F : Fr) : Fr := { F with kind := k, src := s.me, dst := s.peer }
def Pf.headed (x : Pf) (s : Ls) (k : Nat) : Pf := ⟨Go.Proofs.Ytbkkpimhoeagdaa.headed s k x.F, x.p⟩
theorem headed_ok {s : Ls} {k : Nat} {F : Fr} (h : F.Ok) (hk : k < 256) (hm : s.me < 256) (hp : s.peer < 256) : (headed s k F).Ok := ⟨hk, hm, hp, h.seq, h.at_, h.of_, h.size, h.inst, h.rnd, h.est, h.aux, h.done, h.held, h.data, h.doneN, h.heldN⟩
theorem Pf.headed_X {w : World} {D : Nat → Prop} {x : Pf} (s : Ls) (k : Nat) (h : x.X w D) : (x.headed s k).X w D := h

/-- One frame is sent. -/
def Ls.send (s : Ls) (F : Fr) : Ls := if s.fs.length < s.width then { s with fs := s.fs ++ num s.last [headed s 1 F], last := s.last + 1 } else s
def Ls.sendN (s : Ls) : Nat := if s.fs.length < s.width then 1 else 0

theorem infoHead3 : (Try.prog.info? 37).map (·.size) = some 3 := by kernel_rfl

/-- The head of the one frame of a list of the call's own is written. -/
theorem own_headed {w : World} {base g c : Nat} {x : Pf} (h : w.ownsRow base 44 16 (.slice (some ⟨g, 0, none⟩) 1 c) 1 (flat encPf [x])) (s : Ls) (k : Nat) :
    (w.setCells g 0 [.int .u8 (k : Int), .int .u8 (s.me : Int), .int .u8 (s.peer : Int)]).ownsRow base 44 16 (.slice (some ⟨g, 0, none⟩) 1 c) 1 (flat encPf [x.headed s k]) ∧ w.there g 0 3 ∧
      OnlyE w (w.setCells g 0 [.int .u8 (k : Int), .int .u8 (s.me : Int), .int .u8 (s.peer : Int)]) (fun b => b = g) := by
  refine ⟨?_, fun j hj => ⟨?_, ?_⟩, ?_⟩
  · have h1 := ((((h.stored 0 (.int .u8 (k : Int))).1.stored 1 (.int .u8 (s.me : Int))).1).stored 2 (.int .u8 (s.peer : Int))).1
    have e : (((flat encPf [x]).set 0 (.int .u8 (k : Int))).set 1 (.int .u8 (s.me : Int))).set 2 (.int .u8 (s.peer : Int)) = flat encPf [x.headed s k] := by
      rw [flat_single, flat_single]
      rfl
    rw [e] at h1
    exact h1
  · rw [Nat.zero_add, h.cellAt j (by omega), flat_single, List.getElem?_eq_getElem (by show j < 16; omega)]
    rfl
  · exact h.frozenAt _
  · exact (onlyE_set (D := fun b => b = g) rfl 0 _).trans ((onlyE_set (D := fun b => b = g) rfl 1 _).trans (onlyE_set (D := fun b => b = g) rfl 2 _))

section
variable {ops : Array Oper} {rest : List Oper} {ty : TypeId} {pos : String} {aft : Array Edge} {a : Act} {w : World} {Q : Exit → Act → World → Prop}
theorem head_one (k m q : Int) : (#[.int .u8 k, .int .u8 m, .int .u8 q] : Array Value).all (·.oneCell') = true := all_oneCell_toArray (cs := [.int .u8 k, .int .u8 m, .int .u8 q]) (by
  intro v hv
  simp only [List.mem_cons, List.not_mem_nil, or_false] at hv
  rcases hv with rfl | rfl | rfl <;> rfl)
theorem store_head (y z : Operand) {g : Nat} {k m q : Int} (hy : a.eval y = .pointer (some ⟨g, 0, none⟩)) (hz : a.eval z = .agg #[.int .u8 k, .int .u8 m, .int .u8 q]) (ht : w.there g 0 3)
    (h : wpList Try.prog ops Q rest (a.put none undef) (w.setCells g 0 [.int .u8 k, .int .u8 m, .int .u8 q])) : wpList Try.prog ops Q (⟨none, .store 37 y z, ty, pos, aft, none⟩ :: rest) a w :=
  wpList_store_mid rfl _ y z rfl g 0 #[.int .u8 k, .int .u8 m, .int .u8 q] hy hz ht infoHead3 (head_one k m q) h
end

/-- The list of chunks while heads are written. -/
def ChS (w : World) (v : Value) (x : Pf) (W : World) : Prop := W.ownsRow w.heap.size 44 16 v 1 (flat encPf [x]) ∧ RowKit.Below w.heap.size w W

section
variable {w : World} {base p pw pg : Nat} {T : Value} {l : List Pf} {s : Ls} {D : Nat → Prop}

set_option maxHeartbeats 1600000 in
theorem lsend_any (h : LinkB w base p pw pg T l s D) (b0 : Addr) (c : Nat) (x : Pf) (hA : Lies w w.heap.size (some b0) (flat encPf [x])) (hX : x.X w (WD pw T)) (hok : x.F.Ok) (hc : 1 ≤ c) (hlow : s.last + 1 ≤ 1000000) :
    Calls Try.prog 14 #[.pointer (some ⟨p, 0, none⟩), .slice (some b0) 1 c] w fun e w' => e = .returned (.int .i64 (s.sendN : Int)) ∧ LkTo w base p pw pg T D (s.send x.F) w' := by
  have hR := lroom_any h
  have hlen := h.len
  have hfit := h.win.fit
  have hwid := h.win.wid2
  have H := Lib.hid h
  have HX := Lib.hid hX
  have HOK := Lib.hid hok
  have HLT : Hid (∀ k, WD pw T k → k < w.heap.size) := fun k hk => h.win.wlt hk
  have hd0 : ((some ⟨p, 0, none⟩ : Option Addr) == none) = false := rfl
  by_cases hr : s.fs.length < s.width
  · have e1 : s.sendN = 1 := by unfold Ls.sendN; rw [if_pos hr]
    have e2 : s.send x.F = { s with fs := s.fs ++ num s.last [headed s 1 x.F], last := s.last + 1 } := by unfold Ls.send; rw [if_pos hr]
    rw [e1, e2]
    have hm : min (1 : Int) ((s.width - s.fs.length : Nat) : Int) = 1 := by omega
    have HMN : Hid (min 1 (s.width - l.length) = 1) := by show _ = _; omega
    generalize ((s.width - s.fs.length : Nat) : Int) = rm at hR hm
    have HCL : Hid (∀ W, RowKit.Below w.heap.size w W → Calls Try.prog 29 #[.slice (some b0) 1 c] W fun e w' => ∃ A' c', e = .returned (.slice A' 1 c') ∧ 1 ≤ c' ∧ w'.ownsRow W.heap.size 44 16 (.slice A' 1 c') 1 (flat encPf [x]) ∧ RowKit.Below W.heap.size W w') := fun W hW =>
      clone_any b0 1 c [x] W rfl (by decide) (hA.on hW)
    clear h hA hX hok e1 e2 hr hlen hfit hwid
    go_enter Try.func14, Try.ntmps14
    go_wp2_with fail
    refine hR.mono ?_
    rintro e w1 ⟨rfl, hb1⟩
    have HB1 := Lib.hid hb1
    clear hR hb1
    go_wp2_with fail
    refine (HCL.out w1 HB1.out).mono ?_
    rintro e w2 ⟨A', c', rfl, hc', ho2, hb2⟩
    obtain ⟨g, c2, hv, hbg, hlg⟩ := ho2.form (by decide)
    injection hv with e1 e2 e3
    subst e1 e3
    have HS2 : Hid (ChS w (.slice (some ⟨g, 0, none⟩) 1 c') x w2) := ⟨own_base ho2 HB1.out.size, HB1.out.trans (hb2.mono HB1.out.size)⟩
    clear ho2 hb2 hm HCL hbg hlg e2
    go_wp2_with fail
    go_loopw [6, 19] (fun _ i wr => ∃ k : Nat, i = .int .i64 k ∧ (k = 0 ∧ ChS w (.slice (some ⟨g, 0, none⟩) 1 c') x wr ∨ k = 1 ∧ ChS w (.slice (some ⟨g, 0, none⟩) 1 c') (x.headed s 1) wr)) (fun _ i _ => 1 - (intOf i).toNat)
    case atStart => exact ⟨0, rfl, .inl ⟨rfl, HS2.out⟩⟩
    case round =>
      clear HS2
      obtain ⟨k, rfl, ⟨rfl, hS⟩ | ⟨rfl, hS⟩⟩ := hrel
      · have HS := Lib.hid hS
        clear hS
        go_wp2_with fail
        refine (head_any (H.out.on HS.out.2) 1).mono ?_
        rintro e w3 ⟨rfl, hb3⟩
        have ho3 := own_below HS.out.1 hb3
        obtain ⟨ho4, ht, hO⟩ := own_headed ho3 s 1
        have hgb := (ho3.lt g rfl).1
        have HS4 : Hid (ChS w (.slice (some ⟨g, 0, none⟩) 1 c') (x.headed s 1) (w3.setCells g 0 [.int .u8 1, .int .u8 (s.me : Int), .int .u8 (s.peer : Int)])) := ⟨ho4, HS.out.2.trans ((hb3.mono HS.out.2.size).trans (hO.below (fun k hk => by subst hk; exact hgb) (Nat.le_trans HS.out.2.size hb3.size)))⟩
        have HT := Lib.hid ht
        clear ho3 ho4 ht hO hgb hb3 HS
        go_wp2_with (first | (refine store_head (.tmp 27) (.tmp 25) rfl rfl HT.out ?_) | fail)
        go_roundw
        case rel => exact ⟨1, by go_num, .inr ⟨rfl, HS4.out⟩⟩
        case measure => simp [intOf]
      · have HS := Lib.hid hS
        clear hS
        have hW := H.out.on HS.out.2
        have hP := put_any hW.win (some ⟨g, 0, none⟩) 1 c' [x.headed s 1] rfl (by decide) hc' (LiesX.of_own HS.out.1 HLT.out) (fun y hy => by
          simp only [List.mem_cons, List.not_mem_nil, or_false] at hy
          subst hy
          exact Pf.headed_X s 1 (HX.out.on HS.out.2)) (fun y hy => by
          simp only [List.mem_cons, List.not_mem_nil, or_false] at hy
          subst hy
          exact headed_ok HOK.out (by decide) H.out.me8 H.out.peer8) hlow
        have c0 := hW.c0
        have HW := Lib.hid hW
        have HP := Lib.hid hP
        clear hP hW
        go_wp2_with fail
        refine HP.out.mono ?_
        rintro e w5 ⟨rfl, hPI⟩
        simp only [List.map_cons, List.map_nil, List.length_cons, List.length_nil, Nat.zero_add, HMN.out, List.take_succ_cons, List.take_zero] at hPI ⊢
        have HPI := Lib.hid (HW.out.put hPI)
        clear hPI
        go_wp2
        go_ret
        exact ⟨rfl, HPI.out.from HS.out.2⟩
  · have e1 : s.sendN = 0 := by unfold Ls.sendN; rw [if_neg hr]
    have e2 : s.send x.F = s := by unfold Ls.send; rw [if_neg hr]
    rw [e1, e2]
    have hrz : s.width - s.fs.length = 0 := by omega
    rw [hrz] at hR
    have HCL : Hid (∀ W, RowKit.Below w.heap.size w W → Calls Try.prog 29 #[.slice (some b0) 0 c] W fun e w' => ∃ A' c', e = .returned (.slice A' 0 c') ∧ 0 ≤ c' ∧ w'.ownsRow W.heap.size 44 16 (.slice A' 0 c') 0 (flat encPf []) ∧ RowKit.Below W.heap.size W w') := fun W hW =>
      clone_any b0 0 c [] W rfl (by decide) (fun hn => absurd rfl hn)
    clear h hA hX hok e1 e2 hr hlen hfit hwid hrz
    go_enter Try.func14, Try.ntmps14
    go_wp2_with fail
    refine hR.mono ?_
    rintro e w1 ⟨rfl, hb1⟩
    have HB1 := Lib.hid hb1
    clear hR hb1
    go_wp2_with fail
    refine (HCL.out w1 HB1.out).mono ?_
    rintro e w2 ⟨A', c', rfl, -, -, hb2⟩
    have HS2 : Hid (RowKit.Below w.heap.size w w2) := HB1.out.trans (hb2.mono HB1.out.size)
    clear hb2 HCL
    go_wp2_with fail
    go_loopw [6, 19] (fun _ i wr => i = .int .i64 0 ∧ RowKit.Below w.heap.size w wr) (fun _ i _ => 1 - (intOf i).toNat)
    case atStart => exact ⟨rfl, HS2.out⟩
    case round =>
      clear HS2
      obtain ⟨rfl, hS⟩ := hrel
      have HS := Lib.hid hS
      clear hS
      have hW := H.out.on HS.out
      have hP := put_any hW.win A' 0 c' [] rfl (by decide) (Nat.zero_le _) LiesX.nil (fun y hy => absurd hy List.not_mem_nil) (fun y hy => absurd hy List.not_mem_nil) (by have := hW.win.low; omega)
      have c0 := hW.c0
      have HW := Lib.hid hW
      have HP := Lib.hid hP
      clear hP hW
      go_wp2_with fail
      refine HP.out.mono ?_
      rintro e w5 ⟨rfl, hPI⟩
      simp only [List.map_nil, List.length_nil, Nat.zero_min, List.take_nil] at hPI ⊢
      have HPI := Lib.hid (HW.out.put hPI)
      clear hPI
      go_wp2
      go_ret
      refine ⟨rfl, LkTo.from ?_ HS.out⟩
      have h1 := HPI.out
      have e : s.fs ++ num s.last [] = s.fs := List.append_nil _
      rw [e] at h1
      exact h1
end

end Go.Proofs.Ytbkkpimhoeagdaa
