/- crc.Fits (picked). -/
import Derived.Test.YtbfjfidodpgohaaT16
import Derived.Test.YtbfjfidodpgohaaT03
import Derived.Test.YtbfjfidodpgohaaT01
import Derived.Deep.QuietTactic
import Derived.BigQuiet
import Derived.Test.YtbfjfidodpgohaaT18

namespace Go.Proofs.Ytbfjfidodpgohaa
open Go.RowKit

theorem val_snoc (l : List UInt8) (x : UInt8) : val (l ++ [x]) = val l + 256 ^ l.length * x.toNat := by
  induction l with
  | nil => simp [val]
  | cons y t ih => simp only [List.cons_append, val, ih, List.length_cons, Nat.pow_succ]; rw [Nat.mul_add, Nat.mul_comm (256 ^ t.length) 256, Nat.mul_assoc]; omega

theorem or_shift (v c k : Nat) (hv : v < 256 ^ k) (hc : c < 256) (hk : k < 4) : bits .or .u32 (v : Int) ((c : Int) * 2 ^ (8 * k) % 4294967296) = ((v + 256 ^ k * c : Nat) : Int) := by
  have e : (256 : Nat) ^ k = 2 ^ (8 * k) := by rw [Nat.pow_mul]
  rw [e] at hv ⊢
  have hb : 2 ^ (8 * k) * c < 4294967296 ∧ (2 : Nat) ^ (8 * k) ≤ 16777216 := by
    rcases k with _ | _ | _ | _ | k
    · simp; omega
    · simp; omega
    · simp; omega
    · simp; omega
    · omega
  have e2 : ((c : Int) * 2 ^ (8 * k) % 4294967296) = ((2 ^ (8 * k) * c : Nat) : Int) := by
    have : ((c : Int) * 2 ^ (8 * k)) = ((2 ^ (8 * k) * c : Nat) : Int) := by
      rw [Int.mul_comm, Int.natCast_mul, Int.natCast_pow]; rfl
    rw [this, Int.emod_eq_of_lt (by omega) (by omega)]
  rw [e2, u32_or _ _ (by omega) (by omega) (by omega) (by omega)]
  congr 1
  rw [Int.toNat_natCast, Int.toNat_natCast, Nat.or_comm, ← Nat.two_pow_add_eq_or_of_lt hv, Nat.add_comm]

set_option maxRecDepth 100000 in
set_option maxHeartbeats 800000 in
theorem readSum_any (A : Option Addr) (c : Nat) (l : List UInt8) (w : World) (hl : l.length = 4) (h : Lies w w.heap.size A (bvs l)) :
    Calls Try.prog 43 #[.slice A 4 c] w fun e w' => e = .returned (.int .u32 (val l : Int)) ∧ w = w' := by
  have HL := Lib.hid hl
  clear hl
  go_enter Try.func43, Try.ntmps43
  go_wp2
  go_loop [3, 8] (fun r i => ∃ (k : Nat), k ≤ 4 ∧ i = .int .i64 k ∧ r = .int .u32 (val (l.take k) : Int)) (fun _ i => 4 - (intOf i).toNat)
  case atStart => exact ⟨0, Nat.zero_le _, rfl, by simp [val]⟩
  case round =>
    obtain ⟨k, hk, rfl, rfl⟩ := hrel
    by_cases hlt : k < 4
    · have hk2 : k < l.length := by rw [HL.out]; exact hlt
      obtain ⟨b2, off2, rfl, hb2, hc2⟩ := h.at_ (bvs_at hk2)
      have hvl := val_lt (l.take k)
      have HV : Hid (val (l.take (k + 1)) = val (l.take k) + 256 ^ k * l[k].toNat) := by
        show val (l.take (k + 1)) = val (l.take k) + 256 ^ k * l[k].toNat
        rw [List.take_succ_eq_append_getElem hk2, val_snoc, List.length_take, Nat.min_eq_left (Nat.le_of_lt hk2)]
      generalize l[k] = ch at HV hc2
      unfold bv at hc2
      have hch := ch.toNat_lt
      go_wp2
      go_round
      case rel =>
        refine ⟨k + 1, by omega, by go_num, ?_⟩
        rw [HV.out]
        exact congrArg (Value.int IntKind.u32) (or_shift _ _ _ (by rw [List.length_take, Nat.min_eq_left (Nat.le_of_lt hk2)] at hvl; exact hvl) hch hlt)
      case measure => simp [intOf]; omega
    · go_wp2
      go_ret
      refine ⟨?_, rfl⟩
      have : k = 4 := by omega
      subst this
      show Ending.returned (.int .u32 (val (l.take 4) : Int)) = _
      rw [List.take_of_length_le (by rw [HL.out]; omega)]

theorem val_four (s : BitVec 32) : val (four s) = s.toNat := by
  have := s.isLt
  simp only [four, val, UInt8.toNat_ofNat', Nat.reducePow]
  omega

theorem val_inj : ∀ {a b : List UInt8}, a.length = b.length → val a = val b → a = b
  | [], [], _, _ => rfl
  | [], _ :: _, h, _ => by simp at h
  | _ :: _, [], h, _ => by simp at h
  | x :: a, y :: b, h, hv => by
    simp only [val] at hv
    have hx := x.toNat_lt
    have hy := y.toNat_lt
    have h1 : x.toNat = y.toNat := by omega
    have h2 : val a = val b := by omega
    rw [UInt8.toNat_inj.1 h1, val_inj (by simpa using h) h2]

/-- The document's Fits: the bytes ahead, and the error's number. -/
def fitsOf (l : List UInt8) : List UInt8 × Nat :=
  if l.length < 4 then ([], 2) else if markOf (l.take (l.length - 4)) = l then (l.take (l.length - 4), 0) else ([], 5)

theorem fits_iff {l : List UInt8} {m : Nat} (hl : l.length = m + 4) : markOf (l.take m) = l ↔ (sumOf (l.take m)).toNat = val (l.drop m) := by
  constructor
  · intro h
    have h2 : l.drop m = four (sumOf (l.take m)) := by
      have h3 := congrArg (List.drop m) h
      unfold markOf at h3
      rw [List.drop_append_of_le_length (by simp; omega), List.drop_of_length_le (by simp; omega), List.nil_append] at h3
      exact h3.symm
    rw [h2, val_four]
  · intro h
    have h2 : l.drop m = four (sumOf (l.take m)) := val_inj (by rw [four_length]; simp; omega) (by rw [val_four, h])
    unfold markOf
    rw [← h2, List.take_append_drop]

/-- What Fits answers: in memory of the call's own. -/
def Fitted (w : World) (l : List UInt8) (e : Ending) (w' : World) : Prop :=
  ∃ A n c, e = .returned (.tuple #[.slice A n c, .int .i64 ((fitsOf l).2 : Int)]) ∧ Hid ((fitsOf l).1.length = n) ∧ n ≤ c ∧ c ≤ maxLen ∧ w'.ownsRow w.heap.size 5 1 (.slice A n c) n (bvs (fitsOf l).1) ∧ Below w.heap.size w w'

theorem Fitted.none {w w' : World} {l : List UInt8} {k : Nat} (h : fitsOf l = ([], k)) (hb : Below w.heap.size w w') : Fitted w l (.returned (.tuple #[.slice .none 0 0, .int .i64 (k : Int)])) w' := by
  unfold Fitted
  rw [h]
  exact ⟨.none, 0, 0, rfl, rfl, Nat.le_refl _, Nat.zero_le _, World.ownsRow_nil _ _ _ _, hb⟩

set_option maxRecDepth 100000 in
theorem fits_short (A : Option Addr) (n c : Nat) (l : List UInt8) (w : World) (hl : l.length = n) (hn : n < 4) :
    Calls Try.prog 17 #[.slice A n c] w (Fitted w l) := by
  have hf : fitsOf l = ([], 2) := by unfold fitsOf; rw [if_pos (by omega)]
  have HF := Lib.hid hf
  clear hf hl
  go_enter Try.func17, Try.ntmps17
  go_wp2
  go_ret2
  exact Fitted.none HF.out (Below.refl _ _)

theorem below_drewN (w : World) (n : Nat) : Below w.heap.size w (w.drewN n) := ⟨rfl, rfl, rfl, Nat.le_refl _, fun _ _ => rfl⟩

set_option maxRecDepth 100000 in
set_option maxHeartbeats 1600000 in
theorem fits_long (A : Option Addr) (m c : Nat) (l : List UInt8) (w : World) (hl : l.length = m + 4) (hm : m ≤ 10000) (hc : m + 4 ≤ c) (hcm : c ≤ maxLen) (h : Lies w w.heap.size A (bvs l)) :
    Calls Try.prog 17 #[.slice A (m + 4 : Nat) c] w (Fitted w l) := by
  obtain ⟨i0, hi, hz0, hz1, hz2⟩ := info_parts Try.info5
  obtain ⟨b, off, rfl, hb, hcell⟩ := h (by intro h0; have := congrArg List.length h0; rw [bvs_length] at this; rw [hl] at this; simp at this)
  clear hcell
  have hd : decide ((m : Int) + 4 < 4) = false := by simp; omega
  have hne : ¬ (c = m) := by omega
  have hcm' := hcm
  unfold maxLen at hcm'
  have HL := Lib.hid hl
  clear hl
  go_enter Try.func17, Try.ntmps17
  go_wp2_with fail
  go_quiet (fail)
  go_wp2_with fail
  have hq : Below w.heap.size w (w.drewN nq) := below_drewN w nq
  have hqs : w.heap.size = (w.drewN nq).heap.size := rfl
  rw [show (some (⟨w.heap.size, 0, none⟩ : Addr)) = some ⟨(w.drewN nq).heap.size, 0, none⟩ from rfl]
  generalize hwq : w.drewN nq = wq at hq hqs ⊢
  clear hwq
  have hLt := lies_take (h.later hq) m
  have hLd := lies_drop (h.later hq) m
  rw [show (bvs l).take m = bvs (l.take m) by simp [bvs]] at hLt
  rw [show (bvs l).drop m = bvs (l.drop m) by simp [bvs]] at hLd
  obtain ⟨hl1, hr1⟩ := rows_lit wq 22 (l := l.take m) (n := m) (c := c) (by have := HL.out; simp; omega) (by omega) hcm hLt
  have HR1 := Lib.hid hr1
  clear hr1
  refine (sum_any _ 1 1 _ [l.take m] _ rfl (by decide) hl1 HR1.out ?e1).mono ?_
  case e1 =>
    intro x hx
    simp at hx
    subst hx
    simp; omega
  rw [show [l.take m].flatten = l.take m by simp]
  unfold Summed
  rintro e w2 ⟨rfl, hb2⟩
  have hb3 : Below wq.heap.size wq w2 := ((Below.refl _ _).alloc (Nat.le_refl _) _).trans (hb2.mono (by simp))
  have hb4 : Below w.heap.size w w2 := hq.trans (hb3.mono (by omega))
  have hLt2 := hLt.later hb3
  have hLd2 := hLd.later hb3
  have HI := Lib.hid (fits_iff HL.out)
  have hbase : w.heap.size ≤ w2.heap.size := hb4.size
  clear hl1 HR1 hb2 hb3 hLt hLd hq hqs
  by_cases hs : (sumOf (l.take m)).toNat = val (l.drop m)
  · have HS := Lib.hid hs
    have hneq : ((val (l.drop m) : Int) != (val (l.drop m) : Int)) = false := by simp
    unfold rv
    rw [hs]
    clear hs
    go_wp2_with fail
    refine (readSum_any _ _ (l.drop m) _ (by have := HL.out; simp; omega) hLd2).mono ?_
    rintro e w' ⟨rfl, rfl⟩
    go_wp2_with (at_builtin; refine wpList_append_lst rfl _ _ 22 rfl w.heap.size 5 i0 (.int .u8 0) 1 Try.underlying22 hi hz0 hz1 hz2 rfl _ 0 [] rfl (World.ownsRow_nil _ _ _ _) _ _ m c (bvs (l.take m)) rfl ?d0 hLt2 (bvs_one _) ?d2 ?d3 hbase ?_)
    case d0 => have := HL.out; rw [bvs_length]; simp; omega
    case d2 => unfold maxLen; omega
    case d3 => omega
    intro v4 w4 hown4 hg4 hb5 _
    obtain ⟨A4, c4, hv4, hc4, hc5⟩ := own_slice hown4
    subst hv4
    go_wp2
    go_ret2
    have hf : fitsOf l = (l.take m, 0) := by
      have h1 := HL.out
      unfold fitsOf
      rw [if_neg (by omega), show l.length - 4 = m by omega, if_pos (HI.out.2 HS.out)]
    unfold Fitted
    rw [hf]
    exact ⟨A4, _, c4, rfl, by show (l.take m).length = _; have := HL.out; simp; omega, hc4, hc5, hown4, hb4.trans hb5⟩
  · have hf : fitsOf l = ([], 5) := by
      have h1 := HL.out
      unfold fitsOf
      rw [if_neg (by omega), show l.length - 4 = m by omega, if_neg (fun h => hs (HI.out.1 h))]
    have HF := Lib.hid hf
    have hneq : (((sumOf (l.take m)).toNat : Int) != (val (l.drop m) : Int)) = true := by simp; omega
    unfold rv
    clear hs hf
    go_wp2_with fail
    refine (readSum_any _ _ (l.drop m) _ (by have := HL.out; simp; omega) hLd2).mono ?_
    rintro e w' ⟨rfl, rfl⟩
    go_wp2
    go_ret2
    exact Fitted.none HF.out hb4

theorem fits_any (A : Option Addr) (n c : Nat) (l : List UInt8) (w : World) (hl : l.length = n) (hm : n ≤ 10000) (hc : n ≤ c) (hcm : c ≤ maxLen) (h : Lies w w.heap.size A (bvs l)) :
    Calls Try.prog 17 #[.slice A n c] w (Fitted w l) := by
  by_cases hn : n < 4
  · exact fits_short A n c l w hl hn
  · obtain ⟨m, rfl⟩ : ∃ m, n = m + 4 := ⟨n - 4, by omega⟩
    exact fits_long A m c l w hl (by omega) hc hcm h

end Go.Proofs.Ytbfjfidodpgohaa

/- The frame of some bytes: words for Get. -/
namespace Go.Proofs.Ytbfjfidodpgohaa
open Go.RowKit Go.Sort

/-- A frame with this head, and nothing else. -/
def bareFr (h : Nat × Nat × Nat) : Fr := { Fr.zero with kind := h.1, src := h.2.1, dst := h.2.2 }
/-- What is read of the bytes of the fields. -/
def fieldsOf (h : Nat × Nat × Nat) (rest : List UInt8) : Fr × Rs := vAll rdV (bareFr h, (rest, 0))
/-- The frame of the bytes behind the head, or the error. -/
noncomputable def bodyOf (h : Nat × Nat × Nat) (rest : List UInt8) : Fr × Nat :=
  if isKind h.1 = false then (Fr.zero, 10)
  else if endOf (fieldsOf h rest).2.2 (fieldsOf h rest).2.1.length ≠ 0 then (Fr.zero, endOf (fieldsOf h rest).2.2 (fieldsOf h rest).2.1.length)
  else if mayF (fieldsOf h rest).1 = false then (Fr.zero, 3) else ((fieldsOf h rest).1, 0)
/-- The frame of some bytes, or the error. -/
noncomputable def getOf (l : List UInt8) : Fr × Nat :=
  if (fitsOf l).2 ≠ 0 then (Fr.zero, (fitsOf l).2)
  else if (headRd (fitsOf l).1).2.2 ≠ 0 then (Fr.zero, (headRd (fitsOf l).1).2.2)
  else bodyOf (headRd (fitsOf l).1).1 (headRd (fitsOf l).1).2.1

/-- What Get answers. -/
def GetGot (w : World) (r : Fr × Nat) (e : Ending) (w' : World) : Prop :=
  ∃ cs, e = .returned (.tuple #[.agg cs, .int .i64 (r.2 : Int)]) ∧ FrV w' (fun _ => False) r.1 cs ∧ r.1.Ok ∧ RowKit.Below w.heap.size w w'

def zeroCells : Array Value := #[.int .u8 0, .int .u8 0, .int .u8 0, .int .u8 0, .int .u64 0, .int .u64 0, .int .u32 0, .int .u32 0, .int .u32 0, .int .u64 0, .int .u64 0, .slice none 0 0, .slice none 0 0, .slice none 0 0, .slice none 0 0, .slice none 0 0]

theorem zero_frv (w : World) (D : Nat → Prop) : FrV w D Fr.zero zeroCells := ⟨_, _, _, _, _, rfl, Sl.nil, Sl.nil, Sl.nil, Sl.nil, Sl.nil⟩
theorem bare_ok {h : Nat × Nat × Nat} (h1 : h.1 < 256) (h2 : h.2.1 < 256) (h3 : h.2.2 < 256) : (bareFr h).Ok := by
  refine ⟨h1, h2, h3, ?_, ?_, ?_, ?_, ?_, ?_, ?_, ?_, ?_, ?_, ?_, ?_, ?_⟩ <;> simp [bareFr, Fr.zero]
theorem zero_ok : Fr.zero.Ok := by
  refine ⟨?_, ?_, ?_, ?_, ?_, ?_, ?_, ?_, ?_, ?_, ?_, ?_, ?_, ?_, ?_, ?_⟩ <;> simp [Fr.zero]

theorem GetGot.err {w w' : World} (er : Nat) (hb : RowKit.Below w.heap.size w w') : GetGot w (Fr.zero, er) (.returned (.tuple #[.agg zeroCells, .int .i64 (er : Int)])) w' := ⟨_, rfl, zero_frv _ _, zero_ok, hb⟩

theorem load_row33 {W : World} {g : Nat} {cs : Array Value} (hg : W.heap[g]? = some (.cells cs 33 (0, 0))) (hs : cs.size = 16) : (loadVar 33 ⟨g, 0, none⟩).run Try.prog W = .ok (.agg cs) W :=
  run_loadVar_row W g _ _ cs (0, 0) _ hg Try.underlying33 rfl (info33 hs)

/-- A frame is stored whole, in a region that draws its order. -/
theorem wp_store_step {o : Oper} {a : Act} {w : World} {ys : Nat → Option Bool} {K : Act → World → Prop} {Q : Exit → Act → World → Prop} {x y : Operand} {g : Nat} {cs old : Array Value} (hgd : o.guard = none) (ho : o.op = .store 33 x y)
    (hx : a.eval x = .pointer (some ⟨g, 0, none⟩)) (hy : a.eval y = .agg cs) (hg : w.heap[g]? = some (.cells old 33 (0, 0))) (hold : old.size = 16) (hs : cs.size = 16) (h1 : cs.all (·.oneCell') = true)
    (hk : K (a.put o.dst undef) (w.setRow g cs)) : if Region.wanted o ys = true then Oper.wp Try.prog o a w K Q else K (a.put o.dst undef) w := by
  rw [if_pos (by simp [Region.wanted, hgd])]
  exact wp_store_row _ x y ho g cs hx hy _ old hg (info33 hs) (by omega) h1 hk

/-- What stands when the fields are to be read: the frame with its head, the reader and its box. -/
def GetMid (W : World) (h : Nat × Nat × Nat) (rest : List UInt8) (gF gB : Nat) (V : World) : Prop :=
  RowKit.Below W.heap.size W V ∧ W.heap.size ≤ gF ∧ W.heap.size ≤ gB ∧ (∃ cs, V.heap[gF]? = some (.cells cs 33 (0, 0)) ∧ FrV V (fun _ => True) (bareFr h) cs) ∧
    ∃ gr base hi, V.heap[gB]? = some (.cells #[.pointer (some ⟨gr, 0, none⟩)] 52 (0, 0)) ∧ gr ≠ gF ∧ gr ≠ gB ∧ gF ≠ gB ∧ W.heap.size ≤ gr ∧ (gF < base ∨ hi ≤ gF) ∧ Rd V base hi gr rest 0

/-- Blocks that were made on the way, as they are found. -/
def PF (W : World) (gF : Nat) (V : World) : Prop := W.heap.size ≤ gF ∧ V.heap[gF]? = some (.cells zeroCells 33 (0, 0))
def PB (W : World) (gB : Nat) (V : World) : Prop := W.heap.size ≤ gB ∧ V.heap[gB]? = some (.cells #[.pointer none] 52 (0, 0))
def PR (W : World) (rest : List UInt8) (gr base hi : Nat) (V : World) : Prop := W.heap.size ≤ base ∧ Rd V base hi gr rest 0

theorem PF.on {W V V' : World} {g : Nat} (h : PF W g V) (hb : RowKit.Below V.heap.size V V') : PF W g V' := ⟨h.1, (hb.block g (Array.getElem?_eq_some_iff.1 h.2).1).trans h.2⟩
theorem PB.on {W V V' : World} {g : Nat} (h : PB W g V) (hb : RowKit.Below V.heap.size V V') : PB W g V' := ⟨h.1, (hb.block g (Array.getElem?_eq_some_iff.1 h.2).1).trans h.2⟩
theorem PR.on {W V V' : World} {rest : List UInt8} {gr base hi : Nat} (h : PR W rest gr base hi V) (hb : RowKit.Below V.heap.size V V') : PR W rest gr base hi V' := ⟨h.1, h.2.below (hb.mono h.2.lt.2.2)⟩
theorem PF.lt {W V : World} {g : Nat} (h : PF W g V) : g < V.heap.size := (Array.getElem?_eq_some_iff.1 h.2).1

/-- The two stores: the frame's head, the reader's pointer. -/
theorem parts_done {W V : World} {h : Nat × Nat × Nat} {rest : List UInt8} {gF gB gr base hi : Nat} (hb : RowKit.Below W.heap.size W V) (hF : PF W gF V) (hB : PB W gB V) (hR : PR W rest gr base hi V) (hx : gF < base ∨ hi ≤ gF)
    (cs : Array Value) (hcs : cs = frCells (bareFr h) (.slice none 0 0) (.slice none 0 0) (.slice none 0 0) (.slice none 0 0) (.slice none 0 0)) :
    (V.setRow gF cs).heap[gB]? = some (.cells #[.pointer none] 52 (0, 0)) ∧ GetMid W h rest gF gB ((V.setRow gF cs).setCell ⟨gB, 0, none⟩ (.pointer (some ⟨gr, 0, none⟩))) := by
  have hFB : gF ≠ gB := by
    rintro rfl
    have := hF.2.symm.trans hB.2
    injection this with this
    injection this with _ this
    exact absurd this (by decide)
  obtain ⟨A, n, c, hAt⟩ := hR.2
  have hrF : gr ≠ gF := by
    rintro rfl
    have := hF.2.symm.trans hAt.1
    injection this with this
    injection this with _ this
    exact absurd this (by decide)
  have hrB : gr ≠ gB := by
    rintro rfl
    have := hB.2.symm.trans hAt.1
    injection this with this
    injection this with _ this
    exact absurd this (by decide)
  have h1 : (V.setRow gF cs).heap[gB]? = some (.cells #[.pointer none] 52 (0, 0)) := (setRow_other V gF gB cs (Ne.symm hFB)).trans hB.2
  have h2 : (V.setRow gF cs).heap[gF]? = some (.cells cs 33 (0, 0)) := setRow_heap V gF _ cs _ _ hF.2
  refine ⟨h1, (Below.setRow hb hF.1 cs).setCell (p := ⟨gB, 0, none⟩) hB.1 _, hF.1, hB.1, ⟨cs, row_setOther h2 (Ne.symm hFB) 0 _, ?_⟩, gr, base, hi, heap_setCell_row h1 0 _, hrF, hrB, hFB, Nat.le_trans hR.1 hAt.2.1, hx, ?_⟩
  · exact ⟨_, _, _, _, _, hcs, Sl.nil, Sl.nil, Sl.nil, Sl.nil, Sl.nil⟩
  · obtain ⟨q1, q2, q3, q4, q5, q6, q7, q8, q9⟩ := hAt
    have hkeep : ∀ k, k ≠ gF → k ≠ gB → ((V.setRow gF cs).setCell ⟨gB, 0, none⟩ (.pointer (some ⟨gr, 0, none⟩))).heap[k]? = V.heap[k]? := fun k k1 k2 => by
      rw [show ((V.setRow gF cs).setCell ⟨gB, 0, none⟩ (.pointer (some ⟨gr, 0, none⟩))).heap[k]? = (V.setRow gF cs).heap[k]? from by simp [World.setCell, Array.getElem?_modify, Ne.symm k2]]
      exact setRow_other V gF k cs k1
    refine ⟨A, n, c, (hkeep gr hrF hrB).trans q1, q2, q3, q4, q5, ?_, q7, q8, by simpa [World.setCell] using q9⟩
    intro hne
    obtain ⟨b, off, rfl, hb2, hc⟩ := q6 hne
    have hbb := (q7 _ rfl).2
    have hbF : b ≠ gF := by
      rcases hx with hx | hx
      · have hbb : base ≤ b := hbb
        omega
      · omega
    refine ⟨b, off, rfl, hb2, fun i u hu => ?_⟩
    by_cases hbB : b = gB
    · subst hbB
      exfalso
      have hc0 := hc 0 _ (List.getElem?_eq_getElem (List.length_pos_iff.2 hne))
      have hcell : V.cell? ⟨b, off + 0, none⟩ = (#[Value.pointer none] : Array Value)[off + 0]? := cell_of_row V b _ _ _ _ hB.2
      rw [hcell] at hc0
      have ho : off = 0 := by
        have := (Array.getElem?_eq_some_iff.1 hc0).1
        simpa using this
      subst ho
      have h3 : (bvs rest)[0]'(List.length_pos_iff.2 hne) = Value.pointer none := by simpa using hc0.symm
      simp only [bvs, List.getElem_map, bv] at h3
      cases h3
    · rw [World.cell?_of_block (w := V) (hkeep b hbF hbB)]
      exact hc i u hu

end Go.Proofs.Ytbfjfidodpgohaa
