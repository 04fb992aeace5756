/- Stage 14: vectors (picked out of the texts of stages 4 and 5). -/
import Derived.Test.YtnpdjlcekmpmoaaSoA
namespace Go.Proofs.Ytnpdjlcekmpmoaa
open Go.RowKit Go.Sort Go.ChangeShapes Go.WideShapes Go.ChangeAt

theorem Try.infoU : (Try.prog.info? 31).map (fun i => (i.zero, i.size, i.bytes)) = some (some (.int .u64 0), 1, 8) := by kernel_rfl

theorem uvs_length (l : List Nat) : (uvs l).length = l.length := List.length_map _

theorem uvs_append (a b : List Nat) : uvs (a ++ b) = uvs a ++ uvs b := List.map_append

theorem uvs_one (l : List Nat) : ∀ u ∈ uvs l, u.oneCell' = true := by
  intro u hu
  simp only [uvs, List.mem_map] at hu
  obtain ⟨c, _, rfl⟩ := hu
  rfl

theorem lies_take {w : World} {B : Nat} {A : Option Addr} {xs : List Value} (h : Lies w B A xs) (m : Nat) : Lies w B A (xs.take m) := fun hn => by
  obtain ⟨b, off, e, hb, hc⟩ := h (by intro h0; rw [h0] at hn; simp at hn)
  refine ⟨b, off, e, hb, fun i u hu => hc i u ?_⟩
  rw [List.getElem?_take] at hu
  split at hu
  · exact hu
  · cases hu

theorem lies_drop {w : World} {B b off : Nat} {xs : List Value} (h : Lies w B (some ⟨b, off, none⟩) xs) (m : Nat) : Lies w B (some ⟨b, off + m, none⟩) (xs.drop m) := fun hn => by
  obtain ⟨b', off', e, hb, hc⟩ := h (by intro h0; rw [h0] at hn; simp at hn)
  injection e with e
  injection e with e1 e2
  subst e1 e2
  refine ⟨_, _, rfl, hb, fun i u hu => ?_⟩
  rw [List.getElem?_drop] at hu
  rw [Nat.add_assoc]
  exact hc _ u hu

/-- A value that is a slice of just these numbers, below block B. -/
def Vec (w : World) (B : Nat) (v : Value) (l : List Nat) : Prop := ∃ A n c, v = .slice A n c ∧ l.length = n ∧ n ≤ c ∧ c ≤ maxLen ∧ Lies w B A (uvs l)

theorem Vec.below {w w' : World} {B : Nat} {v : Value} {l : List Nat} (h : Vec w B v l) (hb : Below B w w') : Vec w' B v l := by
  obtain ⟨A, n, c, rfl, h1, h2, h3, h4⟩ := h
  exact ⟨A, n, c, rfl, h1, h2, h3, h4.below hb⟩

theorem Vec.later {w w' : World} {v : Value} {l : List Nat} (h : Vec w w.heap.size v l) (hb : Below w.heap.size w w') : Vec w' w'.heap.size v l := by
  obtain ⟨A, n, c, rfl, h1, h2, h3, h4⟩ := h
  exact ⟨A, n, c, rfl, h1, h2, h3, h4.later hb⟩

theorem Vec.more {w : World} {B B' : Nat} {v : Value} {l : List Nat} (h : Vec w B v l) (hB : B ≤ B') : Vec w B' v l := by
  obtain ⟨A, n, c, rfl, h1, h2, h3, h4⟩ := h
  exact ⟨A, n, c, rfl, h1, h2, h3, h4.more hB⟩

/-- A slice of rows of numbers: its cells, and of each what it reads as. -/
def VecRows (w : World) (B : Nat) (vs : List Value) (ls : List (List Nat)) : Prop := vs.length = ls.length ∧ ∀ i, (h : i < vs.length) → (h' : i < ls.length) → Vec w B vs[i] ls[i]

theorem VecRows.below {w w' : World} {B : Nat} {vs : List Value} {ls : List (List Nat)} (h : VecRows w B vs ls) (hb : Below B w w') : VecRows w' B vs ls :=
  ⟨h.1, fun i h1 h2 => (h.2 i h1 h2).below hb⟩

theorem VecRows.later {w w' : World} {vs : List Value} {ls : List (List Nat)} (h : VecRows w w.heap.size vs ls) (hb : Below w.heap.size w w') : VecRows w' w'.heap.size vs ls :=
  ⟨h.1, fun i h1 h2 => (h.2 i h1 h2).later hb⟩

theorem VecRows.drop {w : World} {B : Nat} {vs : List Value} {ls : List (List Nat)} (h : VecRows w B vs ls) (m : Nat) : VecRows w B (vs.drop m) (ls.drop m) :=
  ⟨by simp [h.1], fun i h1 h2 => by
    rw [List.getElem_drop, List.getElem_drop]
    exact h.2 _ _ _⟩

theorem VecRows.take {w : World} {B : Nat} {vs : List Value} {ls : List (List Nat)} (h : VecRows w B vs ls) (m : Nat) : VecRows w B (vs.take m) (ls.take m) :=
  ⟨by simp [h.1], fun i h1 h2 => by
    rw [List.getElem_take, List.getElem_take]
    exact h.2 _ _ _⟩

theorem VecRows.nil {w : World} {B : Nat} : VecRows w B [] [] := ⟨rfl, fun i h => absurd h (by simp)⟩

theorem VecRows.cons {w : World} {B : Nat} {v : Value} {l : List Nat} {vs : List Value} {ls : List (List Nat)} (h : Vec w B v l) (t : VecRows w B vs ls) : VecRows w B (v :: vs) (l :: ls) :=
  ⟨by simp [t.1], fun i h1 h2 => by
    rcases i with _ | i
    · exact h
    · exact t.2 i (by simpa using h1) (by simpa using h2)⟩

theorem VecRows.append {w : World} {B : Nat} {vs vs' : List Value} {ls ls' : List (List Nat)} (h : VecRows w B vs ls) (t : VecRows w B vs' ls') : VecRows w B (vs ++ vs') (ls ++ ls') := by
  refine ⟨by simp [h.1, t.1], fun i h1 h2 => ?_⟩
  by_cases hi : i < vs.length
  · rw [List.getElem_append_left hi, List.getElem_append_left (by rw [← h.1]; exact hi)]
    exact h.2 _ _ _
  · rw [List.getElem_append_right (by omega), List.getElem_append_right (by rw [← h.1]; omega)]
    have e : vs.length = ls.length := h.1
    have := t.2 (i - vs.length) (by simp at h1; omega) (by simp at h2; omega)
    simpa [e] using this

/-- A new slice of the call's own, that holds these numbers. -/
def OwnedV (w : World) (base : Nat) (l : List Nat) (e : Ending) (w' : World) : Prop :=
  ∃ A n c, e = .returned (.slice A n c) ∧ Hid (l.length = n) ∧ n ≤ c ∧ c ≤ maxLen ∧ w'.ownsRow base 31 1 (.slice A n c) n (uvs l) ∧ Below base w w'

theorem OwnedV.of {w w' : World} {base : Nat} {l : List Nat} {v : Value} {n : Nat} (h : w'.ownsRow base 31 1 v n (uvs l)) (hb : Below base w w') : OwnedV w base l (.returned v) w' := by
  obtain ⟨A, c, rfl, h1, h2⟩ := own_slice h
  exact ⟨A, n, c, rfl, by have := own_len h; rw [uvs_length] at this; exact this, h1, h2, h, hb⟩

/-- What has been made so far: numbers in memory of the call's own. -/
def Mk (w : World) (l : List Nat) (v : Value) (wr : World) : Prop := ∃ n, wr.ownsRow w.heap.size 31 1 v n (uvs l) ∧ Below w.heap.size w wr ∧ Hid (l.length = n)

theorem Mk.of {w wr : World} {l : List Nat} {v : Value} {n : Nat} (h : wr.ownsRow w.heap.size 31 1 v n (uvs l)) (hb : Below w.heap.size w wr) : Mk w l v wr :=
  ⟨n, h, hb, by have := own_len h; rw [uvs_length] at this; exact this⟩

theorem Mk.owned {w wr : World} {l : List Nat} {v : Value} (h : Mk w l v wr) : OwnedV w w.heap.size l (.returned v) wr := by
  obtain ⟨_, ho, hb, _⟩ := h
  exact OwnedV.of ho hb

theorem Mk.below {w wr : World} {l : List Nat} {v : Value} (h : Mk w l v wr) : Below w.heap.size w wr := by
  obtain ⟨_, _, hb, _⟩ := h
  exact hb

/-- append(owned, y). -/
theorem wpList_push {wb : World} {ops : Array Oper} {rest : List Oper} {o : Oper} {a : Act} {Q : Exit → Act → World → Prop} (hgd : o.guard = none) (s x : Operand)
    (ho : o.op = .call { callee := .builtin .append, args := #[s, x], argTypes := #[27, 27] }) (base n : Nat) (l : List Nat) (y : Nat) (v : Value) (hs : a.eval s = v) (hx : a.eval x = .slice (some ⟨wb.heap.size, 0, none⟩) 1 1)
    (hown : wb.ownsRow base 31 1 v n (uvs l)) (hn : n ≤ 1000) (hbase : base ≤ wb.heap.size)
    (h : ∀ v' w', w'.ownsRow base 31 1 v' (n + 1) (uvs (l ++ [y])) → Below base wb w' → wpList Try.prog ops Q rest (a.put o.dst v') w') :
    wpList Try.prog ops Q (o :: rest) a (wb.alloc (.cells #[.int .u64 (y : Int)] 31)) := by
  obtain ⟨i0, hi, hz0, hz1, hz2⟩ := info_parts Try.infoU
  refine wpList_append_lst hgd s x 27 ho base 31 i0 (.int .u64 0) 8 Try.underlying27 hi hz0 hz1 hz2 rfl v n (uvs l) hs (hown.alloc _) _ _ 1 1 [.int .u64 (y : Int)] hx rfl (lies_new wb #[.int .u64 (y : Int)] 31) (by simp [Value.oneCell']) (by unfold maxLen; omega) (by omega) (by simp; omega) ?_
  intro v' w' hown' _ hb' _
  refine h v' w' ?_ (((Below.refl base wb).alloc hbase _).trans hb')
  rw [uvs_append]
  exact hown'

/-- The rows of a list that has just been laid for a call. -/
theorem rows_laid {w : World} (t : TypeId) {cs : Array Value} {vs : List Value} {ls : List (List Nat)} (hv : cs.toList = vs) (h : VecRows w w.heap.size vs ls) :
    Lies (w.alloc (.cells cs t)) (w.alloc (.cells cs t)).heap.size (some ⟨w.heap.size, 0, none⟩) vs ∧ VecRows (w.alloc (.cells cs t)) (w.alloc (.cells cs t)).heap.size vs ls ∧ Below w.heap.size w (w.alloc (.cells cs t)) := by
  subst hv
  exact ⟨(lies_new w cs t).more (by simp), h.later ((Below.refl _ _).alloc (Nat.le_refl _) _), (Below.refl _ _).alloc (Nat.le_refl _) _⟩

theorem vec_lit (w : World) (t : TypeId) (cs : Array Value) (l : List Nat) (n : Nat) (he : cs.toList = uvs l) (hn : l.length = n) (hm : n ≤ 1000) :
    Vec (w.alloc (.cells cs t)) (w.alloc (.cells cs t)).heap.size (.slice (some ⟨w.heap.size, 0, none⟩) n n) l ∧ Below w.heap.size w (w.alloc (.cells cs t)) :=
  ⟨⟨_, _, _, rfl, hn, Nat.le_refl _, by unfold maxLen; omega, by rw [← he]; exact (lies_new w cs t).more (by simp)⟩, (Below.refl _ _).alloc (Nat.le_refl _) _⟩

/-- The number of a process. -/
def num (l : List Nat) (k : Nat) : Nat := l.getD k 0

theorem num_in {l : List Nat} {k : Nat} (h : k < l.length) : num l k = l[k] := by simp [num, h]

theorem num_out {l : List Nat} {k : Nat} (h : l.length ≤ k) : num l k = 0 := by unfold num; rw [List.getD_eq_getElem?_getD, List.getElem?_eq_none h]; rfl

theorem num_ext {a b : List Nat} (hl : a.length = b.length) (h : ∀ k, num a k = num b k) : a = b := by
  refine List.ext_getElem hl fun i h1 h2 => ?_
  rw [← num_in h1, ← num_in h2]
  exact h i

/-- The number of a process, whatever the place. -/
def atI (l : List Nat) (i : Int) : Nat := if i < 0 then 0 else num l i.toNat

theorem atI_nat (l : List Nat) (k : Nat) : atI l (k : Int) = num l k := by unfold atI; rw [if_neg (by omega)]; rfl

set_option maxHeartbeats 400000 in
theorem at_any (A : Option Addr) (n c : Nat) (i : Int) (B : Nat) (l : List Nat) (w : World) (hl : l.length = n) (h : Lies w B A (uvs l)) :
    Calls Try.prog 35 #[.slice A n c, .int .i64 i] w fun e w' => e = .returned (.int .u64 (atI l i : Int)) ∧ w = w' := by
  by_cases h0 : i < 0
  · have e0 : atI l i = 0 := by unfold atI; rw [if_pos h0]
    rw [e0]
    go_enter Try.func35, Try.ntmps35
    go_wp2
    go_ret
    exact ⟨rfl, rfl⟩
  · obtain ⟨k, rfl⟩ : ∃ k : Nat, i = (k : Int) := ⟨i.toNat, by omega⟩
    rw [atI_nat]
    by_cases hk : k < n
    · have hk1 : k < l.length := by rw [hl]; exact hk
      rw [num_in hk1]
      obtain ⟨b, off, rfl, hb, hc⟩ := h.at_ (uvs_at hk1)
      generalize (l[k] : Int) = x at hc
      clear hl
      go_enter Try.func35, Try.ntmps35
      go_wp2
      go_ret
      exact ⟨rfl, rfl⟩
    · rw [num_out (by omega)]
      clear hl
      go_enter Try.func35, Try.ntmps35
      go_wp2
      go_ret
      exact ⟨rfl, rfl⟩

theorem at_nat (A : Option Addr) (n c : Nat) (k : Nat) (B : Nat) (l : List Nat) (w : World) (hl : l.length = n) (h : Lies w B A (uvs l)) :
    Calls Try.prog 35 #[.slice A n c, .int .i64 (k : Int)] w fun e w' => e = .returned (.int .u64 (num l k : Int)) ∧ w = w' := by
  rw [← atI_nat]
  exact at_any A n c k B l w hl h

theorem maxF_any (x y : Nat) (w : World) : Calls Try.prog 43 #[.int .u64 (x : Int), .int .u64 (y : Int)] w fun e w' => e = .returned (.int .u64 (max x y : Nat)) ∧ w = w' := by
  by_cases h : x < y
  · rw [Nat.max_eq_right (by omega)]
    go_enter Try.func43, Try.ntmps43
    go_wp2
    go_ret
    exact ⟨by show Ending.returned (Value.int .u64 (max (x : Int) (y : Int))) = _; rw [Int.max_eq_right (by omega)], rfl⟩
  · rw [Nat.max_eq_left (by omega)]
    go_enter Try.func43, Try.ntmps43
    go_wp2
    go_ret
    exact ⟨by show Ending.returned (Value.int .u64 (max (x : Int) (y : Int))) = _; rw [Int.max_eq_left (by omega)], rfl⟩

/-- The length of the longest one. -/
def longN (ls : List (List Nat)) : Nat := ls.foldl (fun m l => max m l.length) 0

theorem longN_snoc (ls : List (List Nat)) (k : Nat) (h : k < ls.length) : longN (ls.take (k + 1)) = max (longN (ls.take k)) ls[k].length := by
  unfold longN
  rw [List.take_succ_eq_append_getElem h, List.foldl_append]
  rfl

set_option maxHeartbeats 400000 in
theorem longest_any (A : Option Addr) (n c : Nat) (B : Nat) (vs : List Value) (ls : List (List Nat)) (w : World) (hn : n ≤ 1000) (hl : vs.length = n) (h : Lies w B A vs) (hr : VecRows w B vs ls) :
    Calls Try.prog 45 #[.slice A n c] w fun e w' => e = .returned (.int .i64 (longN ls : Int)) ∧ w = w' := by
  have HL := Lib.hid hl
  have HR := Lib.hid hr
  clear hl hr
  go_enter Try.func45, Try.ntmps45
  go_wp2
  go_loop [3, 5, 8] (fun s3 _ i => ∃ k : Nat, k ≤ n ∧ i = .int .i64 k ∧ s3 = .int .i64 (longN (ls.take k) : Int)) (fun _ _ i => n - (intOf i).toNat)
  case atStart => exact ⟨0, Nat.zero_le _, rfl, rfl⟩
  case round =>
    obtain ⟨k, hk, rfl, rfl⟩ := hrel
    by_cases hlt : k < n
    · have hk1 : k < vs.length := by rw [HL.out]; exact hlt
      have hk2 : k < ls.length := by rw [← HR.out.1]; exact hk1
      obtain ⟨Ar, nr, cr, hvr, hlr, _, _, hLr⟩ := HR.out.2 k hk1 hk2
      obtain ⟨b, off, rfl, hb, hc⟩ := h.at_ (List.getElem?_eq_getElem hk1)
      rw [hvr] at hc
      have HS := Lib.hid (longN_snoc ls k hk2)
      rw [hlr] at HS
      clear hvr hlr
      generalize longN (ls.take k) = q at HS
      by_cases hm : q < nr
      · have HM : Hid (longN (ls.take (k + 1)) = nr) := by rw [HS.out]; exact Nat.max_eq_right (by omega)
        clear HS
        go_wp2
        go_round
        case rel => exact ⟨k + 1, by omega, by go_num, by rw [HM.out, Int.max_eq_right (by omega)]⟩
        case measure => simp [intOf]; omega
      · have HM : Hid (longN (ls.take (k + 1)) = q) := by rw [HS.out]; exact Nat.max_eq_left (by omega)
        clear HS
        go_wp2
        go_round
        case rel => exact ⟨k + 1, by omega, by go_num, by rw [HM.out, Int.max_eq_left (by omega)]⟩
        case measure => simp [intOf]; omega
    · have HA : Hid (ls.take k = ls) := List.take_of_length_le (by rw [← HR.out.1, HL.out]; omega)
      go_wp2
      go_ret
      exact ⟨by rw [HA.out]; rfl, rfl⟩


theorem later_same {P : Program} {f : FuncId} {args : Array Value} {w0 : World} {p : Later w0} {v : Value} (h : Calls P f args p.w fun e w' => e = .returned v ∧ p.w = w') : Calls P f args p.w fun e w'' => e = .returned v ∧ ∃ q : Later w0, w'' = q.w :=
  h.mono fun _ _ ⟨he, hb⟩ => ⟨he, p, hb.symm⟩

/-- What comes of the numbers of one process, two at a time. -/
def foldN (op : Nat → Nat → Nat) (ls : List (List Nat)) (i : Nat) : Nat := (ls.drop 1).foldl (fun n a => op n (num a i)) (num (ls.headD []) i)

def firstN (op : Nat → Nat → Nat) (ls : List (List Nat)) (i k : Nat) : Nat := ((ls.drop 1).take k).foldl (fun n a => op n (num a i)) (num (ls.headD []) i)

def frontV (op : Nat → Nat → Nat) (ls : List (List Nat)) (m : Nat) : List Nat := (List.range m).map (foldN op ls)

def foldV (op : Nat → Nat → Nat) (ls : List (List Nat)) : List Nat := frontV op ls (longN ls)

theorem firstN_next (op : Nat → Nat → Nat) (ls : List (List Nat)) (i k : Nat) (h : k < (ls.drop 1).length) : firstN op ls i (k + 1) = op (firstN op ls i k) (num (ls.drop 1)[k] i) := by
  unfold firstN
  rw [List.take_succ_eq_append_getElem h, List.foldl_append]
  rfl

theorem firstN_all (op : Nat → Nat → Nat) (ls : List (List Nat)) (i k : Nat) (h : (ls.drop 1).length ≤ k) : firstN op ls i k = foldN op ls i := by
  unfold firstN foldN
  rw [List.take_of_length_le h]

theorem frontV_next (op : Nat → Nat → Nat) (ls : List (List Nat)) (m : Nat) : frontV op ls (m + 1) = frontV op ls m ++ [foldN op ls m] := by
  unfold frontV
  rw [List.range_succ, List.map_append]
  rfl

theorem frontV_length (op : Nat → Nat → Nat) (ls : List (List Nat)) (m : Nat) : (frontV op ls m).length = m := by simp [frontV]

set_option maxHeartbeats 1600000 in
theorem fold_any (op : Nat → Nat → Nat) (g : Nat) (eg : ∀ args w, (callFunc g args).run Try.prog w = .ok (.enter g args) w)
    (hg : ∀ (x y : Nat) (W : World), Calls Try.prog g #[.int .u64 (x : Int), .int .u64 (y : Int)] W fun e w' => e = .returned (.int .u64 (op x y : Nat)) ∧ W = w')
    (A : Option Addr) (n c : Nat) (vs : List Value) (ls : List (List Nat)) (w : World) (hn : n ≤ 1000) (hnc : n ≤ c) (hcm : c ≤ maxLen) (hlong : longN ls ≤ 1000) (hl : vs.length = n) (h : Lies w w.heap.size A vs) (hr : VecRows w w.heap.size vs ls) :
    Calls Try.prog 42 #[.slice A n c, .func (.func g) #[] #[]] w (OwnedV w w.heap.size (foldV op ls)) := by
  obtain ⟨i0, hi, hz0, hz1, hz2⟩ := info_parts Try.infoU
  have HL := Lib.hid hl
  have HR := Lib.hid hr
  have HG := Lib.hid hg
  have hlg := longest_any A n c w.heap.size vs ls w hn hl h hr
  unfold foldV
  generalize hN : longN ls = N at hlong hlg
  have HN := Lib.hid hN
  clear hl hr hg hN
  unfold maxLen at hcm
  go_enter Try.func42, Try.ntmps42
  go_wp2_with fail
  refine hlg.mono ?_
  rintro e w1 ⟨rfl, rfl⟩
  clear hlg
  go_wp2
  go_loopw [5, 6, 7, 9, 12] (fun v _ _ _ i wr => ∃ (k : Nat), k ≤ N ∧ i = .int .i64 k ∧ Mk w (frontV op ls k) v wr) (fun _ _ _ _ i _ => N - (intOf i).toNat)
  case atStart => exact ⟨0, Nat.zero_le _, rfl, Mk.of (n := 0) (World.ownsRow_nil _ _ _ _) (Below.refl _ _)⟩
  case round =>
    obtain ⟨k, hk, rfl, hM⟩ := hrel
    obtain ⟨wo, rfl⟩ : ∃ wo : World, wo = wr := ⟨_, rfl⟩
    by_cases hlt : k < N
    · have hp : 0 < ls.length := by
        rcases ls with _ | ⟨x, t⟩
        · have := HN.out; simp [longN] at this; omega
        · simp
      have hp1 : 0 < vs.length := by rw [HR.out.1]; exact hp
      have hpn : 0 < n := by rw [← HL.out]; exact hp1
      have hb := hM.below
      obtain ⟨A0, n0, c0, hv0, hl0, _, _, hL0⟩ := (HR.out.2 0 hp1 hp).below hb
      obtain ⟨b, off, rfl, hbb, hc⟩ := (h.below hb).at_ (List.getElem?_eq_getElem hp1)
      rw [hv0, Nat.add_zero] at hc
      have hd := lies_drop (h.below hb) 1
      have HD := Lib.hid ((HR.out.below hb).drop 1)
      have HDL : Hid ((vs.drop 1).length = n - 1) := by show _ = _; rw [List.length_drop, HL.out]
      have hat := at_nat A0 n0 c0 k w.heap.size ls[0] wo hl0 hL0
      have HF : Hid (num ls[0] k = firstN op ls k 0) := by
        rcases ls with _ | ⟨x, t⟩
        · simp at hp
        · rfl
      have HF2 := Lib.hid (firstN_next op ls k)
      have HF3 := Lib.hid (firstN_all op ls k)
      rw [HF.out] at hat
      obtain ⟨L, hoL, hbL, hLL⟩ := id hM
      have hLx : L ≤ 1000 := by have := hLL.out; rw [frontV_length] at this; omega
      have hLk : L = k := by have := hLL.out; rw [frontV_length] at this; omega
      clear hv0 hl0 hL0 hM
      have hn1 : n - 1 ≤ 1000 := by omega
      go_wp2_with fail
      refine hat.mono ?_
      rintro e w1 ⟨rfl, rfl⟩
      clear hat HF
      go_wp2
      case' inl =>
        subst h
        replace hd : Lies wo w.heap.size (some ⟨b, off, none⟩) (vs.drop 1) := by
          rw [List.drop_of_length_le (by rw [HL.out]; omega)]
          exact Lies.nil
      all_goals
        go_loop [7, 9, 23] (fun s7 _ s23 => ∃ (j : Nat), j ≤ n - 1 ∧ s23 = .int .i64 j ∧ s7 = .int .u64 (firstN op ls k j : Int)) (fun _ _ s23 => n - 1 - (intOf s23).toNat)
        case atStart => exact ⟨0, Nat.zero_le _, rfl, rfl⟩
        case round =>
          obtain ⟨j, hj, rfl, rfl⟩ := hrel
          by_cases hjl : j < n - 1
          · first
            | (exfalso; omega)
            | (have hj1 : j < (vs.drop 1).length := by rw [HDL.out]; exact hjl
               have hj2 : j < (ls.drop 1).length := by rw [← HD.out.1]; exact hj1
               obtain ⟨Ar, nr, cr, hvr, hlr, _, _, hLr⟩ := HD.out.2 j hj1 hj2
               obtain ⟨b', off', he, _, hcj⟩ := hd.at_ (List.getElem?_eq_getElem hj1)
               injection he with he
               injection he with e1 e2
               subst e1 e2
               rw [hvr] at hcj
               have hat := at_nat Ar nr cr k w.heap.size (ls.drop 1)[j] wo hlr hLr
               have hstep := Lib.hid (HF2.out j hj2)
               generalize num (ls.drop 1)[j] k = y at hat hstep
               generalize firstN op ls k j = x at hstep ⊢
               have hcall := HG.out x y wo
               rw [← hstep.out] at hcall
               clear hvr hlr hLr hstep
               go_wp2_with fail
               refine hat.mono ?_
               rintro e w1 ⟨rfl, rfl⟩
               go_wp2_with fail
               go_at_fn g
               refine hcall.mono ?_
               rintro e w1 ⟨rfl, rfl⟩
               go_wp2
               go_round
               case rel => exact ⟨j + 1, by omega, by go_num, rfl⟩
               case measure => simp [intOf]; omega)
          · rw [HF3.out j (by rw [← HD.out.1, HDL.out]; omega)]
            have hnx := Lib.hid (frontV_next op ls k)
            generalize foldN op ls k = x at hnx ⊢
            have hsz : w.heap.size ≤ wo.heap.size := hb.size
            clear hd HD HDL HF2 HF3 hc
            go_wp2_with (at_builtin; refine wpList_push rfl (.tmp 34) (.tmp 36) rfl w.heap.size L (frontV op ls k) x _ rfl rfl hoL hLx hsz ?_)
            intro v7 w7 hown7 hb7
            have hM7 : Mk w (frontV op ls (k + 1)) v7 w7 := by
              rw [hnx.out]
              exact Mk.of hown7 (hbL.trans hb7)
            clear hown7 hb7
            go_wp2
            go_roundw
            case rel => exact ⟨k + 1, by omega, by go_num, hM7⟩
            case measure => simp [intOf]; omega
    · have hkN : k = N := by omega
      subst hkN
      have HM := Lib.hid hM
      clear hM
      go_wp2
      go_ret
      exact HM.out.owned

theorem max_any (A : Option Addr) (n c : Nat) (vs : List Value) (ls : List (List Nat)) (w : World) (hn : n ≤ 1000) (hnc : n ≤ c) (hcm : c ≤ maxLen) (hlong : longN ls ≤ 1000) (hl : vs.length = n) (h : Lies w w.heap.size A vs) (hr : VecRows w w.heap.size vs ls) :
    Calls Try.prog 34 #[.slice A n c] w (OwnedV w w.heap.size (foldV max ls)) := by
  have hf := fold_any max 43 (enters_of Try.func43 (by kernel_rfl) rfl) maxF_any A n c vs ls w hn hnc hcm hlong hl h hr
  clear hl h hr hcm
  go_enter Try.func34, Try.ntmps34
  go_wp2_with fail
  refine hf.mono ?_
  intro e w1 ho
  obtain ⟨A1, n1, c1, rfl, hn1, h1, h2, ho, hb⟩ := ho
  have HO := Lib.hid ho
  clear ho hf
  go_wp2
  go_ret
  exact ⟨A1, n1, c1, rfl, hn1, h1, h2, HO.out, hb⟩

/-- Something holds between the numbers of two vectors, for each process that either has a number for. -/
def EveryTo (p : Nat → Nat → Bool) (a b : List Nat) (m : Nat) : Prop := ∀ i, i < m → p (num a i) (num b i) = true

def Every (p : Nat → Nat → Bool) (a b : List Nat) : Prop := EveryTo p a b (max a.length b.length)

open Classical in
noncomputable def everyB (p : Nat → Nat → Bool) (a : List Nat) (ls : List (List Nat)) : Bool := decide (∀ b ∈ ls, Every p a b)

theorem everyB_iff (p : Nat → Nat → Bool) (a : List Nat) (ls : List (List Nat)) : everyB p a ls = true ↔ ∀ b ∈ ls, Every p a b := by unfold everyB; simp

theorem EveryTo.zero (p : Nat → Nat → Bool) (a b : List Nat) : EveryTo p a b 0 := fun _ h => absurd h (by omega)

noncomputable def coversB (a : List Nat) (ls : List (List Nat)) : Bool := everyB (fun x y => decide (y ≤ x)) a ls

noncomputable def sameB (a : List Nat) (ls : List (List Nat)) : Bool := everyB (fun x y => decide (x = y)) a ls

theorem coversB_iff (a : List Nat) (ls : List (List Nat)) : coversB a ls = true ↔ ∀ b ∈ ls, ∀ i, num b i ≤ num a i := by
  unfold coversB
  rw [everyB_iff]
  refine forall₂_congr fun b _ => ?_
  constructor
  · intro h i
    by_cases hi : i < max a.length b.length
    · simpa using h i hi
    · rw [num_out (l := b) (by omega)]; omega
  · intro h i _
    simpa using h i

theorem sameB_iff (a : List Nat) (ls : List (List Nat)) : sameB a ls = true ↔ ∀ b ∈ ls, ∀ i, num a i = num b i := by
  unfold sameB
  rw [everyB_iff]
  refine forall₂_congr fun b _ => ?_
  constructor
  · intro h i
    by_cases hi : i < max a.length b.length
    · simpa using h i hi
    · rw [num_out (l := b) (by omega), num_out (l := a) (by omega)]
  · intro h i _
    simpa using h i

theorem bool_ext {a b : Bool} (h : a = true ↔ b = true) : a = b := by
  cases a <;> cases b <;> simp_all

set_option maxHeartbeats 400000 in
theorem refAt_any (A : Option Addr) (n c : Nat) (i : Int) (B : Nat) (l : List Nat) (w : World) (hl : l.length = n) (h : Lies w B A (uvs l)) :
    Calls Try.prog 38 #[.slice A n c, .int .i64 i] w fun e w' => e = .returned (.int .u64 (atI l i : Int)) ∧ w = w' := by
  by_cases h0 : i < 0
  · have e0 : atI l i = 0 := by unfold atI; rw [if_pos h0]
    rw [e0]
    go_enter Try.func38, Try.ntmps38
    go_wp2
    go_ret
    exact ⟨rfl, rfl⟩
  · obtain ⟨k, rfl⟩ : ∃ k : Nat, i = (k : Int) := ⟨i.toNat, by omega⟩
    rw [atI_nat]
    by_cases hk : k < n
    · have hk1 : k < l.length := by rw [hl]; exact hk
      rw [num_in hk1]
      obtain ⟨b, off, rfl, hb, hc⟩ := h.at_ (uvs_at hk1)
      generalize (l[k] : Int) = x at hc
      clear hl
      go_enter Try.func38, Try.ntmps38
      go_wp2
      go_ret
      exact ⟨rfl, rfl⟩
    · rw [num_out (by omega)]
      clear hl
      go_enter Try.func38, Try.ntmps38
      go_wp2
      go_ret
      exact ⟨rfl, rfl⟩

theorem refAt_nat (A : Option Addr) (n c : Nat) (k : Nat) (B : Nat) (l : List Nat) (w : World) (hl : l.length = n) (h : Lies w B A (uvs l)) :
    Calls Try.prog 38 #[.slice A n c, .int .i64 (k : Int)] w fun e w' => e = .returned (.int .u64 (num l k : Int)) ∧ w = w' := by
  rw [← atI_nat]
  exact refAt_any A n c k B l w hl h

theorem covers_one_iff (a b : List Nat) : coversB a [b] = true ↔ ∀ i, i < b.length → num b i ≤ num a i := by
  rw [coversB_iff]
  simp only [List.mem_singleton, forall_eq]
  constructor
  · intro h i _
    exact h i
  · intro h i
    by_cases hi : i < b.length
    · exact h i hi
    · rw [num_out (l := b) (by omega)]; omega

set_option maxHeartbeats 1600000 in
theorem refCovers_any (A : Option Addr) (n c : Nat) (a : List Nat) (A2 : Option Addr) (m c2 : Nat) (b : List Nat) (w : World) (hm : m ≤ 1000) (hl : a.length = n) (h : Lies w w.heap.size A (uvs a)) (hl2 : b.length = m) (h2 : Lies w w.heap.size A2 (uvs b)) :
    Calls Try.prog 21 #[.slice A n c, .slice A2 m c2] w fun e w' => e = .returned (.bool (coversB a [b])) ∧ Below w.heap.size w w' := by
  have mixed := mixedOrders
  have HL := Lib.hid hl
  have HL2 := Lib.hid hl2
  have HAT : Hid (∀ (W : World) (k : Nat), Below w.heap.size w W → Calls Try.prog 38 #[.slice A n c, .int .i64 (k : Int)] W fun e w' => e = .returned (.int .u64 (num a k : Int)) ∧ W = w') := fun W k hW => refAt_nat A n c k _ a W HL.out (h.below hW)
  clear hl hl2 h
  go_enter Try.func21, Try.ntmps21
  go_wp2
  go_loopw [5, 8] (fun _ i wr => ∃ k : Nat, k ≤ m ∧ i = .int .i64 k ∧ Below w.heap.size w wr ∧ Hid (∀ i, i < k → num b i ≤ num a i)) (fun _ i _ => m - (intOf i).toNat)
  case atStart => exact ⟨0, Nat.zero_le _, rfl, Below.refl _ _, fun _ h => absurd h (by omega)⟩
  case round =>
    obtain ⟨k, hk, rfl, hb, hK⟩ := hrel
    by_cases hlt : k < m
    · have hk1 : k < b.length := by rw [HL2.out]; exact hlt
      obtain ⟨bb, off, rfl, hbl, hc⟩ := (h2.below hb).at_ (uvs_at hk1)
      have hbw : bb < wr.heap.size := Nat.lt_of_lt_of_le hbl hb.size
      have x0 := later_cell (w0 := wr) hbw hc
      have K1 : Hid (b[k] ≤ num a k → ∀ i, i < k + 1 → num b i ≤ num a i) := fun hq i hi => by
        by_cases e : i = k
        · subst e; rw [num_in hk1]; exact hq
        · exact hK.out i (by omega)
      have K2 : Hid (¬ b[k] ≤ num a k → coversB a [b] = false) := fun hq => by
        rw [Bool.eq_false_iff, Ne, covers_one_iff]
        intro hall
        have := hall k hk1
        rw [num_in hk1] at this
        exact hq this
      have hAT : ∀ p : Later wr, Calls Try.prog 38 #[.slice A n c, .int .i64 (k : Int)] p.w fun e w' => e = .returned (.int .u64 (num a k : Int)) ∧ p.w = w' := fun p => HAT.out p.w k (hb.trans (p.hb.mono hb.size))
      have HATk := Lib.hid hAT
      clear hc hK hAT
      generalize b[k] = y at x0 K1 K2
      generalize num a k = x at HATk K1 K2
      go_wp2_with fail
      by_cases hxy : y ≤ x
      · have HN := Lib.hid (K1.out hxy)
        have hd1 : decide (x < y) = false := by simp; omega
        clear K1 K2
        refine wp_region_later mixed (by kernel_rfl) ?_
        repeat (go_big_quiet_step ((go_at_call 38; exact later_same (HATk.out _))))
        refine wpQuiet_nil ?_
        intro _ hw'
        obtain ⟨p, rfl⟩ := hw'
        have hbp : Below w.heap.size w p.w := hb.trans (p.hb.mono hb.size)
        go_wp2
        go_roundw
        case rel => exact ⟨k + 1, by omega, by go_num, hbp, HN⟩
        case measure => simp [intOf]; omega
      · have HN := Lib.hid (K2.out hxy)
        have hd1 : decide (x < y) = true := by simp; omega
        clear K1 K2
        refine wp_region_later mixed (by kernel_rfl) ?_
        repeat (go_big_quiet_step ((go_at_call 38; exact later_same (HATk.out _))))
        refine wpQuiet_nil ?_
        intro _ hw'
        obtain ⟨p, rfl⟩ := hw'
        have hbp : Below w.heap.size w p.w := hb.trans (p.hb.mono hb.size)
        go_wp2
        go_ret
        rw [HN.out]
        exact ⟨rfl, hbp⟩
    · have HA : Hid (coversB a [b] = true) := (covers_one_iff a b).2 fun i hi => hK.out i (by rw [HL2.out] at hi; omega)
      go_wp2
      go_ret
      rw [HA.out]
      exact ⟨rfl, hb⟩

theorem same_one (a b : List Nat) : sameB a [b] = (coversB a [b] && coversB b [a]) := by
  refine bool_ext ?_
  rw [Bool.and_eq_true, sameB_iff, coversB_iff, coversB_iff]
  simp only [List.mem_singleton, forall_eq]
  constructor
  · intro h
    exact ⟨fun i => by rw [h i]; exact Nat.le_refl _, fun i => by rw [h i]; exact Nat.le_refl _⟩
  · rintro ⟨h1, h2⟩ i
    exact Nat.le_antisymm (h2 i) (h1 i)

set_option maxHeartbeats 400000 in
theorem refSame_any (A : Option Addr) (n c : Nat) (a : List Nat) (A2 : Option Addr) (m c2 : Nat) (b : List Nat) (w : World) (hn : n ≤ 1000) (hm : m ≤ 1000) (hl : a.length = n) (h : Lies w w.heap.size A (uvs a)) (hl2 : b.length = m) (h2 : Lies w w.heap.size A2 (uvs b)) :
    Calls Try.prog 29 #[.slice A n c, .slice A2 m c2] w fun e w' => e = .returned (.bool (sameB a [b])) ∧ Below w.heap.size w w' := by
  rw [same_one]
  have c1 := refCovers_any A n c a A2 m c2 b w hm hl h hl2 h2
  have C2 : Hid (∀ W : World, Below w.heap.size w W → Calls Try.prog 21 #[.slice A2 m c2, .slice A n c] W fun e w' => e = .returned (.bool (coversB b [a])) ∧ Below W.heap.size W w') := fun W hW => refCovers_any A2 m c2 b A n c a W hn hl2 (h2.later hW) hl (h.later hW)
  generalize coversB a [b] = x at c1 ⊢
  generalize coversB b [a] = y at C2 ⊢
  clear hl hl2 h h2
  cases x with
  | true =>
    rw [Bool.true_and]
    go_enter Try.func29, Try.ntmps29
    go_wp2_with fail
    refine c1.mono ?_
    rintro e w1 ⟨rfl, hb1⟩
    clear c1
    go_wp2_with fail
    refine (C2.out w1 hb1).mono ?_
    rintro e w2 ⟨rfl, hb2⟩
    go_wp2
    go_ret
    exact ⟨rfl, hb1.trans (hb2.mono hb1.size)⟩
  | false =>
    rw [Bool.false_and]
    go_enter Try.func29, Try.ntmps29
    go_wp2_with fail
    refine c1.mono ?_
    rintro e w1 ⟨rfl, hb1⟩
    clear c1
    go_wp2
    go_ret
    exact ⟨rfl, hb1⟩

theorem same_refl (a : List Nat) : sameB a [a] = true := by
  rw [sameB_iff]
  intro b hb i
  simp at hb
  subst hb
  rfl

/-- Equal of two vectors that hold the same numbers. -/
theorem refEqual_same (A : Option Addr) (n c : Nat) (a : List Nat) (A2 : Option Addr) (m c2 : Nat) (w : World) (hn : n ≤ 1000) (hl : a.length = n) (h : Lies w w.heap.size A (uvs a)) (hl2 : a.length = m) (h2 : Lies w w.heap.size A2 (uvs a)) :
    Calls Try.prog 15 #[.slice A n c, .slice A2 m c2] w fun e w' => e = .returned (.bool true) ∧ Below w.heap.size w w' := by
  obtain rfl : n = m := by omega
  have c1 := refSame_any A n c a A2 n c2 a w hn hn hl h hl2 h2
  rw [same_refl] at c1
  clear hl hl2 h h2
  go_enter Try.func15, Try.ntmps15
  go_wp2_with fail
  refine c1.mono ?_
  rintro e w1 ⟨rfl, hb1⟩
  go_wp2
  go_ret
  exact ⟨rfl, hb1⟩

/-- append([]uint64{}, a...) -/
theorem wpList_anew {wb : World} {ops : Array Oper} {rest : List Oper} {o : Oper} {a : Act} {Q : Exit → Act → World → Prop} (hgd : o.guard = none) (s x : Operand)
    (ho : o.op = .call { callee := .builtin .append, args := #[s, x], argTypes := #[27, 27] }) (hs : a.eval s = .slice (some ⟨wb.heap.size, 0, none⟩) 0 0)
    (A : Option Addr) (n c B : Nat) (l : List Nat) (hx : a.eval x = .slice A n c) (hl : l.length = n) (hL : Lies wb B A (uvs l)) (hB : B ≤ wb.heap.size) (hn : n ≤ 1000)
    (h : ∀ v' w', w'.ownsRow wb.heap.size 31 1 v' n (uvs l) → Below wb.heap.size wb w' → wpList Try.prog ops Q rest (a.put o.dst v') w') :
    wpList Try.prog ops Q (o :: rest) a (wb.alloc (.cells #[] 31)) := by
  obtain ⟨i0, hi, hz0, hz1, hz2⟩ := info_parts Try.infoU
  have hal : Below wb.heap.size wb (wb.alloc (.cells #[] 31)) := (Below.refl _ _).alloc (Nat.le_refl _) _
  refine wpList_append_lst hgd s x 27 ho wb.heap.size 31 i0 (.int .u64 0) 8 Try.underlying27 hi hz0 hz1 hz2 rfl _ 0 [] hs (World.ownsRow_lit wb #[] 0 (Nat.le_refl _) (Nat.zero_le _) rfl) B A n c (uvs l) hx (by rw [uvs_length]; exact hl) (hL.below (hal.mono hB)) (uvs_one l) (by unfold maxLen; omega) (by omega) (by simp) ?_
  intro v' w' hown' _ hb' _
  refine h v' w' ?_ (hal.trans hb')
  simpa using hown'

theorem eqNilU (w : World) (A : Option Addr) (n c n' c' : Nat) : (binOp .eql 27 (.slice A n c) (.slice none n' c')).run Try.prog w = .ok (.bool A.isNone) w := Lib.run_eql_slice_nil w _ _ A n c n' c' Try.underlying27

set_option maxHeartbeats 400000 in
theorem clone_any (A : Option Addr) (n c : Nat) (l : List Nat) (w : World) (hl : l.length = n) (hn : n ≤ 1000) (h : Lies w w.heap.size A (uvs l)) :
    Calls Try.prog 30 #[.slice A n c] w (OwnedV w w.heap.size l) := by
  have q := eqNilU
  rcases A with _ | ad
  · have hnil : l = [] := by
      rcases l with _ | ⟨x, r⟩
      · rfl
      · obtain ⟨_, _, h, _⟩ := h (by simp [uvs])
        cases h
    subst hnil
    have : n = 0 := by simpa using hl.symm
    subst this
    go_enter Try.func30, Try.ntmps30
    go_wp2
    go_ret
    exact OwnedV.of (World.ownsRow_nil _ _ _ _) (Below.refl _ _)
  · have HL := Lib.hid hl
    clear hl
    go_enter Try.func30, Try.ntmps30
    go_wp2_with (at_builtin; refine wpList_anew rfl (.tmp 5) (.tmp 6) rfl rfl (some ad) n c _ l rfl HL.out h (Nat.le_refl _) hn ?_)
    intro v1 w1 hown hb
    have HO := Lib.hid hown
    clear hown
    go_wp2
    go_ret
    exact OwnedV.of HO.out hb

theorem uvs_set (l : List Nat) (i n : Nat) : uvs (l.set i n) = (uvs l).set i (.int .u64 (n : Int)) := by simp [uvs, uv, List.map_set]

end Go.Proofs.Ytnpdjlcekmpmoaa
