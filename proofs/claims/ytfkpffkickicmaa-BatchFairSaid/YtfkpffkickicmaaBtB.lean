/- append of ids and runs; slices.Clone, IndexFunc, DeleteFunc at runs; ident's without. -/
import Derived.Test.YtfkpffkickicmaaBtA
import Derived.Shelf.SlicesE.Clone
import Derived.Shelf.SlicesQ.IndexFunc
namespace Go.Proofs.Ytfkpffkickicmaa
open Go.RowKit Go.Sort

theorem run_append_emptyK {P : Program} {w : World} (base k : Nat) (t ty e : TypeId) (i : TypeInfo) (ht : P.underlying t = some (.slice e)) (hi : P.info? e = some i)
    (v : Value) (n : Nat) (xs : List Value) (hown : w.ownsRow base e k v n xs) (c : Nat) :
    (Builtin.append_ #[t, t] ty #[v, .slice none 0 c]).run P w = .ok v w := by
  rcases hown.2 with ⟨rfl, rfl⟩ | ⟨g, cap, cur, rfl, _, _, hnc, _⟩
  · simp [Builtin.append_, run_underlying ht, sizeOf, typeInfo, hi, Builtin.lenOf, Builtin.firstCells]
  · simp [Builtin.append_, run_underlying ht, sizeOf, typeInfo, hi, Builtin.lenOf, Builtin.firstCells, hnc, storeCells]

/-- append(owned, src...): src nil or not, elements of k cells. -/
theorem run_append_lstK {P : Program} {w : World} (base k : Nat) (hk : 0 < k) (t ty e : TypeId) (i : TypeInfo) (z : Value) (bytes : Nat) (ht : P.underlying t = some (.slice e)) (hi : P.info? e = some i) (hz : i.zero = some z)
    (hsize : i.size = k) (hby : i.bytes = bytes) (hzs : z.cells.size = k) (v : Value) (n : Nat) (xs : List Value) (hown : w.ownsRow base e k v n xs)
    (B : Nat) (A : Option Addr) (m c : Nat) (news : List Value) (hl : news.length = m * k) (hlies : Lies w B A news) (h1 : ∀ u ∈ news, u.oneCell' = true)
    (h63 : n + m ≤ maxLen) (hbytes : (n + m) * bytes ≤ 140737488355328) (hbase : base ≤ w.heap.size) :
    ∃ v' w', (Builtin.append_ #[t, t] ty #[v, .slice A m c]).run P w = .ok v' w' ∧ w'.ownsRow base e k v' (n + m) (xs ++ news) ∧ w.grownBy w' v.ownBlock ∧
      (v'.ownBlock = v.ownBlock ∨ v'.ownBlock = some w.heap.size) := by
  rcases A with _ | ad
  · have hnil : news = [] := by
      rcases news with _ | ⟨u, r⟩
      · rfl
      · obtain ⟨_, _, h, _⟩ := hlies (by simp)
        cases h
    subst hnil
    have hm : m = 0 := by
      rcases Nat.eq_zero_or_pos m with h | h
      · exact h
      · have := Nat.mul_pos h hk; simp at hl; omega
    subst hm
    exact ⟨v, w, run_append_emptyK base k t ty e i ht hi v n xs hown c, by simpa using hown, World.grownBy.refl w _, .inl rfl⟩
  · have hcells : ∀ j u, news[j]? = some u → w.cell? (ad.add j) = some u := fun j u hu => by
      obtain ⟨b, off, he, _, hc⟩ := hlies (by rintro rfl; simp at hu)
      injection he with he
      subst he
      rw [add_plain]
      exact hc j u hu
    obtain ⟨v', w', hrun, h2, h3, _, h5⟩ := run_append_own_at (P := P) w base t ty e i z k bytes ht hi hz hsize hby hzs hk v n xs hown ad m c news hl hcells h1 h63 hbytes hbase
    exact ⟨v', w', hrun, h2, h3, h5⟩

theorem wpList_append_lstK {P : Program} {w : World} {ops : Array Oper} {rest : List Oper} {o : Oper} {a : Act} {Q : Exit → Act → World → Prop} (hgd : o.guard = none) (s x : Operand) (t : TypeId)
    (ho : o.op = .call { callee := .builtin .append, args := #[s, x], argTypes := #[t, t] })
    (base k : Nat) (hk : 0 < k) (e : TypeId) (i : TypeInfo) (z : Value) (bytes : Nat) (ht : P.underlying t = some (.slice e)) (hi : P.info? e = some i) (hz : i.zero = some z)
    (hsize : i.size = k) (hby : i.bytes = bytes) (hzs : z.cells.size = k) (v : Value) (n : Nat) (xs : List Value) (hs : a.eval s = v) (hown : w.ownsRow base e k v n xs)
    (B : Nat) (A : Option Addr) (m c : Nat) (news : List Value) (hx : a.eval x = .slice A m c) (hl : news.length = m * k) (hlies : Lies w B A news) (h1 : ∀ u ∈ news, u.oneCell' = true)
    (h63 : n + m ≤ maxLen) (hbytes : (n + m) * bytes ≤ 140737488355328) (hbase : base ≤ w.heap.size)
    (h : ∀ v' w', w'.ownsRow base e k v' (n + m) (xs ++ news) → w.grownBy w' v.ownBlock → Below base w w' → (v'.ownBlock = v.ownBlock ∨ v'.ownBlock = some w.heap.size) → wpList P ops Q rest (a.put o.dst v') w') :
    wpList P ops Q (o :: rest) a w := by
  refine wpList_plain hgd fun K hK => ?_
  obtain ⟨v', w', hrun, h2, h3, h4⟩ := run_append_lstK (P := P) (w := w) base k hk t o.type e i z bytes ht hi hz hsize hby hzs v n xs hown B A m c news hl hlies h1 h63 hbytes hbase
  have hk := hK _ _ (h v' w' h2 h3 ((Below.refl base w).grown h3 hbase (fun k e => (hown.lt k e).1)) h4)
  unfold Oper.wp execOp
  simp only [ho, resolve, invoke, builtin, Sem.run_bind, Sem.run_pure, Result.andThen_ok, List.map_toArray, List.map_cons, List.map_nil, hs, hx, hrun]
  exact hk

theorem Try.infoID : (Try.prog.info? 46).map (fun i => (i.zero, i.size, i.bytes)) = some (some (.agg #[.int .u8 0, .int .u64 0]), 2, 16) := by kernel_rfl

theorem Try.infoRun : (Try.prog.info? 43).map (fun i => (i.zero, i.size, i.bytes)) = some (some (.agg #[.int .u8 0, .int .u64 0, .int .u64 0]), 3, 24) := by kernel_rfl

theorem eqNilRns (w : World) (A : Option Addr) (n c n' c' : Nat) : (binOp .eql 23 (.slice A n c) (.slice none n' c')).run Try.prog w = .ok (.bool A.isNone) w := Lib.run_eql_slice_nil w _ _ A n c n' c' Try.underlying23

/-- A new slice of the call's own that holds these ids. -/
def OwnIds (w : World) (base : Nat) (l : List Id) (e : Ending) (w' : World) : Prop :=
  ∃ A n c, e = .returned (.slice A n c) ∧ Hid (l.length = n) ∧ n ≤ c ∧ c ≤ maxLen ∧ w'.ownsRow base 46 2 (.slice A n c) n (flat encId l) ∧ Below base w w'

def OwnRns (w : World) (base : Nat) (l : List Rn) (e : Ending) (w' : World) : Prop :=
  ∃ A n c, e = .returned (.slice A n c) ∧ Hid (l.length = n) ∧ n ≤ c ∧ c ≤ maxLen ∧ w'.ownsRow base 43 3 (.slice A n c) n (flat encRn l) ∧ Below base w w'

theorem OwnIds.of {w w' : World} {base : Nat} {l : List Id} {v : Value} {n : Nat} (hl : l.length = n) (h : w'.ownsRow base 46 2 v n (flat encId l)) (hb : Below base w w') : OwnIds w base l (.returned v) w' := by
  obtain ⟨A, c, rfl, h1, h2⟩ := own_sliceK h
  exact ⟨A, n, c, rfl, hl, h1, h2, h, hb⟩

theorem OwnRns.of {w w' : World} {base : Nat} {l : List Rn} {v : Value} {n : Nat} (hl : l.length = n) (h : w'.ownsRow base 43 3 v n (flat encRn l)) (hb : Below base w w') : OwnRns w base l (.returned v) w' := by
  obtain ⟨A, c, rfl, h1, h2⟩ := own_sliceK h
  exact ⟨A, n, c, rfl, hl, h1, h2, h, hb⟩

set_option maxHeartbeats 400000 in
theorem cloneRns_any (A : Option Addr) (n c : Nat) (l : List Rn) (w : World) (hl : l.length = n) (hn : n ≤ 1000) (h : Lies w w.heap.size A (flat encRn l)) :
    Calls Try.prog 49 #[.slice A n c] w (OwnRns w w.heap.size l) := by
  obtain ⟨i0, hi, hz0, hz1, hz2⟩ := info_parts Try.infoRun
  have q := eqNilRns
  rcases A with _ | ad
  · have hnil : l = [] := by
      rcases l with _ | ⟨x, r⟩
      · rfl
      · obtain ⟨_, _, h, _⟩ := h.rn (i := 0) (by simp)
        cases h
    subst hnil
    have : n = 0 := by simpa using hl.symm
    subst this
    go_enter Try.func49, Try.ntmps49
    go_wp2
    go_ret
    exact OwnRns.of rfl (World.ownsRow_nil _ _ _ _) (Below.refl _ _)
  · have HL := Lib.hid hl
    clear hl
    have hL1 : Lies (w.alloc (.cells #[] 43)) w.heap.size (some ad) (flat encRn l) := h.below ((Below.refl _ _).alloc (Nat.le_refl _) _)
    have hO := World.ownsRow_made (size := 3) (e := 43) w #[] 0 (Nat.le_refl _) (Nat.zero_le _) rfl
    clear h
    go_enter Try.func49, Try.ntmps49
    go_wp2_with (at_builtin; refine wpList_append_lstK rfl _ _ 23 rfl w.heap.size 3 (by decide) 43 i0 (.agg #[.int .u8 0, .int .u64 0, .int .u64 0]) 24 Try.underlying23 hi hz0 hz1 hz2 rfl _ 0 [] rfl hO _ _ _ _ (flat encRn l) rfl ?d0 hL1 (flat_one encRn_one _) ?d2 ?d3 ?d4 ?_)
    case d0 => rw [flat_length encRn_len, HL.out]
    case d2 => unfold maxLen; omega
    case d3 => omega
    case d4 => simp
    intro v1 w1 hown hg hb _
    go_wp2
    go_ret
    exact OwnRns.of HL.out hown (((Below.refl _ _).alloc (Nat.le_refl _) _).trans hb)

/-- The first place at which p holds, or -1. -/
def FirstAt {α : Type} (p : α → Bool) (l : List α) (r : Int) : Prop :=
  (r = -1 ∧ ∀ x ∈ l, p x = false) ∨ ∃ k, ∃ hk : k < l.length, r = (k : Int) ∧ p l[k] = true ∧ ∀ x ∈ l.take k, p x = false

theorem FirstAt.found {α : Type} {p : α → Bool} {l : List α} {r : Int} (h : FirstAt p l r) : decide (0 ≤ r) = l.any p := by
  rcases h with ⟨rfl, h⟩ | ⟨k, hk, rfl, h1, _⟩
  · have : l.any p = false := by rw [List.any_eq_false]; intro x hx; rw [h x hx]; simp
    rw [this]; rfl
  · have : l.any p = true := by rw [List.any_eq_true]; exact ⟨_, List.getElem_mem hk, h1⟩
    rw [this]; simp

set_option maxHeartbeats 800000 in
theorem indexRns_any (p : Rn → Bool) (g : Nat) (lb : Array Value) (eg : ∀ args w, (callFunc g args).run Try.prog w = .ok (.enter g args) w) (A : Option Addr) (n c : Nat) (l : List Rn) (w : World) (hp : PredBelow Try.prog g lb valRn p w)
    (hl : l.length = n) (hn : n ≤ 1000) (h : Lies w w.heap.size A (flat encRn l)) :
    Calls Try.prog 46 #[.slice A n c, .func (.func g) #[] lb] w fun e w' => ∃ r : Int, e = .returned (.int .i64 r) ∧ Hid (FirstAt p l r) ∧ Below w.heap.size w w' := by
  have HL := Lib.hid hl
  have HP := Lib.hid hp
  clear hl hp
  go_enter Try.func46, Try.ntmps46
  go_wp2
  go_loopw [5, 8] (fun _ i wr => ∃ k : Nat, k ≤ n ∧ i = .int .i64 k ∧ Below w.heap.size w wr ∧ Hid (∀ x ∈ l.take k, p x = false)) (fun _ i _ => n - (intOf i).toNat)
  case atStart => exact ⟨0, Nat.zero_le _, rfl, Below.refl _ _, by show ∀ x ∈ l.take 0, _; simp⟩
  case round =>
    obtain ⟨k, hk, rfl, hb, hK⟩ := hrel
    by_cases hlt : k < n
    · have hk1 : k < l.length := by rw [HL.out]; exact hlt
      have hcall := HP.out wr l[k] hb
      unfold valRn at hcall
      have hK' : Hid (p l[k] = false → ∀ x ∈ l.take (k + 1), p x = false) := fun hq x hx => by
        rw [List.take_succ_eq_append_getElem hk1, List.mem_append] at hx
        rcases hx with h1 | h1
        · exact hK.out x h1
        · simp at h1; subst h1; exact hq
      have hF : Hid (p l[k] = true → FirstAt p l (k : Int)) := fun hq => .inr ⟨k, hk1, rfl, hq, hK.out⟩
      obtain ⟨bb, off, rfl, hbl, c0, c1, c2⟩ := (h.below hb).rn hk1
      have hwn : wr.heap.size ≥ w.heap.size := hb.size
      generalize hq : p l[k] = b at hcall hK' hF
      clear hK hq
      cases b with
      | true =>
        go_wp2_with (go_at_fn g; refine hcall.mono ?_; rintro e w' ⟨rfl, hb'⟩)
        go_ret
        exact ⟨_, rfl, hF.out (by simp), hb'⟩
      | false =>
        go_wp2_with (go_at_fn g; refine hcall.mono ?_; rintro e w' ⟨rfl, hb'⟩)
        go_roundw
        case rel => exact ⟨k + 1, by omega, by go_num, hb', hK'.out (by simp)⟩
        case measure => simp [intOf]; omega
    · have hF : Hid (FirstAt p l (-1)) := .inl ⟨rfl, fun x hx => hK.out x (by rw [List.take_of_length_le (by rw [HL.out]; omega)]; exact hx)⟩
      go_wp2
      go_ret
      exact ⟨_, rfl, hF.out, hb⟩

/-- What DeleteFunc has made: of the first j those that are kept stand in front, i of them; from j on all is as it was. -/
structure Kept {α : Type} (keep : α → Bool) (l dk : List α) (i j : Nat) : Prop where
  len : dk.length = l.length
  lt : i < j
  le : j ≤ l.length
  front : dk.take i = (l.take j).filter keep
  back : ∀ t, j ≤ t → dk[t]? = l[t]?

theorem Kept.start {α : Type} {keep : α → Bool} {l : List α} {k : Nat} (hk : k < l.length) (h1 : keep l[k] = false) (h2 : ∀ x ∈ l.take k, keep x = true) : Kept keep l l k (k + 1) := by
  refine ⟨rfl, by omega, hk, ?_, fun _ _ => rfl⟩
  rw [List.take_succ_eq_append_getElem hk, List.filter_append]
  simp [h1, List.filter_eq_self.2 h2]

theorem Kept.keep {α : Type} {keep : α → Bool} {l dk : List α} {i j : Nat} (h : Kept keep l dk i j) (hj : j < l.length) (hk : keep l[j] = true) : Kept keep l (dk.set i l[j]) (i + 1) (j + 1) := by
  refine ⟨by simp [h.len], by have := h.lt; omega, hj, ?_, fun t ht => ?_⟩
  · have hi : i < dk.length := by have := h.lt; have := h.len; omega
    rw [List.take_succ_eq_append_getElem (by simpa using hi), List.take_succ_eq_append_getElem hj, List.filter_append, ← h.front, List.take_set_of_le (Nat.le_refl i)]
    simp [hk]
  · rw [List.getElem?_set_ne (by have := h.lt; omega)]
    exact h.back t (by omega)

theorem Kept.skip {α : Type} {keep : α → Bool} {l dk : List α} {i j : Nat} (h : Kept keep l dk i j) (hj : j < l.length) (hk : keep l[j] = false) : Kept keep l dk i (j + 1) := by
  refine ⟨h.len, by have := h.lt; omega, hj, ?_, fun t ht => h.back t (by omega)⟩
  rw [List.take_succ_eq_append_getElem hj, List.filter_append, ← h.front]
  simp [hk]

theorem Kept.at_ {α : Type} {keep : α → Bool} {l dk : List α} {i j : Nat} (h : Kept keep l dk i j) (hj : j < l.length) : dk[j]'(by rw [h.len]; exact hj) = l[j] := by
  have := h.back j (Nat.le_refl _)
  rw [List.getElem?_eq_getElem (by rw [h.len]; exact hj), List.getElem?_eq_getElem hj] at this
  exact Option.some.inj this

/-- A run of stores behind the front of a slice of the call's own. -/
theorem own_setCells {base k g n c : Nat} {e : TypeId} : ∀ (vs : List Value) (o : Nat) (w : World) (xs : List Value), w.ownsRow base e k (.slice (some ⟨g, 0, none⟩) n c) n xs →
    ∃ ys, (w.setCells g o vs).ownsRow base e k (.slice (some ⟨g, 0, none⟩) n c) n ys ∧ ys.take o = xs.take o ∧ w.grownBy (w.setCells g o vs) (some g)
  | [], o, w, xs, h => ⟨xs, h, rfl, World.grownBy.refl w _⟩
  | v :: r, o, w, xs, h => by
    obtain ⟨h1, h2⟩ := h.stored o v
    obtain ⟨ys, h3, h4, h5⟩ := own_setCells r (o + 1) _ _ h1
    refine ⟨ys, h3, ?_, h2.trans h5⟩
    have := congrArg (List.take o) h4
    rw [List.take_take, List.take_take, Nat.min_eq_left (Nat.le_succ o)] at this
    rw [this, List.take_set_of_le (Nat.le_refl o)]

theorem clear_own {base k g n c i : Nat} {e t ty : TypeId} {z : Value} {w : World} {xs : List Value} (ht : Try.prog.underlying t = some (.slice e)) (hv : ∀ w, (zeroValue e).run Try.prog w = .ok z w) (hz : z.cells.size = k) (hz1 : ∀ u ∈ z.cells.toList, u.oneCell' = true) (hk : 0 < k) (hi : i < n) (c' : Nat)
    (h : w.ownsRow base e k (.slice (some ⟨g, 0, none⟩) n c) n xs) :
    ∃ w', (Builtin.clear_ #[t] ty #[.slice (some ⟨g, i * k, none⟩) (n - i) c']).run Try.prog w = .ok (.tuple #[]) w' ∧ w'.ownsRow base e k (.slice (some ⟨g, 0, none⟩) i c) i (xs.take (i * k)) ∧ w.grownBy w' (some g) := by
  have hl : (Builtin.zeroCells z.cells (n - i)).toList.length = (n - i) * k := by simp [Builtin.zeroCells, hz]
  have h1 : ∀ u ∈ (Builtin.zeroCells z.cells (n - i)).toList, u.oneCell' = true := by
    intro u hu
    simp only [Builtin.zeroCells, Array.toList_map, List.mem_map] at hu
    obtain ⟨a, _, rfl⟩ := hu
    have hlt : a % z.cells.size < z.cells.size := Nat.mod_lt _ (by omega)
    exact hz1 _ (by rw [getElem!_pos z.cells _ hlt]; simp)
  generalize hvs : (Builtin.zeroCells z.cells (n - i)).toList = vs at hl h1
  have hlt : ∀ j, j < vs.length → i * k + j < n * k := fun j hj => by
    have : i * k + (n - i) * k = n * k := by rw [← Nat.add_mul]; congr 1; omega
    omega
  have hlen := h.1
  have hst := run_storeCells_cells (P := Try.prog) g (i * k) vs 0 w (fun j hj => by rw [Nat.add_zero, h.cellAt _ (hlt j hj), List.getElem?_eq_getElem (by rw [hlen]; exact hlt j hj)]; rfl) (fun j hj => h.frozenAt _) h1
  rw [Nat.add_zero] at hst
  obtain ⟨ys, h3, h4, h5⟩ := own_setCells vs (i * k) w xs h
  refine ⟨_, ?_, ?_, h5⟩
  · obtain ⟨m, hm⟩ : ∃ m, n - i = m + 1 := ⟨n - i - 1, by omega⟩
    rw [hm] at hvs
    simp [Builtin.clear_, run_underlying ht, hm, hv, hvs, hst]
  · have := own_front h3 (Nat.le_of_lt hi)
    rw [h4] at this
    exact this

set_option maxHeartbeats 1600000 in
theorem deleteRns_any (p : Rn → Bool) (g : Nat) (eg : ∀ args w, (callFunc g args).run Try.prog w = .ok (.enter g args) w) (hp : ∀ x W, Calls Try.prog g #[valRn x] W fun e w' => e = .returned (.bool (p x)) ∧ Grew W w') (A : Option Addr) (n c base : Nat) (l : List Rn) (w : World)
    (hl : l.length = n) (hn : n ≤ 1000) (hb : base ≤ w.heap.size) (h : w.ownsRow base 43 3 (.slice A n c) n (flat encRn l)) :
    Calls Try.prog 40 #[.slice A n c, .func (.func g) #[] #[]] w (OwnRns w base (l.filter fun x => !p x)) := by
  have hidx := indexRns_any p g #[] eg A n c l w (fun W x hW => (hp x W).mono fun _ _ ⟨he, hg⟩ => ⟨he, hW.trans (hg.below.mono hW.size)⟩) hl hn (Lies.of_ownK h)
  have HL := Lib.hid hl
  have HP := Lib.hid hp
  clear hl hp
  go_enter Try.func40, Try.ntmps40
  go_wp2_with fail
  refine hidx.mono ?_
  rintro e w1 ⟨r, rfl, hF, hb1⟩
  have hown1 := own_below h hb1
  have hb1' : Below base w w1 := hb1.mono hb
  have hbs : base ≤ w1.heap.size := Nat.le_trans hb hb1.size
  clear hidx h hb1
  rcases hF.out with ⟨rfl, hall⟩ | ⟨k, hk, rfl, hpk, hall⟩
  · have hfil : (l.filter fun x => !p x) = l := List.filter_eq_self.2 (fun x hx => by rw [hall x hx]; rfl)
    have HF := Lib.hid hfil
    have H1 := Lib.hid hown1
    clear hfil hall hF hown1
    go_wp2
    go_ret
    rw [HF.out]
    exact OwnRns.of HL.out H1.out hb1'
  · have hk0 : k < n := by rw [← HL.out]; exact hk
    obtain ⟨gg, cap, hv, hbg, hlt⟩ := hown1.form (by omega)
    obtain ⟨rfl, rfl⟩ : A = some ⟨gg, 0, none⟩ ∧ c = cap := by injection hv with e1 _ e3; exact ⟨e1, e3⟩
    have hK : Hid (Kept (fun x => !p x) l l k (k + 1)) := Kept.start hk (by simp [hpk]) (fun x hx => by simp [hall x hx])
    have H1 := Lib.hid hown1
    have hne1 : ((k : Int) == -1) = false := beq_eq_false_iff_ne.2 (by omega)
    clear hF hpk hall hown1 hv hk
    go_wp2
    go_loopw [5, 6, 7] (fun s5 s6 _ wr => ∃ (i j : Nat) (dk : List Rn), s5 = .int .i64 i ∧ s6 = .int .i64 j ∧ j ≤ n ∧ Hid (Kept (fun x => !p x) l dk i j) ∧ wr.ownsRow base 43 3 (.slice (some ⟨gg, 0, none⟩) n c) n (flat encRn dk) ∧ Below base w wr) (fun _ s6 _ _ => n - (intOf s6).toNat)
    case atStart => exact ⟨k, k + 1, l, rfl, by go_num, by omega, hK, H1.out, hb1'⟩
    case round =>
      clear hK H1 hb1' hlt hbs
      obtain ⟨i, j, dk, rfl, rfl, hjn, hK, hown, hbr⟩ := hrel
      have hij : i < j := hK.out.lt
      have hdl : dk.length = n := by rw [hK.out.len, HL.out]
      have hbs : base ≤ wr.heap.size := Nat.le_trans hb hbr.size
      have hgl : gg < wr.heap.size := (hown.lt gg rfl).2
      by_cases hlt : j < n
      · have hjl : j < l.length := by rw [HL.out]; exact hlt
        have hjd : j < dk.length := by rw [hdl]; exact hlt
        have hcall := fun W => HP.out l[j] W
        have c0 : wr.cell? ⟨gg, j * 3, none⟩ = some (.int .u8 (dk[j].f : Int)) := by rw [hown.cellAt _ (by omega)]; exact rns_at0 dk j hjd
        have c1 : wr.cell? ⟨gg, j * 3 + 1, none⟩ = some (.int .u64 (dk[j].a : Int)) := by rw [hown.cellAt _ (by omega)]; exact rns_at1 dk j hjd
        have c2 : wr.cell? ⟨gg, j * 3 + 1 + 1, none⟩ = some (.int .u64 (dk[j].c : Int)) := by rw [hown.cellAt _ (by omega)]; exact rns_at2 dk j hjd
        rw [hK.out.at_ hjl] at c0 c1 c2
        have HD := Lib.hid hdl
        have HO := Lib.hid hown
        clear hdl hown hjd
        unfold valRn at hcall
        generalize hpb : p l[j] = pb at hcall
        have HPB := Lib.hid hpb
        clear hpb
        go_wp2_with fail
        generalize hw0 : World.alloc wr _ = w0
        obtain ⟨hs0, hG, hcc⟩ := box1 wr w0 _ _ hw0
        refine (hcall _).mono ?_
        rintro e w2 ⟨rfl, hg2⟩
        have hbw : RowKit.Below wr.heap.size wr w2 := hG.below.trans (hg2.below.mono hG.size)
        have hO2 := own_below HO.out hbw
        have b0 : w2.cell? ⟨wr.heap.size, 0, none⟩ = some (.int .u8 (l[j].f : Int)) := (hg2.below.cell (p := ⟨wr.heap.size, 0, none⟩) (by show wr.heap.size < w0.heap.size; omega)).trans (hcc 0 _ rfl)
        have b1 : w2.cell? ⟨wr.heap.size, 1, none⟩ = some (.int .u64 (l[j].a : Int)) := (hg2.below.cell (p := ⟨wr.heap.size, 1, none⟩) (by show wr.heap.size < w0.heap.size; omega)).trans (hcc 1 _ rfl)
        have b2 : w2.cell? ⟨wr.heap.size, 2, none⟩ = some (.int .u64 (l[j].c : Int)) := (hg2.below.cell (p := ⟨wr.heap.size, 2, none⟩) (by show wr.heap.size < w0.heap.size; omega)).trans (hcc 2 _ rfl)
        have hbr2 : RowKit.Below base w w2 := hbr.trans (hbw.mono hbs)
        have hgl2 : gg < w2.heap.size := Nat.lt_of_lt_of_le hgl hbw.size
        clear hw0 hG hcc hs0 hg2 hbw HO hbr hcall
        cases pb with
        | true =>
          have H2 := Lib.hid hO2
          clear hO2
          go_wp2
          go_roundw
          case rel => exact ⟨i, j + 1, dk, rfl, by go_num, by omega, hK.out.skip hjl (by simp [HPB.out]), H2.out, hbr2⟩
          case measure => simp [intOf]; omega
        | false =>
          have hid : i < dk.length := by rw [HD.out]; omega
          have o0 : w2.cell? ⟨gg, i * 3, none⟩ = some (.int .u8 (dk[i].f : Int)) := by rw [hO2.cellAt _ (by omega)]; exact rns_at0 dk i hid
          have o1 : w2.cell? ⟨gg, i * 3 + 1, none⟩ = some (.int .u64 (dk[i].a : Int)) := by rw [hO2.cellAt _ (by omega)]; exact rns_at1 dk i hid
          have o2 : w2.cell? ⟨gg, i * 3 + 2, none⟩ = some (.int .u64 (dk[i].c : Int)) := by rw [hO2.cellAt _ (by omega)]; exact rns_at2 dk i hid
          have f0 := hO2.frozenAt (i * 3)
          have f1 := hO2.frozenAt (i * 3 + 1)
          have f2 := hO2.frozenAt (i * 3 + 2)
          generalize (dk[i].f : Int) = of at o0
          generalize (dk[i].a : Int) = oa at o1
          generalize (dk[i].c : Int) = oc at o2
          have H2 := Lib.hid hO2
          clear hO2
          go_wp2
          go_roundw
          case rel =>
            refine ⟨i + 1, j + 1, dk.set i l[j], by go_num, by go_num, by omega, hK.out.keep hjl (by simp [HPB.out]), ?_, ?_⟩
            · have s2 := (((H2.out.stored (i * 3) (.int .u8 (l[j].f : Int))).1.stored (i * 3 + 1) (.int .u64 (l[j].a : Int))).1.stored (i * 3 + 2) (.int .u64 (l[j].c : Int))).1
              rwa [rns_set dk i l[j] hid] at s2
            · exact ((hbr2.setCell (p := ⟨gg, _, none⟩) hbg _).setCell (p := ⟨gg, _, none⟩) hbg _).setCell (p := ⟨gg, _, none⟩) hbg _
          case measure => simp [intOf]; omega
      · obtain rfl : j = n := by omega
        have hcn : j ≤ c := by
          obtain ⟨_, _, hv, h1, _⟩ := own_sliceK hown
          injection hv with _ _ e3
          omega
        obtain ⟨w3, hcl, hown3, hg3⟩ := clear_own (k := 3) (ty := 0) (i := i) Try.underlying23 Try.zeroValue43 rfl (by simp [Value.cells, Value.oneCell']) (by decide) hij (c - i) hown
        rw [flat_take encRn_len dk i (by omega), hK.out.front, ← HL.out, List.take_length] at hown3
        have hlen : (l.filter fun x => !p x).length = i := by
          have := congrArg List.length hK.out.front
          rw [List.length_take, ← HL.out, List.take_length] at this
          omega
        have HO3 := Lib.hid hown3
        have HLEN := Lib.hid hlen
        have hb3 : RowKit.Below base w w3 := hbr.grown hg3 hbs (fun q hq => by injection hq with hq; omega)
        clear hown hown3 hlen hK hdl hg3
        go_wp2
        go_ret
        exact OwnRns.of HLEN.out HO3.out hb3

set_option maxHeartbeats 400000 in
theorem withoutRns_any (A : Option Addr) (n c : Nat) (l : List Rn) (w : World) (hl : l.length = n) (hn : n ≤ 1000) (h : Lies w w.heap.size A (flat encRn l)) :
    Calls Try.prog 44 #[.slice A n c, .func (.func 45) #[] #[]] w (OwnRns w w.heap.size (l.filter runB)) := by
  have hcl := cloneRns_any A n c l w hl hn h
  have eg : ∀ args w, (callFunc 45 args).run Try.prog w = .ok (.enter 45 args) w := enters_of Try.func45 (by kernel_rfl) rfl
  have hf : (l.filter fun x => !(!runB x)) = l.filter runB := by simp
  rw [← hf]
  have EG := Lib.hid eg
  clear eg h hf
  go_enter Try.func44, Try.ntmps44
  go_wp2_with fail
  refine hcl.mono ?_
  rintro e w1 ⟨A1, n1, c1, rfl, hn1, hc1, hc2, hown, hb1⟩
  have e1 : n1 = n := by rw [← hn1.out]; exact hl
  subst e1
  go_wp2_with fail
  refine (deleteRns_any (fun x => !runB x) _ EG.out (fun x W => mayNot_any x W) A1 n1 c1 w.heap.size l w1 hl hn hb1.size hown).mono ?_
  rintro e w2 ⟨A2, n2, c2, rfl, hn2, hc3, hc4, hown2, hb2⟩
  clear hown hcl
  have HO := Lib.hid hown2
  clear hown2
  go_wp2
  go_ret
  exact ⟨A2, n2, c2, rfl, hn2, hc3, hc4, HO.out, hb1.trans hb2⟩

end Go.Proofs.Ytfkpffkickicmaa
