/- append of ids and runs, slices.Clone at them. -/
import Derived.Test.YtoihikeeaobemaaIdD
namespace Go.Proofs.Ytoihikeeaobemaa
open Go.RowKit

theorem run_append_emptyK {P : Program} {w : World} (base k : Nat) (t ty e : TypeId) (i : TypeInfo) (ht : P.underlying t = some (.slice e)) (hi : P.info? e = some i)
    (v : Value) (n : Nat) (xs : List Value) (hown : w.ownsRow base e k v n xs) (c : Nat) :
    (Builtin.append_ #[t, t] ty #[v, .slice none 0 c]).run P w = .ok v w := by
  rcases hown.2 with ⟨rfl, rfl⟩ | ⟨g, cap, cur, rfl, _, _, hnc, _⟩
  · simp [Builtin.append_, run_underlying ht, sizeOf, typeInfo, hi, Builtin.lenOf, Builtin.firstCells]
  · simp [Builtin.append_, run_underlying ht, sizeOf, typeInfo, hi, Builtin.lenOf, Builtin.firstCells, hnc, storeCells]

/-- append(owned, src...): src nil or not, elements of k cells. -/
theorem run_append_lstK {P : Program} {w : World} (base k : Nat) (hk : 0 < k) (t ty e : TypeId) (i : TypeInfo) (z : Value) (bytes : Nat) (ht : P.underlying t = some (.slice e)) (hi : P.info? e = some i) (hz : i.zero = some z)
    (hsize : i.size = k) (hby : i.bytes = bytes) (hzs : z.cells.size = k) (v : Value) (n : Nat) (xs : List Value) (hown : w.ownsRow base e k v n xs)
    (B : Nat) (A : Option Addr) (m c : Nat) (news : List Value) (hl : news.length = m * k) (hlies : Lies w B A news) (h1 : ∀ u ∈ news, u.oneCell' = true)
    (h63 : n + m ≤ maxLen) (hbytes : (n + m) * bytes ≤ 140737488355328) (hbase : base ≤ w.heap.size) :
    ∃ v' w', (Builtin.append_ #[t, t] ty #[v, .slice A m c]).run P w = .ok v' w' ∧ w'.ownsRow base e k v' (n + m) (xs ++ news) ∧ w.grownBy w' v.ownBlock ∧
      (v'.ownBlock = v.ownBlock ∨ v'.ownBlock = some w.heap.size) := by
  rcases A with _ | ad
  · have hnil : news = [] := by
      rcases news with _ | ⟨u, r⟩
      · rfl
      · obtain ⟨_, _, h, _⟩ := hlies (by simp)
        cases h
    subst hnil
    have hm : m = 0 := by
      rcases Nat.eq_zero_or_pos m with h | h
      · exact h
      · have := Nat.mul_pos h hk; simp at hl; omega
    subst hm
    exact ⟨v, w, run_append_emptyK base k t ty e i ht hi v n xs hown c, by simpa using hown, World.grownBy.refl w _, .inl rfl⟩
  · have hcells : ∀ j u, news[j]? = some u → w.cell? (ad.add j) = some u := fun j u hu => by
      obtain ⟨b, off, he, _, hc⟩ := hlies (by rintro rfl; simp at hu)
      injection he with he
      subst he
      rw [add_plain]
      exact hc j u hu
    obtain ⟨v', w', hrun, h2, h3, _, h5⟩ := run_append_own_at (P := P) w base t ty e i z k bytes ht hi hz hsize hby hzs hk v n xs hown ad m c news hl hcells h1 h63 hbytes hbase
    exact ⟨v', w', hrun, h2, h3, h5⟩

theorem wpList_append_lstK {P : Program} {w : World} {ops : Array Oper} {rest : List Oper} {o : Oper} {a : Act} {Q : Exit → Act → World → Prop} (hgd : o.guard = none) (s x : Operand) (t : TypeId)
    (ho : o.op = .call { callee := .builtin .append, args := #[s, x], argTypes := #[t, t] })
    (base k : Nat) (hk : 0 < k) (e : TypeId) (i : TypeInfo) (z : Value) (bytes : Nat) (ht : P.underlying t = some (.slice e)) (hi : P.info? e = some i) (hz : i.zero = some z)
    (hsize : i.size = k) (hby : i.bytes = bytes) (hzs : z.cells.size = k) (v : Value) (n : Nat) (xs : List Value) (hs : a.eval s = v) (hown : w.ownsRow base e k v n xs)
    (B : Nat) (A : Option Addr) (m c : Nat) (news : List Value) (hx : a.eval x = .slice A m c) (hl : news.length = m * k) (hlies : Lies w B A news) (h1 : ∀ u ∈ news, u.oneCell' = true)
    (h63 : n + m ≤ maxLen) (hbytes : (n + m) * bytes ≤ 140737488355328) (hbase : base ≤ w.heap.size)
    (h : ∀ v' w', w'.ownsRow base e k v' (n + m) (xs ++ news) → w.grownBy w' v.ownBlock → Below base w w' → (v'.ownBlock = v.ownBlock ∨ v'.ownBlock = some w.heap.size) → wpList P ops Q rest (a.put o.dst v') w') :
    wpList P ops Q (o :: rest) a w := by
  refine wpList_plain hgd fun K hK => ?_
  obtain ⟨v', w', hrun, h2, h3, h4⟩ := run_append_lstK (P := P) (w := w) base k hk t o.type e i z bytes ht hi hz hsize hby hzs v n xs hown B A m c news hl hlies h1 h63 hbytes hbase
  have hk := hK _ _ (h v' w' h2 h3 ((Below.refl base w).grown h3 hbase (fun k e => (hown.lt k e).1)) h4)
  unfold Oper.wp execOp
  simp only [ho, resolve, invoke, builtin, Sem.run_bind, Sem.run_pure, Result.andThen_ok, List.map_toArray, List.map_cons, List.map_nil, hs, hx, hrun]
  exact hk

theorem Try.infoID : (Try.prog.info? 24).map (fun i => (i.zero, i.size, i.bytes)) = some (some (.agg #[.int .u8 0, .int .u64 0]), 2, 16) := by kernel_rfl
theorem Try.infoRun : (Try.prog.info? 26).map (fun i => (i.zero, i.size, i.bytes)) = some (some (.agg #[.int .u8 0, .int .u64 0, .int .u64 0]), 3, 24) := by kernel_rfl

theorem eqNilIds (w : World) (A : Option Addr) (n c n' c' : Nat) : (binOp .eql 39 (.slice A n c) (.slice none n' c')).run Try.prog w = .ok (.bool A.isNone) w := Lib.run_eql_slice_nil w _ _ A n c n' c' Try.underlying39
theorem eqNilRns (w : World) (A : Option Addr) (n c n' c' : Nat) : (binOp .eql 27 (.slice A n c) (.slice none n' c')).run Try.prog w = .ok (.bool A.isNone) w := Lib.run_eql_slice_nil w _ _ A n c n' c' Try.underlying27

/-- A new slice of the call's own that holds these ids. -/
def OwnIds (w : World) (base : Nat) (l : List Id) (e : Ending) (w' : World) : Prop :=
  ∃ A n c, e = .returned (.slice A n c) ∧ Hid (l.length = n) ∧ n ≤ c ∧ c ≤ maxLen ∧ w'.ownsRow base 24 2 (.slice A n c) n (flat encId l) ∧ Below base w w'
def OwnRns (w : World) (base : Nat) (l : List Rn) (e : Ending) (w' : World) : Prop :=
  ∃ A n c, e = .returned (.slice A n c) ∧ Hid (l.length = n) ∧ n ≤ c ∧ c ≤ maxLen ∧ w'.ownsRow base 26 3 (.slice A n c) n (flat encRn l) ∧ Below base w w'

theorem OwnIds.of {w w' : World} {base : Nat} {l : List Id} {v : Value} {n : Nat} (hl : l.length = n) (h : w'.ownsRow base 24 2 v n (flat encId l)) (hb : Below base w w') : OwnIds w base l (.returned v) w' := by
  obtain ⟨A, c, rfl, h1, h2⟩ := own_sliceK h
  exact ⟨A, n, c, rfl, hl, h1, h2, h, hb⟩
theorem OwnRns.of {w w' : World} {base : Nat} {l : List Rn} {v : Value} {n : Nat} (hl : l.length = n) (h : w'.ownsRow base 26 3 v n (flat encRn l)) (hb : Below base w w') : OwnRns w base l (.returned v) w' := by
  obtain ⟨A, c, rfl, h1, h2⟩ := own_sliceK h
  exact ⟨A, n, c, rfl, hl, h1, h2, h, hb⟩

set_option maxHeartbeats 400000 in
theorem cloneIds_any (A : Option Addr) (n c : Nat) (l : List Id) (w : World) (hl : l.length = n) (hn : n ≤ 1000) (h : Lies w w.heap.size A (flat encId l)) :
    Calls Try.prog 48 #[.slice A n c] w (OwnIds w w.heap.size l) := by
  obtain ⟨i0, hi, hz0, hz1, hz2⟩ := info_parts Try.infoID
  have q := eqNilIds
  rcases A with _ | ad
  · have hnil : l = [] := by
      rcases l with _ | ⟨x, r⟩
      · rfl
      · obtain ⟨_, _, h, _⟩ := h.id (i := 0) (by simp)
        cases h
    subst hnil
    have : n = 0 := by simpa using hl.symm
    subst this
    go_enter Try.func48, Try.ntmps48
    go_wp2
    go_ret
    exact OwnIds.of rfl (World.ownsRow_nil _ _ _ _) (Below.refl _ _)
  · have HL := Lib.hid hl
    clear hl
    have hL1 : Lies (w.alloc (.cells #[] 24)) w.heap.size (some ad) (flat encId l) := h.below ((Below.refl _ _).alloc (Nat.le_refl _) _)
    have hO := World.ownsRow_made (size := 2) (e := 24) w #[] 0 (Nat.le_refl _) (Nat.zero_le _) rfl
    clear h
    go_enter Try.func48, Try.ntmps48
    go_wp2_with (at_builtin; refine wpList_append_lstK rfl _ _ 39 rfl w.heap.size 2 (by decide) 24 i0 (.agg #[.int .u8 0, .int .u64 0]) 16 Try.underlying39 hi hz0 hz1 hz2 rfl _ 0 [] rfl hO _ _ _ _ (flat encId l) rfl ?d0 hL1 (flat_one encId_one _) ?d2 ?d3 ?d4 ?_)
    case d0 => rw [flat_length encId_len, HL.out]
    case d2 => unfold maxLen; omega
    case d3 => omega
    case d4 => simp
    intro v1 w1 hown hg hb _
    go_wp2
    go_ret
    exact OwnIds.of HL.out hown (((Below.refl _ _).alloc (Nat.le_refl _) _).trans hb)

set_option maxHeartbeats 400000 in
theorem cloneRns_any (A : Option Addr) (n c : Nat) (l : List Rn) (w : World) (hl : l.length = n) (hn : n ≤ 1000) (h : Lies w w.heap.size A (flat encRn l)) :
    Calls Try.prog 46 #[.slice A n c] w (OwnRns w w.heap.size l) := by
  obtain ⟨i0, hi, hz0, hz1, hz2⟩ := info_parts Try.infoRun
  have q := eqNilRns
  rcases A with _ | ad
  · have hnil : l = [] := by
      rcases l with _ | ⟨x, r⟩
      · rfl
      · obtain ⟨_, _, h, _⟩ := h.rn (i := 0) (by simp)
        cases h
    subst hnil
    have : n = 0 := by simpa using hl.symm
    subst this
    go_enter Try.func46, Try.ntmps46
    go_wp2
    go_ret
    exact OwnRns.of rfl (World.ownsRow_nil _ _ _ _) (Below.refl _ _)
  · have HL := Lib.hid hl
    clear hl
    have hL1 : Lies (w.alloc (.cells #[] 26)) w.heap.size (some ad) (flat encRn l) := h.below ((Below.refl _ _).alloc (Nat.le_refl _) _)
    have hO := World.ownsRow_made (size := 3) (e := 26) w #[] 0 (Nat.le_refl _) (Nat.zero_le _) rfl
    clear h
    go_enter Try.func46, Try.ntmps46
    go_wp2_with (at_builtin; refine wpList_append_lstK rfl _ _ 27 rfl w.heap.size 3 (by decide) 26 i0 (.agg #[.int .u8 0, .int .u64 0, .int .u64 0]) 24 Try.underlying27 hi hz0 hz1 hz2 rfl _ 0 [] rfl hO _ _ _ _ (flat encRn l) rfl ?d0 hL1 (flat_one encRn_one _) ?d2 ?d3 ?d4 ?_)
    case d0 => rw [flat_length encRn_len, HL.out]
    case d2 => unfold maxLen; omega
    case d3 => omega
    case d4 => simp
    intro v1 w1 hown hg hb _
    go_wp2
    go_ret
    exact OwnRns.of HL.out hown (((Below.refl _ _).alloc (Nat.le_refl _) _).trans hb)

end Go.Proofs.Ytoihikeeaobemaa
