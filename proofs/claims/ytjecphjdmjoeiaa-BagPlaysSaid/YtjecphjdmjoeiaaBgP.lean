/- What BagKeeps keeps: each thing in the bag is one that was put in, turned at most once. -/
import Derived.Test.YtjecphjdmjoeiaaBgM
import Derived.Test.YtjecphjdmjoeiaaBgN
namespace Go.Proofs.Ytjecphjdmjoeiaa
open Go.RowKit Go.Sort

/-- A thing is one that was put in, turned once, if it is turned. -/
def Came (P : List (List UInt8)) (y : List UInt8 × Bool) : Prop := if y.2 then ∃ b ∈ P, ∃ p s, p + 32 ≤ 8 * b.length ∧ y.1 = turnN b p s 32 else y.1 ∈ P

theorem Came.more {P : List (List UInt8)} {y : List UInt8 × Bool} (h : Came P y) (b : List UInt8) : Came (P ++ [b]) y := by
  unfold Came at h ⊢
  split
  · next ht =>
    rw [if_pos ht] at h
    obtain ⟨b', hb, p, s, h1, h2⟩ := h
    exact ⟨b', List.mem_append_left _ hb, p, s, h1, h2⟩
  · next ht =>
    rw [if_neg ht] at h
    exact List.mem_append_left _ h
theorem Came.new (P : List (List UInt8)) (b : List UInt8) : Came (P ++ [b]) (b, false) := by
  unfold Came
  rw [if_neg (by simp)]
  exact List.mem_append_right _ (by simp)
theorem Came.turn {P : List (List UInt8)} {b : List UInt8} (h : Came P (b, false)) {p s : Nat} (hp : p + 32 ≤ 8 * b.length) : Came P (turnN b p s 32, true) := by
  unfold Came at h ⊢
  rw [if_neg (by simp)] at h
  rw [if_pos rfl]
  exact ⟨b, h, p, s, hp, rfl⟩

def goodB (a b : List UInt8) : Bool := decide (a.length = b.length) && nearB a b

theorem turned_none (l : List UInt8) : Turned l l 0 0 32 := ⟨rfl, fun i _ => by simp⟩

theorem Came.good {P : List (List UInt8)} {y : List UInt8 × Bool} (h : Came P y) : ∃ j, ∃ hj : j < P.length, goodB P[j] y.1 = true := by
  unfold Came at h
  split at h
  · obtain ⟨b, hb, p, s, hp, e⟩ := h
    obtain ⟨j, hj, rfl⟩ := List.mem_iff_getElem.1 hb
    refine ⟨j, hj, ?_⟩
    unfold goodB
    rw [e, turnN_length, near_turned (turnN_turned _ p s 32 hp)]
    simp
  · obtain ⟨j, hj, e⟩ := List.mem_iff_getElem.1 h
    refine ⟨j, hj, ?_⟩
    unfold goodB
    rw [e, near_turned (turned_none _)]
    simp

/-- Strings as cells. -/
def svs (P : List (List UInt8)) : List Value := P.map fun b => .string (str b)
theorem svs_one (P : List (List UInt8)) : ∀ u ∈ svs P, u.oneCell' = true := by
  intro u hu
  simp only [svs, List.mem_map] at hu
  obtain ⟨c, _, rfl⟩ := hu
  rfl

structure Kp (w : World) (p room : Nat) (v6 : Value) (P : List (List UInt8)) (T : Value) (lost : Nat) (l : List Th) (D : Nat → Prop) (k : Nat) (W : World) : Prop where
  bag : BagAt W w.heap.size p T room lost l D
  lo : lost ≤ k
  row : W.ownsRow w.heap.size 9 1 v6 P.length (svs P)
  off : ∀ b, v6.ownBlock = some b → ¬ D b
  came : ∀ x ∈ l, Came P x.pl
  pl : P.length ≤ k
  pb : ∀ b ∈ P, b.length ≤ 100
  below : RowKit.Below w.heap.size w W

section
variable {w : World} {p room : Nat} {v6 : Value} {P : List (List UInt8)} {T : Value} {lost : Nat} {l : List Th} {D : Nat → Prop} {k : Nat} {W : World}

theorem Kp.on (h : Kp w p room v6 P T lost l D k W) {W' : World} (hb : RowKit.Below W.heap.size W W') : Kp w p room v6 P T lost l D k W' :=
  ⟨h.bag.on hb, h.lo, own_below h.row hb, h.off, h.came, h.pl, h.pb, h.below.trans (hb.mono h.below.size)⟩

theorem Kp.next (h : Kp w p room v6 P T lost l D k W) : Kp w p room v6 P T lost l D (k + 1) W :=
  ⟨h.bag, Nat.le_succ_of_le h.lo, h.row, h.off, h.came, Nat.le_succ_of_le h.pl, h.pb, h.below⟩

theorem Kp.go (h : Kp w p room v6 P T lost l D k W) {W' : World} {T' : Value} {lost' : Nat} {l' : List Th} {D' : Nat → Prop} (hb : BagAt W' w.heap.size p T' room lost' l' D') (ho : OnlyE W W' D) (hd : ∀ b, D' b → D b ∨ W.heap.size ≤ b) (hl : lost' ≤ k + 1) (hc : ∀ x ∈ l', Came P x.pl) :
    Kp w p room v6 P T' lost' l' D' (k + 1) W' :=
  ⟨hb, hl, own_only h.row ho h.off, fun b hb' hd' => (hd b hd').elim (h.off b hb') fun h2 => by have := (h.row.lt b hb').2; omega, hc, Nat.le_succ_of_le h.pl, h.pb, h.below.trans (ho.below (fun b hb' => (h.bag.din b hb').1) h.below.size)⟩

theorem Kp.put (h : Kp w p room v6 P T lost l D k W) {W' : World} {lost' : Nat} {xs : List (List UInt8 × Bool)} (hp : PutIn W w.heap.size p room lost' l D xs W') (hl : lost' ≤ k + 1) (hc : ∀ y ∈ xs, Came P y) : ∃ T' l' D', Kp w p room v6 P T' lost' l' D' (k + 1) W' := by
  obtain ⟨T', l', D', hB, hpl, ho, hd, _⟩ := hp
  refine ⟨T', l', D', h.go hB ho hd hl fun x hx => ?_⟩
  have hm : x.pl ∈ l'.map Th.pl := List.mem_map_of_mem hx
  rw [hpl, List.mem_append] at hm
  rcases hm with hm | hm
  · obtain ⟨x', hx', e⟩ := List.mem_map.1 hm
    rw [← e]
    exact h.came x' hx'
  · exact hc _ hm

/-- What was put in is told, too. -/
theorem Kp.told (h : Kp w p room v6 P T lost l D k W) {W2 W3 : World} {b : List UInt8} {v : Value} (hp : PutIn W w.heap.size p room lost l D [(b, false)] W2) (hb : b.length ≤ 100) {W2' : World} (hb2 : RowKit.Below W2.heap.size W2 W2')
    (hown : W3.ownsRow w.heap.size 9 1 v (P.length + 1) (svs P ++ [.string (str b)])) (hg : W2'.grownBy W3 v6.ownBlock) (hv : v.ownBlock = v6.ownBlock ∨ v.ownBlock = some W2'.heap.size) : ∃ T' l' D', Kp w p room v (P ++ [b]) T' lost l' D' (k + 1) W3 := by
  obtain ⟨T', l', D', hB, hpl, ho, hd, _⟩ := hp
  have hoff : ∀ q, v6.ownBlock = some q → ¬ D' q := fun q hq hd' => (hd q hd').elim (h.off q hq) fun h2 => by have := (h.row.lt q hq).2; omega
  have hB2 := (hB.on hb2).kept (OnlyE.of_grownO hg) fun q hq hq' => hoff q hq' hq
  refine ⟨T', l', D', hB2, Nat.le_succ_of_le h.lo, by rw [List.length_append]; unfold svs; rw [List.map_append]; exact hown, ?_, ?_, by rw [List.length_append]; have := h.pl; simp; omega, ?_, ?_⟩
  · intro q hq hd'
    rcases hv with e | e
    · exact hoff q (e ▸ hq) hd'
    · rw [e] at hq
      injection hq with hq
      have := (hB.on hb2).din q hd'
      omega
  · intro x hx
    have hm : x.pl ∈ l'.map Th.pl := List.mem_map_of_mem hx
    rw [hpl, List.mem_append] at hm
    rcases hm with hm | hm
    · obtain ⟨x', hx', e⟩ := List.mem_map.1 hm
      rw [← e]
      exact (h.came x' hx').more b
    · simp only [List.mem_cons, List.not_mem_nil, or_false] at hm
      rw [hm]
      exact Came.new P b
  · intro q hq
    rw [List.mem_append] at hq
    rcases hq with hq | hq
    · exact h.pb q hq
    · simp at hq; subst hq; exact hb
  · have h1 : RowKit.Below w.heap.size w W2 := h.below.trans (ho.below (fun b hb' => (h.bag.din b hb').1) h.below.size)
    have h2 : RowKit.Below w.heap.size w W2' := h1.trans (hb2.mono h1.size)
    exact h2.trans ((RowKit.Below.refl _ _).grown hg h2.size fun q hq => (h.row.lt q hq).1)
end

section
variable {w : World} {base p : Nat} {T : Value} {room lost : Nat} {l : List Th} {D : Nat → Prop}

/-- One thing is put in, where there is room. -/
theorem put_one (h : BagAt w base p T room lost l D) {g n c : Nat} {A : Option Addr} {b : List UInt8} (hg : w.heap[g]? = some (.cells #[.slice A n c] 30 (0, 0))) (hD : ¬ D g) (hx : BytX w D (.slice A n c) b) (hb : b.length ≤ 1000) (hlost : lost ≤ 900000) (hr : l.length < room) :
    Calls Try.prog 15 #[.pointer (some ⟨p, 0, none⟩), .slice (some ⟨g, 0, none⟩) 1 1] w fun e w' => e = .returned (.int .i64 1) ∧ PutIn w base p room lost l D [(b, false)] w' := by
  have := put_any h (some ⟨g, 0, none⟩) 1 1 [.slice A n c] [b] rfl (by decide) (by decide) (by omega) (LiesX.at_block hg hD rfl) (rowsX_one hx) (by simpa using hb)
  unfold Put_ at this
  rw [show min [b].length (room - l.length) = 1 by simp; omega] at this
  exact this
theorem put_full (h : BagAt w base p T room lost l D) {g n c : Nat} {A : Option Addr} {b : List UInt8} (hg : w.heap[g]? = some (.cells #[.slice A n c] 30 (0, 0))) (hD : ¬ D g) (hx : BytX w D (.slice A n c) b) (hb : b.length ≤ 1000) (hlost : lost ≤ 900000) (hr : ¬ l.length < room) :
    Calls Try.prog 15 #[.pointer (some ⟨p, 0, none⟩), .slice (some ⟨g, 0, none⟩) 1 1] w fun e w' => e = .returned (.int .i64 0) ∧ PutIn w base p room (lost + 1) l D [] w' := by
  have := put_any h (some ⟨g, 0, none⟩) 1 1 [.slice A n c] [b] rfl (by decide) (by decide) (by omega) (LiesX.at_block hg hD rfl) (rowsX_one hx) (by simpa using hb)
  unfold Put_ at this
  rw [show min [b].length (room - l.length) = 0 by simp; omega] at this
  exact this
end

end Go.Proofs.Ytjecphjdmjoeiaa
