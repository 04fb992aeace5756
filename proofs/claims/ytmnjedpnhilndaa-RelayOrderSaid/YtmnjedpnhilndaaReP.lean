/- Stage 16: chunks of bytes that are put in, one by one; what stands in RelayOrder. -/
import Derived.Test.YtmnjedpnhilndaaReO
set_option maxRecDepth 20000
namespace Go.Proofs.Ytmnjedpnhilndaa
open Go.RowKit Go.Sort Go.Maps

/-- Cells of bytes, whatever they are. -/
def Bytes (xs : List Value) : Prop := ∀ u ∈ xs, ∃ k : Nat, k < 256 ∧ u = .int .u8 (k : Int)

theorem Bytes.bvs (l : List UInt8) : Bytes (bvs l) := by
  intro u hu
  unfold Go.Proofs.Ytmnjedpnhilndaa.bvs at hu
  obtain ⟨c, _, rfl⟩ := List.mem_map.1 hu
  exact ⟨c.toNat, c.toNat_lt, rfl⟩

theorem Bytes.set {xs : List Value} (h : Bytes xs) (q k : Nat) (hk : k < 256) : Bytes (xs.set q (.int .u8 (k : Int))) := by
  intro u hu
  rcases List.mem_or_eq_of_mem_set hu with hu | rfl
  · exact h u hu
  · exact ⟨k, hk, rfl⟩

/-- What stands while bytes of the call's own are counted up. -/
def IncS (w6 : World) (B n q : Nat) (v : Value) (wr : World) : Prop := q ≤ n ∧ ∃ xs, Bytes xs ∧ wr.ownsRow B 5 1 v n xs ∧ OnlyE w6 wr (fun k => v.ownBlock = some k)

theorem IncS.start {w6 : World} {B n : Nat} {v : Value} {l : List UInt8} (h : w6.ownsRow B 5 1 v n (bvs l)) : IncS w6 B n 0 v w6 := ⟨Nat.zero_le _, _, Bytes.bvs l, h, OnlyE.refl _ _⟩

theorem IncS.cell {w6 wr : World} {B n q : Nat} {v : Value} (h : IncS w6 B n q v wr) (hq : q < n) : ∃ (g c k : Nat), v = .slice (some ⟨g, 0, none⟩) n c ∧ k < 256 ∧ wr.cell? ⟨g, q, none⟩ = some (.int .u8 (k : Int)) ∧ wr.frozen? ⟨g, q, none⟩ = false := by
  obtain ⟨_, xs, hb, ho, _⟩ := h
  obtain ⟨g, c, rfl, _, _⟩ := ho.form (by omega)
  have hl := ho.1
  have hq1 : q < xs.length := by omega
  obtain ⟨k, hk, e⟩ := hb xs[q] (List.getElem_mem hq1)
  refine ⟨g, c, k, rfl, hk, ?_, ho.frozenAt q⟩
  rw [ho.cellAt _ (by omega), List.getElem?_eq_getElem hq1, e]

theorem IncS.step {w6 wr : World} {B n q g c : Nat} (h : IncS w6 B n q (.slice (some ⟨g, 0, none⟩) n c) wr) (hq : q < n) (k : Nat) (hk : k < 256) : IncS w6 B n (q + 1) (.slice (some ⟨g, 0, none⟩) n c) (wr.setCell ⟨g, q, none⟩ (.int .u8 (k : Int))) := by
  obtain ⟨_, xs, hb, ho, hO⟩ := h
  exact ⟨hq, _, hb.set q k hk, (ho.stored q _).1, hO.trans (onlyE_set (D := fun k => (Value.slice (some ⟨g, 0, none⟩) n c).ownBlock = some k) rfl q _)⟩


/-- Chunk i, of these bytes. -/
def dtF (i : Nat) (b : List UInt8) : Fr := ⟨0, 0, 0, zid, 0, i, 0, 0, 0, 0, [], [], [], [], b⟩
def dtP (i : Nat) (b : List UInt8) (A : Option Addr) (c : Nat) : Pf := ⟨dtF i b, fun k => if k = 4 then (A, c) else (none, 0)⟩
theorem dtF_ok {i : Nat} {b : List UInt8} (hi : i < 4294967296) (hb : b.length ≤ 50) : (dtF i b).Ok := ⟨(by decide : 0 < 256), (by decide : 0 < 256), (by decide : 0 < 256), (by decide : 0 < 18446744073709551616), hi, (by decide : 0 < 4294967296), (by decide : 0 < 4294967296), (by decide : 0 < 18446744073709551616), (by decide : 0 < 18446744073709551616), Nat.zero_le _, Nat.zero_le _, Nat.zero_le _, Nat.zero_le _, by show b.length ≤ _; omega, by simp [dtF], by simp [dtF]⟩
theorem dtP_X {w : World} {D : Nat → Prop} {i : Nat} {b : List UInt8} {A : Option Addr} {c : Nat} (h : LiesX w D A (bvs b)) : (dtP i b A c).X w D := ⟨LiesX.nil, LiesX.nil, LiesX.nil, LiesX.nil, h⟩
def dtFs (bs : List (List UInt8)) (k : Nat) : List Fr := (List.range k).map fun i => dtF i (bs[i]?.getD [])
theorem dtFs_len (bs : List (List UInt8)) (k : Nat) : (dtFs bs k).length = k := by simp [dtFs]
theorem dtFs_snoc (bs : List (List UInt8)) (k : Nat) : dtFs bs (k + 1) = dtFs bs k ++ [dtF k (bs[k]?.getD [])] := by simp [dtFs, List.range_succ]
theorem dtFs_at {bs : List (List UInt8)} {k i : Nat} (h : i < (dtFs bs k).length) : (dtFs bs k)[i] = dtF i (bs[i]?.getD []) := by simp [dtFs]
theorem dtFs_new {bs : List (List UInt8)} {k j : Nat} {F : Fr} (hj : j ≤ k) (hk : k < 4294967296) (hF : F.at_ = k) : hasF (dtFs bs j) (plOf F) = false := by
  unfold hasF
  rw [List.any_eq_false]
  intro G hG
  obtain ⟨i, hi, rfl⟩ := List.mem_map.1 hG
  have hi' : i < j := by simpa using hi
  intro e
  have e := of_decide_eq_true e
  have e2 := congrArg Pl.a e
  have e3 : i % 4294967296 = F.at_ % 4294967296 := e2
  omega
theorem dt_put {bs : List (List UInt8)} {k : Nat} (hk : k < bs.length) (h100 : k < 100) : (Qp.mk (dtFs bs k) 0).put 100 (dtF k bs[k]) = ⟨dtFs bs (k + 1), 0⟩ := by
  unfold Qp.put
  simp only
  rw [dtFs_new (Nat.le_refl k) (by omega) rfl, if_neg (by simp), dtFs_len, if_neg (by omega), dtFs_snoc, List.getElem?_eq_getElem hk]
  rfl
theorem dt_again (bs : List (List UInt8)) (k : Nat) : (Qp.mk (dtFs bs (k + 1)) 0).put 100 (atF k) = ⟨dtFs bs (k + 1), 0⟩ := by
  unfold Qp.put
  simp only
  rw [if_pos]
  unfold hasF
  rw [List.any_eq_true]
  refine ⟨dtF k (bs[k]?.getD []), ?_, by simp [plOf, dtF, atF]⟩
  rw [dtFs_snoc]
  simp

/-- Is a block none of bytes? -/
def NB (w : World) (b : Nat) : Prop := ¬ ∃ cur, w.heap[b]? = some (.cells cur 5 (0, 0))
theorem own_NB {w : World} {base g mb : Nat} {T : Value} {room lost : Nat} {lr : List Pl} {lm : List Pf} {D : Nat → Prop} (h : QueS w base g mb T room lost lr lm D) {b : Nat} (hb : Own g mb T b) : NB w b := by
  rintro ⟨cur, hc⟩
  rcases hb with rfl | rfl | hb
  · rw [h.box] at hc
    injection hc with hc
    injection hc with _ hc
    exact absurd hc (by decide)
  · obtain ⟨es, clock, h1⟩ := h.mapAt
    rw [h1] at hc
    injection hc with hc
    cases hc
  · exact own_ty h.row hc (by decide) hb
theorem bytes_NB {w : World} {base n : Nat} {v : Value} {xs : List Value} (h : w.ownsRow base 5 1 v n xs) {b : Nat} (hb : v.ownBlock = some b) : ¬ NB w b := fun hn => by
  obtain ⟨cur, hc⟩ := own_heap h hb
  exact hn ⟨cur, hc⟩

/-- What stands in RelayOrder: the queue is m; X: blocks into which the law writes. -/
def OrS (w : World) (g mb : Nat) (m : Qp) (X : Nat → Prop) (wr : World) : Prop :=
  ∃ T l D, QueS wr w.heap.size g mb T 100 m.lost (l.map Pf.pl) l D ∧ l.map Pf.F = m.l ∧ RowKit.Below w.heap.size w wr ∧ ∀ b, X b → D b

section
variable {w wr W : World} {g mb : Nat} {m : Qp} {X : Nat → Prop}
theorem OrS.on (h : OrS w g mb m X wr) (hb : RowKit.Below wr.heap.size wr W) : OrS w g mb m X W := by
  obtain ⟨T, l, D, h1, h2, h3, h4⟩ := h
  exact ⟨T, l, D, h1.on hb, h2, h3.trans (hb.mono h3.size), h4⟩
theorem OrS.below (h : OrS w g mb m X wr) : RowKit.Below w.heap.size w wr := by
  obtain ⟨T, l, D, h1, h2, h3, h4⟩ := h
  exact h3
theorem OrS.grow (h : OrS w g mb m X wr) (hb : RowKit.Below wr.heap.size wr W) : OrS w g mb m (fun b => wr.heap.size ≤ b ∧ b < W.heap.size) W := by
  obtain ⟨T, l, D, h1, h2, h3, h4⟩ := h
  have hs := h3.size
  exact ⟨T, l, fun b => D b ∨ (wr.heap.size ≤ b ∧ b < W.heap.size), h1.grow hb (fun b => .inl) (fun b hb' => by
    rcases hb' with hb' | hb'
    · exact ⟨(h1.din b hb').1, Nat.lt_of_lt_of_le (h1.din b hb').2 hb.size, .inl hb'⟩
    · exact ⟨by omega, hb'.2, .inr hb'.1⟩), h2, h3.trans (hb.mono hs), fun b => .inr⟩
theorem OrS.drop (h : OrS w g mb m X wr) : OrS w g mb m (fun _ => False) wr := by
  obtain ⟨T, l, D, h1, h2, h3, h4⟩ := h
  exact ⟨T, l, D, h1, h2, h3, fun b hb => hb.elim⟩
/-- The law writes into bytes of its own. -/
theorem OrS.store {base n : Nat} {v : Value} {xs : List Value} (h : OrS w g mb m X wr) (hv : wr.ownsRow base 5 1 v n xs) (hX : ∀ b, v.ownBlock = some b → X b) (ho : OnlyE wr W (fun b => v.ownBlock = some b)) : OrS w g mb m X W := by
  obtain ⟨T, l, D, h1, h2, h3, h4⟩ := h
  exact ⟨T, l, D, h1.kept ho fun b hb => .inr ⟨h4 b (hX b hb), fun e => bytes_NB hv hb (own_NB h1 e)⟩, h2, h3.trans (ho.below (fun b hb => (h1.din b (h4 b (hX b hb))).1) h3.size), h4⟩
/-- One frame is put in. -/
theorem OrS.put (h : OrS w g mb m X wr) (hm : m.l.length ≤ 100) (hl : m.lost = 0) (x : Pf) (hx : x.X wr (NB wr)) (hok : x.F.Ok) :
    Calls Try.prog 12 #[.pointer (some ⟨g, 0, none⟩), .slice (some ⟨wr.heap.size, 0, none⟩) 1 1] (wr.alloc (.cells x.cs 40)) fun e w' => e = .returned (.int .i64 (((m.put 100 x.F).l.length : Int) - (m.l.length : Int))) ∧ OrS w g mb (m.put 100 x.F) X w' ∧ OnlyE wr w' (NB wr) := by
  obtain ⟨T, l, D, h1, h2, h3, h4⟩ := h
  have hb := alloc_below wr (.cells x.cs 40)
  have h1A := h1.on hb
  have hs := h3.size
  have hlen : l.length = m.l.length := by rw [← h2, List.length_map]
  have e0 : (⟨l.map Pf.F, m.lost⟩ : Qp) = m := by rw [h2]
  refine (puts_any h1A (some ⟨wr.heap.size, 0, none⟩) 1 1 [x] rfl (by decide) (one_row x (hx.mono fun b hb => own_NB h1 hb) hok fun e => h1.new_out (h1.own _ e)) (by decide) (by omega) (by omega)).mono ?_
  rintro e w' ⟨rfl, hW⟩
  rw [e0] at hW ⊢
  have e1 : m.puts 100 (List.map Pf.F [x]) = m.put 100 x.F := rfl
  rw [e1] at hW ⊢
  have hB := hW.below (B := w.heap.size) (h1.din g h1.dg).1 (h1.din mb h1.dm).1 (fun b hb => (h1.din b (h1.dt hb)).1) (by have := hb.size; omega)
  have hO := hW.only
  obtain ⟨T2, l2, D2, k1, k2, k3, k4, k5, k6⟩ := hW
  refine ⟨by rw [hlen], ⟨T2, l2, D2, k1, k2, (h3.trans (hb.mono hs)).trans hB, fun b hb => k3 b (h4 b hb)⟩, ?_⟩
  exact (OnlyE.of_below hb).trans (hO.mono fun b hb => own_NB h1 hb)
end

end Go.Proofs.Ytmnjedpnhilndaa
