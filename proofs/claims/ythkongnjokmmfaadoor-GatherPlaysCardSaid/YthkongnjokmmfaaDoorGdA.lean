/- Stage 13: the document's gatherer as a value in memory; in, New, Used, find, First (the door seat alone). -/
import Derived.Test.YthkongnjokmmfaaDoorGtR
set_option maxRecDepth 20000
namespace Go.Proofs.YthkongnjokmmfaaDoor
open Go.RowKit Go.Sort

/-- A part of the document's gatherer: and where its two rows lie. -/
structure Rp where
  x : Part
  h : Option Addr × Nat
  c : Option Addr × Nat
def encRp (z : Rp) : List Value := [.int .u8 (z.x.id.f : Int), .int .u64 (z.x.id.s : Int), .int .i64 (z.x.size : Int), .slice z.h.1 z.x.has.length z.h.2, .slice z.c.1 z.x.cuts.length z.c.2]
theorem encRp_len (z : Rp) : (encRp z).length = 5 := rfl
theorem encRp_one (z : Rp) : ∀ u ∈ encRp z, u.oneCell' = true := by
  intro u hu
  simp only [encRp, List.mem_cons, List.not_mem_nil, or_false] at hu
  rcases hu with rfl | rfl | rfl | rfl | rfl <;> rfl
def bvl (l : List Bool) : List Value := l.map Value.bool
def svl (ls : List (List UInt8)) : List Value := ls.map fun l => Value.string (str l)
def rgCells (v : Value) (m : Gm) : Array Value :=
  #[.int .i64 (m.chunk : Int), .int .i64 (m.most : Int), .int .i64 (m.room : Int), v, .int .u8 (m.wanted.f : Int), .int .u64 (m.wanted.s : Int),
    .int .i64 (m.counts.getD 0 0 : Int), .int .i64 (m.counts.getD 1 0 : Int), .int .i64 (m.counts.getD 2 0 : Int), .int .i64 (m.counts.getD 3 0 : Int), .int .i64 (m.counts.getD 4 0 : Int), .int .i64 (m.counts.getD 5 0 : Int)]

/-- The rows of the document's gatherer, outside of D. -/
structure RgAt (w : World) (D : Nat → Prop) (A : Option Addr) (n c : Nat) (R : List Rp) (m : Gm) : Prop where
  len : R.length = n
  nc : n ≤ c
  cm : c ≤ maxLen
  lies : LiesX w D A (flat encRp R)
  has : ∀ z ∈ R, LiesX w D z.h.1 (bvl z.x.has) ∧ z.x.has.length ≤ z.h.2 ∧ z.h.2 ≤ maxLen
  cut : ∀ z ∈ R, LiesX w D z.c.1 (svl z.x.cuts) ∧ z.x.cuts.length ≤ z.c.2 ∧ z.c.2 ≤ maxLen
  ml : m.l = R.map Rp.x
section
variable {w w' : World} {D : Nat → Prop} {A : Option Addr} {n c : Nat} {R : List Rp} {m : Gm}
theorem RgAt.kept (h : RgAt w D A n c R m) (ho : OnlyE w w' D) : RgAt w' D A n c R m :=
  ⟨h.len, h.nc, h.cm, h.lies.kept ho, fun z hz => ⟨(h.has z hz).1.kept ho, (h.has z hz).2⟩, fun z hz => ⟨(h.cut z hz).1.kept ho, (h.cut z hz).2⟩, h.ml⟩
theorem RgAt.on (h : RgAt w D A n c R m) (hb : RowKit.Below w.heap.size w w') : RgAt w' D A n c R m := h.kept (OnlyE.of_below hb)
theorem RgAt.widen {D' : Nat → Prop} (h : RgAt w D A n c R m) (hD : ∀ k, D' k → w.heap.size ≤ k ∨ D k) : RgAt w D' A n c R m :=
  ⟨h.len, h.nc, h.cm, h.lies.widen hD, fun z hz => ⟨(h.has z hz).1.widen hD, (h.has z hz).2⟩, fun z hz => ⟨(h.cut z hz).1.widen hD, (h.cut z hz).2⟩, h.ml⟩
theorem RgAt.mlen (h : RgAt w D A n c R m) : m.l.length = n := by rw [h.ml, List.length_map, h.len]
/-- The cells of a part. -/
theorem RgAt.part (h : RgAt w D A n c R m) {i : Nat} (hi : i < R.length) : ∃ b off, A = some ⟨b, off, none⟩ ∧ b < w.heap.size ∧ w.cell? ⟨b, off + i * 5, none⟩ = some (.int .u8 (R[i].x.id.f : Int)) ∧ w.cell? ⟨b, off + i * 5 + 1, none⟩ = some (.int .u64 (R[i].x.id.s : Int)) ∧ w.cell? ⟨b, off + i * 5 + 2, none⟩ = some (.int .i64 (R[i].x.size : Int)) ∧
    w.cell? ⟨b, off + i * 5 + 3, none⟩ = some (.slice R[i].h.1 R[i].x.has.length R[i].h.2) ∧ w.cell? ⟨b, off + i * 5 + 4, none⟩ = some (.slice R[i].c.1 R[i].x.cuts.length R[i].c.2) := by
  have hn : flat encRp R ≠ [] := by
    intro h0
    have := flat_length encRp_len R
    rw [h0] at this
    simp at this
    omega
  obtain ⟨b, off, e, hb, -, hc⟩ := h.lies hn
  have key : ∀ j u, j < 5 → (encRp R[i])[j]? = some u → w.cell? ⟨b, off + i * 5 + j, none⟩ = some u := fun j u hj hu => by
    have := flat_at encRp_len R i j hj hi
    rw [hu] at this
    have h2 := hc (i * 5 + j) u this
    rwa [← Nat.add_assoc] at h2
  exact ⟨b, off, e, hb, key 0 _ (by decide) rfl, key 1 _ (by decide) rfl, key 2 _ (by decide) rfl, key 3 _ (by decide) rfl, key 4 _ (by decide) rfl⟩
theorem RgAt.at_ (h : RgAt w D A n c R m) {i : Nat} (hi : i < R.length) : m.l[i]'(by rw [h.mlen, ← h.len]; exact hi) = R[i].x := by simp [h.ml]
end

theorem refIn_any (n l h : Int) (w : World) : Calls Tryd.prog 23 #[.int .i64 n, .int .i64 l, .int .i64 h] w fun e w' => e = .returned (.int .i64 (if n < l then l else if h < n then h else n)) ∧ w = w' := by
  by_cases h1 : n < l
  · rw [if_pos h1]
    have hd : decide (n < l) = true := decide_eq_true h1
    go_enter Tryd.func23, Tryd.ntmps23
    go_wp2
    go_ret
    exact ⟨rfl, rfl⟩
  · rw [if_neg h1]
    have hd : decide (n < l) = false := decide_eq_false h1
    by_cases h2 : h < n
    · rw [if_pos h2]
      have hd2 : decide (h < n) = true := decide_eq_true h2
      clear h1
      go_enter Tryd.func23, Tryd.ntmps23
      go_wp2
      go_ret
      exact ⟨rfl, rfl⟩
    · rw [if_neg h2]
      have hd2 : decide (h < n) = false := decide_eq_false h2
      clear h1
      go_enter Tryd.func23, Tryd.ntmps23
      go_wp2
      go_ret
      exact ⟨rfl, rfl⟩

section
variable {w : World} {D : Nat → Prop} {A : Option Addr} {n c : Nat} {R : List Rp} {m : Gm}
theorem used_takeR (l : List Rp) (i : Nat) (h : i < l.length) : usedL ((l.take (i + 1)).map Rp.x) = usedL ((l.take i).map Rp.x) + l[i].x.size := by
  rw [List.take_succ_eq_append_getElem h, List.map_append, usedL_append]
  rfl
theorem used_le_allR (l : List Rp) (i : Nat) : usedL ((l.take i).map Rp.x) ≤ usedL (l.map Rp.x) := by
  have e : l.map Rp.x = (l.take i).map Rp.x ++ (l.drop i).map Rp.x := by rw [← List.map_append, List.take_append_drop]
  rw [e, usedL_append]
  omega

theorem refUsed_any (h : RgAt w D A n c R m) (hu : usedL m.l ≤ 9223372036854775807) : Calls Tryd.prog 15 #[.agg (rgCells (.slice A n c) m)] w fun e w' => e = .returned (.int .i64 (usedL m.l : Int)) ∧ RowKit.Below w.heap.size w w' := by
  have HR := Lib.hid h
  have hl := h.len
  have hnm : n ≤ 9223372036854775807 := by have := h.nc; have := h.cm; unfold maxLen at *; omega
  have HU := Lib.hid (show usedL (R.map Rp.x) ≤ 9223372036854775807 by rw [← h.ml]; exact hu)
  have HML := Lib.hid h.ml
  clear h hu
  unfold rgCells
  go_enter Tryd.func15, Tryd.ntmps15
  go_wp2_with fail
  generalize hw0 : World.alloc w _ = w0
  obtain ⟨hs0, hG, hcc⟩ := box1 w w0 _ _ hw0
  have hb0 : RowKit.Below w.heap.size w w0 := hG.below
  have x3 := hcc 3 _ rfl
  have HR0 := Lib.hid (HR.out.on hb0)
  have HB := Lib.hid hb0
  clear hcc hw0 hG hb0 HR
  go_wp2_with fail
  go_loopw [3, 4, 8] (fun s3 _ s8 w1 => ∃ k : Nat, k ≤ n ∧ s8 = .int .i64 (k : Int) ∧ s3 = .int .i64 (usedL ((R.take k).map Rp.x) : Int) ∧ w1 = w0) (fun _ _ s8 _ => n - (intOf s8).toNat)
  case atStart => exact ⟨0, Nat.zero_le _, rfl, rfl, rfl⟩
  case round =>
    obtain ⟨k, hk, rfl, rfl, rfl⟩ := hrel
    by_cases hlt : k < n
    · have hkR : k < R.length := by omega
      obtain ⟨b, off, rfl, hb, -, -, c2, -, -⟩ := HR0.out.part hkR
      have e1 := used_takeR R k hkR
      have e2 := used_le_allR R (k + 1)
      have e3 := HU.out
      have hs : R[k].x.size ≤ 9223372036854775807 := by omega
      have hs2 : usedL ((R.take k).map Rp.x) + R[k].x.size ≤ 9223372036854775807 := by omega
      have HE := Lib.hid e1
      clear e1 e2 e3
      generalize usedL ((R.take k).map Rp.x) = u at hs2 HE
      generalize R[k].x.size = sz at c2 hs hs2 HE
      go_wp2
      go_roundw
      case rel => exact ⟨k + 1, by omega, by go_num, by rw [HE.out]; go_num, trivial⟩
      case measure => simp [intOf]; omega
    · have hkk : k = R.length := by omega
      go_wp2
      go_ret
      refine ⟨?_, HB.out⟩
      rw [HML.out, hkk, List.take_length]
      rfl
end

end Go.Proofs.YthkongnjokmmfaaDoor
