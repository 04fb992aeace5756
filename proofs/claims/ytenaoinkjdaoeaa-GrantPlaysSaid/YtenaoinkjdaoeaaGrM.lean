/- Stage 17: both grants side by side, the document's in its box; what GrantPlays calls. -/
import Derived.Test.YtenaoinkjdaoeaaGrL
set_option maxRecDepth 20000
namespace Go.Proofs.Ytenaoinkjdaoeaa
open Go.RowKit Go.Sort

/-- The grants (as l), and the document's in its box at mp (as k); w: the world of the entry. -/
structure GpS (w : World) (g q mp me N : Nat) (l k : List Wd) (A : Option Addr) (c : Nat) (V : World) : Prop where
  below : RowKit.Below w.heap.size w V
  gr : GrAt V w.heap.size g q me l
  row : V.heap[mp]? = some (.cells (dgc (.slice A N c) me) 29 (0, 0))
  dr : LiesX V (fun b => b = q ∨ b = mp) A (flat encW k)
  okl : Gok me l
  okk : Gok me k
  ll : l.length = N
  lk : k.length = N
  nc : N ≤ c ∧ c ≤ maxLen
  mpb : w.heap.size ≤ mp

section
variable {w V V' V1 : World} {g q mp me N : Nat} {l k : List Wd} {A : Option Addr} {c : Nat} {y : Ac}
theorem GpS.lt (h : GpS w g q mp me N l k A c V) : mp < V.heap.size := (Array.getElem?_eq_some_iff.1 h.row).1
theorem GpS.ne (h : GpS w g q mp me N l k A c V) : mp ≠ q := fun e => by
  obtain ⟨cur, hc⟩ := h.gr.heap
  have := h.row
  rw [e, hc] at this
  injection this with this
  injection this with _ this
  exact absurd this (by decide)
theorem GpS.neg (h : GpS w g q mp me N l k A c V) : mp ≠ g := fun e => by
  have := h.row
  rw [e, h.gr.box] at this
  injection this with this
  injection this with _ this
  exact absurd this (by decide)
theorem GpS.on (h : GpS w g q mp me N l k A c V) (hb : RowKit.Below V.heap.size V V') : GpS w g q mp me N l k A c V' :=
  ⟨h.below.trans (hb.mono h.below.size), h.gr.on hb, (hb.block _ h.lt).trans h.row, h.dr.kept (OnlyE.of_below hb), h.okl, h.okk, h.ll, h.lk, h.nc, h.mpb⟩
theorem GpS.c0 (h : GpS w g q mp me N l k A c V) : V.cell? ⟨mp, 0, none⟩ = some (.slice A N c) := cell_of_row V mp 0 _ _ _ h.row
theorem GpS.c1 (h : GpS w g q mp me N l k A c V) : V.cell? ⟨mp, 1, none⟩ = some (.int .i64 (me : Int)) := cell_of_row V mp 1 _ _ _ h.row
theorem GpS.fr (h : GpS w g q mp me N l k A c V) (i : Nat) : V.frozen? ⟨mp, i, none⟩ = false := frozen_of_row V mp i _ _ h.row

/-- The document's grants are written into their box. -/
theorem GpS.setM (h : GpS w g q mp me N l k A c V) {A' : Option Addr} {c' : Nat} {k' : List Wd} (hR : LiesX V (fun b => b = q ∨ b = mp) A' (flat encW k')) (hk : Gok me k') (hn : k'.length = N) (hc : N ≤ c' ∧ c' ≤ maxLen) :
    GpS w g q mp me N l k' A' c' ((V.setCell ⟨mp, 0, none⟩ (.slice A' N c')).setCell ⟨mp, 1, none⟩ (.int .i64 (me : Int))) ∧ OnlyE V ((V.setCell ⟨mp, 0, none⟩ (.slice A' N c')).setCell ⟨mp, 1, none⟩ (.int .i64 (me : Int))) (fun b => b = mp) := by
  have hO : OnlyE V ((V.setCell ⟨mp, 0, none⟩ (.slice A' N c')).setCell ⟨mp, 1, none⟩ (.int .i64 (me : Int))) (fun b => b = mp) := (onlyE_set (D := fun b => b = mp) rfl _ _).trans (onlyE_set (D := fun b => b = mp) rfl _ _)
  refine ⟨⟨h.below.trans (hO.below (fun b hb => by subst hb; exact h.mpb) h.below.size), h.gr.kept hO (fun e => h.neg e.symm) (fun e => h.ne e.symm), ?_, hR.kept (hO.mono fun _ hb => .inr hb), h.okl, hk, h.ll, hn, hc, h.mpb⟩, hO⟩
  exact heap_setCell_same _ mp 1 _ _ _ (heap_setCell_same V mp 0 _ _ _ h.row)
/-- The grants have taken an act. -/
theorem GpS.gact (h : GpS w g q mp me N l k A c V) (hy : AcOk y) (h1 : GrAt V' w.heap.size g q me (actL l me y)) (h2 : OnlyE V V' (fun b => b = q)) : GpS w g q mp me N (actL l me y) k A c V' :=
  ⟨h.below.trans (h2.below (fun b hb => by subst hb; exact h.gr.qlt.1) h.below.size), h1, (h2.same _ h.lt h.ne).trans h.row, h.dr.kept (h2.mono fun _ hb => .inl hb), h.okl.act hy, h.okk, by rw [actL_len, h.ll], h.lk, h.nc, h.mpb⟩
/-- What the document has answered to an act. -/
theorem GpS.got (h : GpS w g q mp me N l k A c V) {A' : Option Addr} {c' : Nat} {k' : List Wd} (hD : Dgot V A k k' A' c' V1) : LiesX V1 (fun b => b = q ∨ b = mp) A' (flat encW k') ∧ k'.length ≤ c' ∧ c' ≤ maxLen ∧ RowKit.Below V.heap.size V V1 :=
  ⟨hD.2.2.2 _ (fun _ hb => hb.elim (fun e => e ▸ h.gr.qlt.2) (fun e => e ▸ h.lt)) h.dr, hD.1, hD.2.1, hD.2.2.1⟩
theorem GpS.lies (h : GpS w g q mp me N l k A c V) : Lies V V.heap.size A (flat encW k) := h.dr.lies
theorem ABox.nem {p : Nat} (h : ABox p y V) (hr : GpS w g q mp me N l k A c V) : p ≠ mp := fun e => by
  have := hr.row
  unfold ABox at h
  rw [← e, h] at this
  injection this with this
  injection this with _ this
  exact absurd this (by decide)
/-- The document's grants behind an act, beside a new block, and written into their box. -/
theorem GpS.step (h : GpS w g q mp me N l l A c V) (hy : AcOk y) {A' : Option Addr} {c' : Nat} (hD : Dgot V A l (actL l me y) A' c' V1) {p : Nat} (ha : ABox p y V) {o : Obj} {W2 W3 : World} (h2 : V1.alloc o = W2) (h3 : (W2.setCell ⟨mp, 0, none⟩ (.slice A' N c')).setCell ⟨mp, 1, none⟩ (.int .i64 (me : Int)) = W3) :
    GpS w g q mp me N l (actL l me y) A' c' W3 ∧ ABox p y W3 := by
  obtain ⟨hX, hc1, hc2, hb⟩ := h.got hD
  rw [actL_len, h.ll] at hc1
  have hb2 : RowKit.Below V1.heap.size V1 W2 := h2 ▸ alloc_below V1 o
  have hs := ((h.on hb).on hb2).setM (hX.kept (OnlyE.of_below hb2)) (h.okl.act hy) (by rw [actL_len, h.ll]) ⟨hc1, hc2⟩
  rw [h3] at hs
  exact ⟨hs.1, ((ha.on hb).on hb2).only hs.2 (((ha.on hb).on hb2).nem ((h.on hb).on hb2))⟩
/-- The document's calls of an act. -/
theorem GpS.mgone (h : GpS w g q mp me N l k A c V) (hg : y.g = true) : Calls Try.prog 10 #[.agg #[.slice A N c, .int .i64 (me : Int)], .int .i64 y.P] V fun e w' =>
    ∃ A' c', e = .returned (.tuple #[.agg #[.slice A' N c', .int .i64 (me : Int)], .int .i64 (goneN k me y.P : Int)]) ∧ Hid (Dgot V A k (actL k me y) A' c' w') := by
  have : actL k me y = goneL k me y.P := by unfold actL; rw [if_pos hg]
  rw [this]
  exact refGone_any A N c me y.P k V h.lk (by rw [← h.lk]; exact h.okk.len) h.nc h.lies
theorem GpS.mtell (h : GpS w g q mp me N l k A c V) (hg : y.g = false) : Calls Try.prog 12 #[.agg #[.slice A N c, .int .i64 (me : Int)], .int .i64 y.P, .int .u64 (y.u : Int)] V fun e w' =>
    ∃ A' c', e = .returned (.tuple #[.agg #[.slice A' N c', .int .i64 (me : Int)], .bool (tellB k y.P y.u)]) ∧ Hid (Dgot V A k (actL k me y) A' c' w') := by
  have : actL k me y = tellL k y.P y.u := by unfold actL; rw [hg]; rfl
  rw [this]
  exact refTell_any A N c me y.P y.u k V h.lk (by rw [← h.lk]; exact h.okk.len) h.nc h.lies
end

/-- What both are behind an act. -/
def GpE (w : World) (g q mp me N : Nat) (V : World) : Prop := ∃ l A c, GpS w g q mp me N l l A c V
section
variable {w V V' : World} {g q mp me N : Nat} {l : List Wd} {A : Option Addr} {c : Nat}
theorem GpE.on (h : GpE w g q mp me N V) (hb : RowKit.Below V.heap.size V V') : GpE w g q mp me N V' := by
  obtain ⟨l, A, c, h1⟩ := h
  exact ⟨l, A, c, h1.on hb⟩
theorem GpE.below (h : GpE w g q mp me N V) : RowKit.Below w.heap.size w V := by
  obtain ⟨l, A, c, h1⟩ := h
  exact h1.below
/-- The calls that only look, of both, in every later world. -/
theorem GpS.of (h : GpS w g q mp me N l l A c V) (P : Int) : ∀ p : Later V, Calls Try.prog 14 #[.pointer (some ⟨g, 0, none⟩), .int .i64 P] p.w fun e w' => e = .returned (.int .u64 (ofN l P : Int)) ∧ RowKit.Below p.w.heap.size p.w w' := fun p =>
  (of_any (h.on p.hb).gr P).mono fun _ _ ⟨h1, h2⟩ => ⟨h1, h2 ▸ RowKit.Below.refl _ _⟩
theorem GpS.lim (h : GpS w g q mp me N l l A c V) : ∀ p : Later V, Calls Try.prog 15 #[.pointer (some ⟨g, 0, none⟩)] p.w fun e w' => e = .returned (.int .u64 (Go.Proofs.Ytenaoinkjdaoeaa.lim l : Int)) ∧ RowKit.Below p.w.heap.size p.w w' := fun p =>
  limit_any (h.on p.hb).gr h.okl.len
theorem GpS.may (h : GpS w g q mp me N l l A c V) (u : Nat) : ∀ p : Later V, Calls Try.prog 17 #[.pointer (some ⟨g, 0, none⟩), .int .u64 (u : Int)] p.w fun e w' => e = .returned (.bool (decide (0 < u) && decide (u ≤ Go.Proofs.Ytenaoinkjdaoeaa.lim l))) ∧ RowKit.Below p.w.heap.size p.w w' := fun p =>
  may_any (h.on p.hb).gr h.okl.len u
theorem GpS.left (h : GpS w g q mp me N l l A c V) (u : Nat) (hu : u < 18446744073709551616) : ∀ p : Later V, Calls Try.prog 18 #[.pointer (some ⟨g, 0, none⟩), .int .u64 (u : Int)] p.w fun e w' => e = .returned (.int .u64 ((Go.Proofs.Ytenaoinkjdaoeaa.lim l - u : Nat) : Int)) ∧ RowKit.Below p.w.heap.size p.w w' := fun p =>
  left_any (h.on p.hb).gr h.okl.len u hu
theorem GpS.mlim (h : GpS w g q mp me N l l A c V) : ∀ p : Later V, Calls Try.prog 16 #[.agg #[.slice A N c, .int .i64 (me : Int)]] p.w fun e w' => e = .returned (.int .u64 (Go.Proofs.Ytenaoinkjdaoeaa.lim l : Int)) ∧ RowKit.Below p.w.heap.size p.w w' := fun p =>
  refLimit_any A N c me l p.w h.lk h.okl (h.on p.hb).lies
theorem GpS.mleft (h : GpS w g q mp me N l l A c V) (u : Nat) : ∀ p : Later V, Calls Try.prog 19 #[.agg #[.slice A N c, .int .i64 (me : Int)], .int .u64 (u : Int)] p.w fun e w' => e = .returned (.int .u64 ((Go.Proofs.Ytenaoinkjdaoeaa.lim l - u : Nat) : Int)) ∧ RowKit.Below p.w.heap.size p.w w' := fun p =>
  refLeft_any A N c me u l p.w h.lk h.okl (h.on p.hb).lies
end

end Go.Proofs.Ytenaoinkjdaoeaa
