/- The walk of a reader's Num. -/
import Derived.Test.YthpdcoodfjficaaNumE
namespace Go.Proofs.Ythpdcoodfjficaa
open Go.RowKit

theorem rd_size {l : List UInt8} {most m s : Nat} (h : rd l most = (m, s, 0)) : 0 < s ∧ s ≤ l.length ∧ s ≤ 9 ∧ m ≤ most ∧ ∃ c t, l = c :: t ∧ s = 1 + c.toNat ∧ m = val (t.take c.toNat) ∧ ¬ (0 < c.toNat ∧ (t[c.toNat - 1]?.getD 0) = 0) := by
  rcases l with _ | ⟨c, t⟩
  · simp [rd] at h
  · simp only [rd] at h
    split at h
    · simp at h
    split at h
    · simp at h
    split at h
    · simp at h
    split at h
    · simp at h
    · simp only [Prod.mk.injEq, and_true] at h
      obtain ⟨rfl, rfl⟩ := h
      rename_i h1 h2 h3 h4
      exact ⟨by omega, by simp; omega, by omega, by omega, c, t, rfl, rfl, rfl, h3⟩

theorem rd_err (l : List UInt8) (most : Nat) : (rd l most).2.2 = 0 ∨ (rd l most = (0, 0, 2) ∨ rd l most = (0, 0, 3) ∨ rd l most = (0, 0, 6)) := by
  rcases l with _ | ⟨c, t⟩
  · simp [rd]
  · simp only [rd]
    split
    · simp
    split
    · simp
    split
    · simp
    split <;> simp

/-- A reader's next number, and what stands before it then. -/
def rnum (l : List UInt8) (er most : Nat) : Nat × List UInt8 × Nat :=
  if er ≠ 0 then (0, l, er) else if (rd l most).2.2 ≠ 0 then (0, l, (rd l most).2.2) else ((rd l most).1, l.drop (rd l most).2.1, 0)

/-- The call answered v, block g is now such a reader, and no other old block has turned. -/
def Took (w : World) (base hi g : Nat) (l : List UInt8) (er : Nat) (v : Value) (e : Ending) (w' : World) : Prop :=
  e = .returned v ∧ Rd w' base hi g l er ∧ w.grownBy w' (some g)

theorem num_nil (most : Int) (w : World) : Calls Try.prog 19 #[.pointer none, .int .u64 most] w fun e w' => e = .returned (.int .u64 0) ∧ w = w' := by
  go_enter Try.func19, Try.ntmps19
  go_wp2_with (go_at_call 26; refine (silent_nil _).mono ?_; rintro e w' ⟨rfl, rfl⟩)
  go_ret
  exact ⟨rfl, rfl⟩

theorem num_bad {w : World} {base hi g er n c : Nat} {l : List UInt8} {A : Option Addr} (most : Nat) (h : RdAt w base hi g l er A n c) (her : 0 < er) :
    Calls Try.prog 19 #[.pointer (some ⟨g, 0, none⟩), .int .u64 most] w fun e w' => e = .returned (.int .u64 0) ∧ w = w' := by
  go_enter Try.func19, Try.ntmps19
  go_wp2_with (go_at_call 26; refine (silent_bad h her).mono ?_; rintro e w' ⟨rfl, rfl⟩)
  go_ret
  exact ⟨rfl, rfl⟩

set_option maxHeartbeats 400000 in
theorem num_err {w : World} {base hi g n c : Nat} {l : List UInt8} {A : Option Addr} (most er : Nat) (h : RdAt w base hi g l 0 A n c) (her : rd l most = (0, 0, er)) (h0 : 0 < er) :
    Calls Try.prog 19 #[.pointer (some ⟨g, 0, none⟩), .int .u64 most] w fun e w' => e = .returned (.int .u64 0) ∧ w' = w.setCell ⟨g, 1, none⟩ (.int .i64 er) := by
  have hc0 := h.c0
  have hc1 := h.c1
  have hf := h.fr 1
  have HE := Lib.hid her
  have hne : ((er : Int) != 0) = true := by simp; omega
  clear her
  go_enter Try.func19, Try.ntmps19
  go_wp2_with (first
    | (go_at_call 26; refine (silent_ok h).mono ?_; rintro e w' ⟨rfl, rfl⟩)
    | (go_at_call 28; refine (readNumber_any A _ n c most l _ h.2.2.1.out h.lies).mono ?_; rintro e w' ⟨rfl, rfl⟩; rw [HE.out, rdVal]))
  go_ret
  exact ⟨rfl, rfl⟩

set_option maxHeartbeats 400000 in
theorem num_ok {w : World} {base hi g n c : Nat} {l : List UInt8} {b off : Nat} (most m s : Nat) (h : RdAt w base hi g l 0 (some ⟨b, off, none⟩) n c) (hr : rd l most = (m, s, 0)) :
    Calls Try.prog 19 #[.pointer (some ⟨g, 0, none⟩), .int .u64 most] w fun e w' => e = .returned (.int .u64 m) ∧ w' = w.setCell ⟨g, 0, none⟩ (.slice (if c = s then (some ⟨b, off, none⟩) else (some ⟨b, off + s, none⟩)) (n - s) (c - s)) := by
  have hc0 := h.c0
  have hc1 := h.c1
  have hf := h.fr 0
  obtain ⟨hs0, hs1, hs9, _⟩ := rd_size hr
  have hsn : s ≤ n := by have := h.2.2.1.out; omega
  have hnc : n ≤ c := h.2.2.2.1
  have HR := Lib.hid hr
  clear hr
  go_enter Try.func19, Try.ntmps19
  go_wp2_with (first
    | (go_at_call 26; refine (silent_ok h).mono ?_; rintro e w' ⟨rfl, rfl⟩)
    | (go_at_call 28; refine (readNumber_any _ _ n c most l _ h.2.2.1.out h.lies).mono ?_; rintro e w' ⟨rfl, rfl⟩; rw [HR.out, rdVal]))
  all_goals (go_ret; exact ⟨rfl, rfl⟩)

theorem Lies.kept {w w' : World} {B : Nat} {A : Option Addr} {xs : List Value} {row : Option Nat} (h : Lies w B A xs) (hg : w.grownBy w' row) (hB : B ≤ w.heap.size) (hne : ∀ a, A = some a → some a.block ≠ row) : Lies w' B A xs := fun hn => by
  obtain ⟨b, off, rfl, hlt, hc⟩ := h hn
  refine ⟨b, off, rfl, hlt, fun i u hu => ?_⟩
  rw [World.cell?_of_block (w := w) (hg.block b (by omega) (hne _ rfl))]
  exact hc i u hu

theorem grown_setCell (w : World) (g i : Nat) (u : Value) : w.grownBy (w.setCell ⟨g, i, none⟩ u) (some g) :=
  ⟨rfl, rfl, rfl, by simp [World.setCell], fun k _ hne => Below.heap_setCell w _ u k (by rintro rfl; exact hne rfl)⟩

theorem heap_setCell_row {w : World} {g : Nat} {cs : Array Value} {t : TypeId} (h : w.heap[g]? = some (.cells cs t (0, 0))) (i : Nat) (u : Value) :
    (w.setCell ⟨g, i, none⟩ u).heap[g]? = some (.cells (cs.setIfInBounds i u) t (0, 0)) := by
  simp [World.setCell, Array.getElem?_modify, h]

theorem RdAt.setErr {w : World} {base hi g n c e0 : Nat} {l : List UInt8} {A : Option Addr} (h : RdAt w base hi g l e0 A n c) (er : Nat) : RdAt (w.setCell ⟨g, 1, none⟩ (.int .i64 er)) base hi g l er A n c := by
  obtain ⟨h1, h2, h3, h4, h5, h6, h7, h8, h9⟩ := h
  refine ⟨heap_setCell_row h1 1 _, h2, h3, h4, h5, ?_, h7, h8, by simpa [World.setCell] using h9⟩
  exact h6.kept (grown_setCell w g 1 _) h9 (fun a ha e => (h7 a ha).1 (by injection e))

theorem lies_cut {w : World} {B b off s c : Nat} {l : List UInt8} (h : Lies w B (some ⟨b, off, none⟩) (bvs l)) (hc : l.length ≤ c) :
    Lies w B (if c = s then (some ⟨b, off, none⟩) else (some ⟨b, off + s, none⟩)) (bvs (l.drop s)) := fun hn => by
  have hlt : s < l.length := by
    rcases Nat.lt_or_ge s l.length with h1 | h1
    · exact h1
    · rw [List.drop_of_length_le h1] at hn; exact absurd rfl hn
  rw [if_neg (by omega)]
  obtain ⟨b', off', he, hb, hcell⟩ := h (by rintro h0; rw [← bvs_length, h0] at hlt; simp at hlt)
  obtain ⟨rfl, rfl⟩ : b = b' ∧ off = off' := by injection he with he; injection he with h1 h2; exact ⟨h1, h2⟩
  refine ⟨b, off + s, rfl, hb, fun i u hu => ?_⟩
  rw [Nat.add_assoc]
  refine hcell (s + i) u ?_
  rw [← hu]
  simp [bvs, List.getElem?_drop]

theorem RdAt.cut {w : World} {base hi g n c er b off : Nat} {l : List UInt8} (h : RdAt w base hi g l er (some ⟨b, off, none⟩) n c) (s : Nat) (hs : s ≤ n) :
    RdAt (w.setCell ⟨g, 0, none⟩ (.slice (if c = s then (some ⟨b, off, none⟩) else (some ⟨b, off + s, none⟩)) (n - s) (c - s))) base hi g (l.drop s) er (if c = s then (some ⟨b, off, none⟩) else (some ⟨b, off + s, none⟩)) (n - s) (c - s) := by
  obtain ⟨h1, h2, h3, h4, h5, h6, h7, hx, hy⟩ := h
  have hl : l.length = n := h3.out
  have hbl : ∀ a : Addr, (if c = s then (some (⟨b, off, none⟩ : Addr)) else (some ⟨b, off + s, none⟩)) = some a → a.block = b := by
    intro a ha
    split at ha <;> (injection ha with ha; rw [← ha])
  have h8 := h7 _ rfl
  refine ⟨heap_setCell_row h1 0 _, h2, ?_, by omega, by omega, ?_, (fun a ha => by rw [hbl a ha]; exact h8), hx, by simpa [World.setCell] using hy⟩
  · show (l.drop s).length = n - s
    rw [List.length_drop, hl]
  · exact (lies_cut h6 (by omega)).kept (grown_setCell w g 0 _) hy (fun a ha e => h8.1 (by rw [hbl a ha] at e; injection e))

theorem num_any {w : World} {base hi g er : Nat} {l : List UInt8} (most : Nat) (h : Rd w base hi g l er) :
    Calls Try.prog 19 #[.pointer (some ⟨g, 0, none⟩), .int .u64 most] w (Took w base hi g (rnum l er most).2.1 (rnum l er most).2.2 (.int .u64 ((rnum l er most).1 : Int))) := by
  obtain ⟨A, n, c, h⟩ := h
  by_cases her : er = 0
  · subst her
    rcases rd_err l most with h0 | h0
    · rcases hrd : rd l most with ⟨m, s, z⟩
      rw [hrd] at h0
      simp only at h0
      subst h0
      obtain ⟨_, hs1, _, _, c0, t, rfl, _⟩ := rd_size hrd
      obtain ⟨b, off, rfl, _⟩ := h.lies (by simp [bvs])
      have e : rnum (c0 :: t) 0 most = (m, (c0 :: t).drop s, 0) := by simp [rnum, hrd]
      rw [e]
      refine (num_ok most m s h hrd).mono ?_
      rintro e w' ⟨rfl, rfl⟩
      exact ⟨rfl, ⟨_, _, _, h.cut s (by have := h.2.2.1.out; omega)⟩, grown_setCell _ _ _ _⟩
    · have key : ∀ er, 0 < er → rd l most = (0, 0, er) → Calls Try.prog 19 #[.pointer (some ⟨g, 0, none⟩), .int .u64 most] w (Took w base hi g (rnum l 0 most).2.1 (rnum l 0 most).2.2 (.int .u64 ((rnum l 0 most).1 : Int))) := by
        intro er h1 h2
        have e : rnum l 0 most = (0, l, er) := by simp [rnum, h2]; omega
        rw [e]
        refine (num_err most er h h2 h1).mono ?_
        rintro e w' ⟨rfl, rfl⟩
        exact ⟨rfl, ⟨_, _, _, h.setErr er⟩, grown_setCell _ _ _ _⟩
      rcases h0 with h0 | h0 | h0
      · exact key 2 (by decide) h0
      · exact key 3 (by decide) h0
      · exact key 6 (by decide) h0
  · have e : rnum l er most = (0, l, er) := by simp [rnum, her]
    rw [e]
    refine (num_bad most h (by omega)).mono ?_
    rintro e w' ⟨rfl, rfl⟩
    exact ⟨rfl, ⟨A, n, c, h⟩, World.grownBy.refl _ _⟩

end Go.Proofs.Ythpdcoodfjficaa
