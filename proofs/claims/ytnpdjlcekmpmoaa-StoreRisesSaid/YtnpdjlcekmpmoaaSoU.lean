/- Stage 14: what rises, whatever is done. -/
import Derived.Test.YtnpdjlcekmpmoaaSoT
import Derived.Test.YtnpdjlcekmpmoaaSoP
import Derived.Test.YtnpdjlcekmpmoaaSoS
set_option maxRecDepth 20000
namespace Go.Proofs.Ytnpdjlcekmpmoaa
open Go.RowKit Go.Sort Go.Maps

theorem heldN_mono {l l' : List Hp} {f n n' : Nat} (hn : n ≤ n') (h : ∀ s, n' < s → hasS l f s = true → hasS l' f s = true) : heldN l f n ≤ heldN l' f n' := by
  have h1 := heldN_ge l' f n'
  by_cases hc : heldN l f n ≤ heldN l' f n'
  · exact hc
  · have h2 := h (heldN l' f n' + 1) (by omega) (heldN_all (l := l) (f := f) (n := n) (by omega) (by omega))
    rw [heldN_stop] at h2
    cases h2

/-- Nothing falls from one to the other. -/
structure Risen (m m1 : Sm) : Prop where
  n : m1.n = m.n
  room : m1.room = m.room
  held : ∀ i, num m.held i ≤ num m1.held i
  fl : ∀ i, num m.fl i ≤ num m1.fl i
  len : m1.l.length ≤ m.l.length + 1
theorem Risen.of {m m1 : Sm} (hn : m1.n = m.n) (hr : m1.room = m.room) (hf : ∀ i, num m.fl i ≤ num m1.fl i) (hl : m1.l.length ≤ m.l.length + 1) (hs : ∀ f s, num m1.fl f < s → hasS m.l f s = true → hasS m1.l f s = true) : Risen m m1 where
  n := hn
  room := hr
  fl := hf
  len := hl
  held := fun i => by
    by_cases hi : i < m.n
    · rw [Sm.held_num hi, Sm.held_num (by rw [hn]; exact hi)]
      exact heldN_mono (hf i) (hs i)
    · rw [num_out (by rw [Sm.held_length]; omega)]
      omega
theorem Risen.put (m : Sm) (x : Id) (b : List UInt8) : Risen m (m.put x b) := by
  unfold Sm.put
  split
  · exact Risen.of rfl rfl (fun _ => Nat.le_refl _) (by simp) fun f s _ h => by rw [hasS_append, h]; rfl
  · exact Risen.of rfl rfl (fun _ => Nat.le_refl _) (by omega) fun f s _ h => h
theorem Risen.drop (m : Sm) (u : List Nat) : Risen m (m.drop u) :=
  Risen.of rfl rfl (fun i => flN_ge _ _ i) (Nat.le_succ_of_le (List.length_filter_le _ _)) fun f s h1 h2 => by
    obtain ⟨y, hy, hp⟩ := List.any_eq_true.1 h2
    obtain ⟨rfl, rfl⟩ := of_decide_eq_true hp
    exact List.any_eq_true.2 ⟨y, List.mem_filter.2 ⟨hy, decide_eq_true h1⟩, hp⟩

theorem refCovers_true {A : Option Addr} {n c : Nat} {a : List Nat} {A2 : Option Addr} {m c2 : Nat} {b : List Nat} {w : World} (hm : m ≤ 1000) (hl : a.length = n) (h : Lies w w.heap.size A (uvs a)) (hl2 : b.length = m) (h2 : Lies w w.heap.size A2 (uvs b)) (hc : ∀ i, num b i ≤ num a i) :
    Calls Try.prog 21 #[.slice A n c, .slice A2 m c2] w fun e w' => e = .returned (.bool true) ∧ RowKit.Below w.heap.size w w' := by
  have := refCovers_any A n c a A2 m c2 b w hm hl h hl2 h2
  rw [(covers_one_iff a b).2 fun i _ => hc i] at this
  exact this

/-- What stands in StoreRises' loop: the store, what was held, and the floors. -/
structure RisS (w : World) (g mb fb rm : Nat) (m : Sm) (A8 A9 : Option Addr) (i : Nat) (wr : World) : Prop where
  st : StAt wr w.heap.size g mb fb m (own3 g mb fb)
  lh : LiesX wr (own3 g mb fb) A8 (uvs m.held)
  lf : LiesX wr (own3 g mb fb) A9 (uvs m.fl)
  rm : m.room = rm
  len : m.l.length ≤ i
  below : RowKit.Below w.heap.size w wr
section
variable {w wr w' : World} {g mb fb rm i : Nat} {m m1 : Sm} {A8 A9 : Option Addr}
theorem RisS.on (h : RisS w g mb fb rm m A8 A9 i wr) (hb : RowKit.Below wr.heap.size wr w') : RisS w g mb fb rm m A8 A9 i w' where
  st := h.st.on hb
  lh := h.lh.kept (OnlyE.of_below hb)
  lf := h.lf.kept (OnlyE.of_below hb)
  rm := h.rm
  len := h.len
  below := h.below.trans (hb.mono h.below.size)

/-- Behind an act: the store is another one, what was held then is still there. -/
structure RisM (w : World) (g mb fb rm : Nat) (m m1 : Sm) (A8 A9 : Option Addr) (i : Nat) (wr : World) : Prop where
  st : StAt wr w.heap.size g mb fb m1 (own3 g mb fb)
  lh : LiesX wr (own3 g mb fb) A8 (uvs m.held)
  lf : LiesX wr (own3 g mb fb) A9 (uvs m.fl)
  up : Risen m m1
  fl0 : m.fl.length = m.n
  rm : m1.room = rm
  len : m1.l.length ≤ i + 1
  below : RowKit.Below w.heap.size w wr
theorem RisS.act (h : RisS w g mb fb rm m A8 A9 i wr) (hs : StAt w' w.heap.size g mb fb m1 (own3 g mb fb)) (ho : OnlyE wr w' (own3 g mb fb)) (hu : Risen m m1) : RisM w g mb fb rm m m1 A8 A9 i w' where
  st := hs
  lh := h.lh.kept ho
  lf := h.lf.kept ho
  up := hu
  fl0 := h.st.ok.fl
  rm := hu.room.trans h.rm
  len := Nat.le_trans hu.len (Nat.succ_le_succ h.len)
  below := h.below.trans (ho.below (fun b hb => (h.st.din b hb).1) h.below.size)
theorem RisM.on (h : RisM w g mb fb rm m m1 A8 A9 i wr) (hb : RowKit.Below wr.heap.size wr w') : RisM w g mb fb rm m m1 A8 A9 i w' where
  st := h.st.on hb
  lh := h.lh.kept (OnlyE.of_below hb)
  lf := h.lf.kept (OnlyE.of_below hb)
  up := h.up
  fl0 := h.fl0
  rm := h.rm
  len := h.len
  below := h.below.trans (hb.mono h.below.size)
end

theorem ids_lit (w : World) (k j : Nat) (hk : k < 256) (hj : j < 18446744073709551616) : Lies (w.alloc (.cells #[.int .u8 (k : Int), .int .u64 (j : Int)] 33)) (w.alloc (.cells #[.int .u8 (k : Int), .int .u64 (j : Int)] 33)).heap.size (some ⟨w.heap.size, 0, none⟩) (flat encId [⟨k, j, hk, hj⟩]) :=
  (lies_new w #[.int .u8 (k : Int), .int .u64 (j : Int)] 33).more (by simp)
theorem vec_new (w : World) (A : Option Addr) (n c : Nat) : Lies (w.alloc (.cells #[.slice A n c] 27)) (w.alloc (.cells #[.slice A n c] 27)).heap.size (some ⟨w.heap.size, 0, none⟩) [.slice A n c] := (lies_new w #[.slice A n c] 27).more (by simp)

end Go.Proofs.Ytnpdjlcekmpmoaa
