/- Stage 13: the document's New (the door seat alone). -/
import Derived.Test.YthkongnjokmmfaaDoorGdA
import Derived.Test.YthkongnjokmmfaaDoorGtS
set_option maxRecDepth 20000
namespace Go.Proofs.YthkongnjokmmfaaDoor
open Go.RowKit Go.Sort

theorem infoRg {cs : Array Value} (h : cs.size = 12) : (Tryd.prog.info? 32).map (·.size) = some cs.size := by
  rw [h]
  kernel_rfl
theorem alloc2_old (w : World) (cs : Array Value) (t : TypeId) (o : Obj) : ((w.alloc (.cells cs t)).alloc o).heap[w.heap.size]? = some (.cells cs t (0, 0)) := by
  rw [Below.heap_alloc _ _ _ (by simp)]
  exact heap_alloc_new w _
set_option maxHeartbeats 1600000 in
theorem refNewG_any (c m r : Int) (w : World) : Calls Tryd.prog 7 #[.int .i64 c, .int .i64 m, .int .i64 r] w fun e w' => e = .returned (.agg (rgCells (.slice none 0 0) (newG c m r))) ∧ RowKit.Below w.heap.size w w' := by
  have e1 : (if c < 1 then (1 : Int) else if 65536 < c then 65536 else c) = (((newG c m r).chunk : Nat) : Int) := by
    show _ = (((max 1 (min c 65536)).toNat : Nat) : Int)
    split
    · omega
    · split <;> omega
  have e2 : (if m < 0 then (0 : Int) else if 1048576 < m then 1048576 else m) = (((newG c m r).most : Nat) : Int) := by
    show _ = (((max 0 (min m 1048576)).toNat : Nat) : Int)
    split
    · omega
    · split <;> omega
  have e3 : (((newG c m r).room : Nat) : Int) = max r (((newG c m r).most : Nat) : Int) := by
    show (((max r (max 0 (min m 1048576))).toNat : Nat) : Int) = max r (((max 0 (min m 1048576)).toNat : Nat) : Int)
    omega
  have HI1 : Hid (∀ W, Calls Tryd.prog 23 #[.int .i64 c, .int .i64 1, .int .i64 65536] W fun e w' => e = .returned (.int .i64 (((newG c m r).chunk : Nat) : Int)) ∧ W = w') := fun W => by
    have := refIn_any c 1 65536 W
    rw [e1] at this
    exact this
  have HI2 : Hid (∀ W, Calls Tryd.prog 23 #[.int .i64 m, .int .i64 0, .int .i64 1048576] W fun e w' => e = .returned (.int .i64 (((newG c m r).most : Nat) : Int)) ∧ W = w') := fun W => by
    have := refIn_any m 0 1048576 W
    rw [e2] at this
    exact this
  have HF : Hid (∀ room : Int, room = max r (((newG c m r).most : Nat) : Int) → rgCells (.slice none 0 0) (newG c m r) = #[.int .i64 (((newG c m r).chunk : Nat) : Int), .int .i64 (((newG c m r).most : Nat) : Int), .int .i64 room, .slice none 0 0, .int .u8 0, .int .u64 0, .int .i64 0, .int .i64 0, .int .i64 0, .int .i64 0, .int .i64 0, .int .i64 0]) := fun room hr => by
    rw [hr, ← e3]
    rfl
  clear e1 e2 e3
  generalize hch : (((newG c m r).chunk : Nat) : Int) = ch at *
  generalize hmo : (((newG c m r).most : Nat) : Int) = mo at *
  by_cases hlt : r < mo
  · have hd : decide (r < mo) = true := decide_eq_true (by omega)
    have HE := Lib.hid (HF.out mo (by omega))
    clear hlt HF hch hmo
    go_enter Tryd.func7, Tryd.ntmps7
    go_wp2_with (first
      | (go_at_call_of 23 c; refine (HI1.out _).mono ?_; rintro e w' ⟨rfl, rfl⟩)
      | (go_at_call_of 23 m; refine (HI2.out _).mono ?_; rintro e w' ⟨rfl, rfl⟩))
    exact bodyPost_ret (results_cell_row rfl _ _ _ _ _ _ _ rfl (alloc2_old w _ _ _) Tryd.underlying32 rfl (infoRg rfl)) rfl ⟨by rw [HE.out], ((RowKit.Below.refl _ _).alloc (Nat.le_refl _) _).alloc (by simp) _⟩
  · have hd : decide (r < mo) = false := decide_eq_false (by omega)
    have HE := Lib.hid (HF.out r (by omega))
    clear hlt HF hch hmo
    go_enter Tryd.func7, Tryd.ntmps7
    go_wp2_with (first
      | (go_at_call_of 23 c; refine (HI1.out _).mono ?_; rintro e w' ⟨rfl, rfl⟩)
      | (go_at_call_of 23 m; refine (HI2.out _).mono ?_; rintro e w' ⟨rfl, rfl⟩))
    exact bodyPost_ret (results_cell_row rfl _ _ _ _ _ _ _ rfl (alloc2_old w _ _ _) Tryd.underlying32 rfl (infoRg rfl)) rfl ⟨by rw [HE.out], ((RowKit.Below.refl _ _).alloc (Nat.le_refl _) _).alloc (by simp) _⟩

end Go.Proofs.YthkongnjokmmfaaDoor
