/- Bytes of a constant, and rows of such. Picked out of elder texts. -/
import Derived.Test.YtjecphjdmjoeiaaBgJ
import Derived.Lib.SlBytesConst
namespace Go.Proofs.Ytjecphjdmjoeiaa
open Go.RowKit Go.Sort

theorem bytRows_two {w : World} {B : Nat} {v1 v2 : Value} {l1 l2 : List UInt8} (h1 : Byt w B v1 l1) (h2 : Byt w B v2 l2) : BytRows w B [v1, v2] [l1, l2] :=
  ⟨rfl, fun i _ _ => by
    rcases i with _ | _ | i
    · exact h1
    · exact h2
    · rename_i h _; simp at h; omega⟩

/-- The same where the block bears the mark of a constant's bytes. -/
theorem lies_marked (w : World) (cs : Array Value) (t : TypeId) (fr : Nat × Nat) : Lies (w.alloc (.cells cs t fr)) (w.heap.size + 1) (some ⟨w.heap.size, 0, none⟩) cs.toList := fun _ =>
  ⟨w.heap.size, 0, rfl, by omega, fun i u hu => by
    have h : (w.alloc (.cells cs t fr)).heap[w.heap.size]? = some (.cells cs t fr) := heap_alloc_new w _
    have := World.news_of_block (w := w.alloc (.cells cs t fr)) (B := w.heap.size) h i u hu
    rwa [add_plain] at this⟩

theorem byt_marked (w : World) (t : TypeId) (fr : Nat × Nat) (cs : Array Value) (l : List UInt8) (n : Nat) (he : cs.toList = bvs l) (hn : l.length = n) (hm : n ≤ 1000) :
    Byt (w.alloc (.cells cs t fr)) (w.alloc (.cells cs t fr)).heap.size (.slice (some ⟨w.heap.size, 0, none⟩) n n) l :=
  ⟨_, _, _, rfl, hn, Nat.le_refl _, by unfold maxLen; omega, by rw [← he]; exact (lies_marked w cs t fr).more (by simp)⟩

theorem conv_const (W : World) (C : Array Value) (n c b : Nat) (hb : b = W.heap.size) : (convert 30 30 (.slice (some ⟨b, 0, none⟩) n c)).run Try.prog (W.alloc (.cells C 5)) = .ok (.slice (some ⟨b, 0, none⟩) n c) (W.alloc (.cells C 5 (C.size, C.size + 1))) := by
  subst hb
  exact Lib.run_convert_bytes_const (P := Try.prog) W 30 5 C n c Try.underlying30 Try.underlying5

theorem str_ne {a b : List UInt8} (h : a ≠ b) : ((str a).toList == (str b).toList) = false := by
  unfold str
  rw [ByteArray.toList_mk, ByteArray.toList_mk]
  exact beq_eq_false_iff_ne.2 h

end Go.Proofs.Ytjecphjdmjoeiaa
