/- string(b) of a slice that reads as bytes: the string of just these bytes; nothing is written. -/
import Derived.Test.YtmnjedpnhilndaaMem
import Derived.Laws.BytesString
import Derived.Laws.Cells
namespace Go.Proofs.Ytmnjedpnhilndaa
open Go.RowKit

/-- The string of bytes. -/
def str (l : List UInt8) : ByteArray := ⟨l.toArray⟩

theorem fold_push (l : List UInt8) (r : ByteArray) : (l.map (fun c => (c.toNat : Int))).foldl (fun r n => r.push (UInt8.ofNat n.toNat)) r = ⟨r.data ++ l.toArray⟩ := by
  induction l generalizing r with
  | nil => simp
  | cons c t ih =>
    rw [List.map_cons, List.foldl_cons, ih]
    simp [ByteArray.push]

theorem run_string_lst {P : Program} {w : World} (src dst e : TypeId) (hs : P.underlying src = some (.slice e)) (he : P.underlying e = some (.int .u8)) (hd : P.underlying dst = some .string)
    (A : Option Addr) (B n c : Nat) (l : List UInt8) (hl : l.length = n) (h : Lies w B A (bvs l)) :
    (convert src dst (.slice A n c)).run P w = .ok (.string (str l)) w := by
  rw [run_convert_bytes_string w src dst e A n c hs he hd]
  rcases A with _ | a
  · have hnil : l = [] := by
      rcases l with _ | ⟨u, r⟩
      · rfl
      · obtain ⟨_, _, h, _⟩ := h (by simp [bvs])
        cases h
    subst hnil
    simp [Conv.bytesToString, str]
    rfl
  · have e1 : (l.map (fun c => (c.toNat : Int))).map (Value.int .u8) = bvs l := by simp [bvs, bv]
    have hload : (loadCells a n).run P w = .ok ((l.map (fun c => (c.toNat : Int))).map (Value.int .u8)).toArray w := by
      rw [e1]
      have := run_loadCells_list (P := P) (w := w) a (bvs l) (fun j v hj => by
        obtain ⟨b, off, he, _, hc⟩ := h (by rintro h0; rw [h0] at hj; simp at hj)
        injection he with he
        subst he
        rw [add_plain]
        exact hc j v hj)
      rw [bvs_length, hl] at this
      exact this
    rw [run_bytesToString w a n c _ hload, fold_push]
    simp [str]

end Go.Proofs.Ytmnjedpnhilndaa
