/- Stage 14: the document's store as a value in memory; Used, Get. -/
import Derived.Test.YtnpdjlcekmpmoaaSoR
set_option maxRecDepth 20000
namespace Go.Proofs.Ytnpdjlcekmpmoaa
open Go.RowKit Go.Sort Go.Maps

def encX (h : Hp) : List Value := [.int .u8 (h.id.f : Int), .int .u64 (h.id.s : Int), .string (str h.b)]
theorem encX_len (h : Hp) : (encX h).length = 3 := rfl
theorem encX_one (h : Hp) : ∀ u ∈ encX h, u.oneCell' = true := by
  intro u hu
  simp only [encX, List.mem_cons, List.not_mem_nil, or_false] at hu
  rcases hu with rfl | rfl | rfl <;> rfl
def rsCells (A : Option Addr) (c : Nat) (A2 : Option Addr) (c2 : Nat) (m : Sm) : Array Value := #[.int .i64 (m.n : Int), .int .i64 (m.room : Int), .slice A m.l.length c, .slice A2 m.n c2]

/-- The rows of the document's store, outside of D. -/
structure RsAt (w : World) (D : Nat → Prop) (A : Option Addr) (c : Nat) (A2 : Option Addr) (c2 : Nat) (m : Sm) : Prop where
  lies : LiesX w D A (flat encX m.l)
  lc : m.l.length ≤ c
  cm : c ≤ maxLen
  floors : LiesX w D A2 (uvs m.fl)
  lc2 : m.n ≤ c2
  cm2 : c2 ≤ maxLen
section
variable {w w' : World} {D D' : Nat → Prop} {A A2 : Option Addr} {c c2 : Nat} {m : Sm}
theorem RsAt.kept (h : RsAt w D A c A2 c2 m) (ho : OnlyE w w' D) : RsAt w' D A c A2 c2 m := ⟨h.lies.kept ho, h.lc, h.cm, h.floors.kept ho, h.lc2, h.cm2⟩
theorem RsAt.on (h : RsAt w D A c A2 c2 m) (hb : RowKit.Below w.heap.size w w') : RsAt w' D A c A2 c2 m := h.kept (OnlyE.of_below hb)
theorem RsAt.widen (h : RsAt w D A c A2 c2 m) (hD : ∀ k, D' k → w.heap.size ≤ k ∨ D k) : RsAt w D' A c A2 c2 m := ⟨h.lies.widen hD, h.lc, h.cm, h.floors.widen hD, h.lc2, h.cm2⟩
/-- The cells of a payload. -/
theorem xs_at {B : Nat} {l : List Hp} (h : Lies w B A (flat encX l)) {i : Nat} (hi : i < l.length) : ∃ b off, A = some ⟨b, off, none⟩ ∧ b < B ∧ w.cell? ⟨b, off + i * 3, none⟩ = some (.int .u8 (l[i].id.f : Int)) ∧ w.cell? ⟨b, off + i * 3 + 1, none⟩ = some (.int .u64 (l[i].id.s : Int)) ∧ w.cell? ⟨b, off + i * 3 + 2, none⟩ = some (.string (str l[i].b)) := by
  have hn : flat encX l ≠ [] := by
    intro h0
    have := flat_length encX_len l
    rw [h0] at this
    simp at this
    omega
  obtain ⟨b, off, e, hb, hc⟩ := h hn
  have key : ∀ j u, j < 3 → (encX l[i])[j]? = some u → w.cell? ⟨b, off + i * 3 + j, none⟩ = some u := fun j u hj hu => by
    have := flat_at encX_len l i j hj hi
    rw [hu] at this
    have h2 := hc (i * 3 + j) u this
    rwa [← Nat.add_assoc] at h2
  exact ⟨b, off, e, hb, key 0 _ (by decide) rfl, key 1 _ (by decide) rfl, key 2 _ (by decide) rfl⟩
end

theorem useL_take (l : List Hp) (i : Nat) (h : i < l.length) : useL (l.take (i + 1)) = useL (l.take i) + l[i].b.length := by
  rw [List.take_succ_eq_append_getElem h, useL_append, useL_one]
theorem str_len (b : List UInt8) : (str b).size = b.length := by simp [str, ByteArray.size]

section
variable {w : World} {D : Nat → Prop} {A A2 : Option Addr} {c c2 : Nat} {m : Sm}
theorem refUsed_any (h : RsAt w D A c A2 c2 m) (hu : useL m.l ≤ 9223372036854775807) : Calls Try.prog 13 #[.agg (rsCells A c A2 c2 m)] w fun e w' => e = .returned (.int .i64 (useL m.l : Int)) ∧ RowKit.Below w.heap.size w w' := by
  have HR := Lib.hid h
  have hnm : m.l.length ≤ 9223372036854775807 := by have := h.lc; have := h.cm; unfold maxLen at *; omega
  have HU := Lib.hid hu
  unfold rsCells
  clear h hu
  generalize m.n = N
  generalize m.room = rm
  obtain ⟨n, hn⟩ : ∃ n, m.l.length = n := ⟨_, rfl⟩
  have HN := Lib.hid hn
  rw [hn] at hnm ⊢
  clear hn
  go_enter Try.func13, Try.ntmps13
  go_wp2_with fail
  generalize hw0 : World.alloc w _ = w0
  obtain ⟨hs0, hG, hcc⟩ := box1 w w0 _ _ hw0
  have hb0 : RowKit.Below w.heap.size w w0 := hG.below
  have x2 := hcc 2 _ rfl
  have HB := Lib.hid hb0
  clear hcc hw0 hG
  have HR0 : Hid (Lies w0 w0.heap.size A (flat encX m.l)) := HR.out.lies.lies.later hb0
  clear hb0 HR
  go_wp2_with fail
  go_loopw [3, 4, 8] (fun s3 _ s8 w1 => ∃ k : Nat, k ≤ n ∧ s8 = .int .i64 (k : Int) ∧ s3 = .int .i64 (useL (m.l.take k) : Int) ∧ w1 = w0) (fun _ _ s8 _ => n - (intOf s8).toNat)
  case atStart => exact ⟨0, Nat.zero_le _, rfl, rfl, rfl⟩
  case round =>
    obtain ⟨k, hk, rfl, rfl, rfl⟩ := hrel
    by_cases hlt : k < n
    · have hkR : k < m.l.length := by rw [HN.out]; exact hlt
      obtain ⟨b, off, rfl, hb, -, -, c2'⟩ := xs_at HR0.out hkR
      have e1 := useL_take m.l k hkR
      have e2 : useL (m.l.take (k + 1)) ≤ useL m.l := useL_sub (List.take_sublist _ _)
      have e3 := HU.out
      have hs : m.l[k].b.length ≤ 9223372036854775807 := by omega
      have hs2 : useL (m.l.take k) + m.l[k].b.length ≤ 9223372036854775807 := by omega
      have HE := Lib.hid e1
      have hsz := str_len m.l[k].b
      clear e1 e2 e3
      generalize useL (m.l.take k) = u at hs2 HE
      generalize m.l[k].b.length = sz at hsz hs hs2 HE
      go_wp2
      go_roundw
      case rel => exact ⟨k + 1, by omega, by go_num, by rw [HE.out]; go_num, trivial⟩
      case measure => simp [intOf]; omega
    · have hkk : k = m.l.length := by rw [HN.out]; omega
      have hq : Hid (useL (m.l.take k) = useL m.l) := by show _ = _; rw [hkk, List.take_length]
      clear hkk
      go_wp2
      go_ret
      exact ⟨by rw [← hq.out]; rfl, HB.out⟩
end

end Go.Proofs.Ytnpdjlcekmpmoaa
