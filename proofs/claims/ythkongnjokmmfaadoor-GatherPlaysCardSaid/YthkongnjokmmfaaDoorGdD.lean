/- Stage 13: IDs, the gatherer's own and the document's (the door seat alone). -/
import Derived.Test.YthkongnjokmmfaaDoorGdC
import Derived.Test.YthkongnjokmmfaaDoorGtV
set_option maxRecDepth 20000
namespace Go.Proofs.YthkongnjokmmfaaDoor
open Go.RowKit Go.Sort

theorem Tryd.infoID : (Tryd.prog.info? 25).map (fun i => (i.zero, i.size, i.bytes)) = some (some (.agg #[.int .u8 0, .int .u64 0]), 2, 16) := by kernel_rfl

/-- A new slice of the call's own that holds these ids. -/
def OwnIds (w : World) (base : Nat) (l : List Id) (e : Ending) (w' : World) : Prop :=
  ∃ A n c, e = .returned (.slice A n c) ∧ Hid (l.length = n) ∧ n ≤ c ∧ c ≤ maxLen ∧ w'.ownsRow base 25 2 (.slice A n c) n (flat encId l) ∧ Below base w w'

theorem OwnIds.of {w w' : World} {base : Nat} {l : List Id} {v : Value} {n : Nat} (hl : l.length = n) (h : w'.ownsRow base 25 2 v n (flat encId l)) (hb : Below base w w') : OwnIds w base l (.returned v) w' := by
  obtain ⟨A, c, rfl, h1, h2⟩ := own_sliceK h
  exact ⟨A, n, c, rfl, hl, h1, h2, h, hb⟩

/-- What has been made so far: ids in memory of the call's own. -/
def MkI (w : World) (l : List Id) (v : Value) (wr : World) : Prop := ∃ n, wr.ownsRow w.heap.size 25 2 v n (flat encId l) ∧ RowKit.Below w.heap.size w wr ∧ Hid (l.length = n)

theorem MkI.below {w wr : World} {l : List Id} {v : Value} (h : MkI w l v wr) : RowKit.Below w.heap.size w wr := by
  obtain ⟨_, _, hb, _⟩ := h
  exact hb
theorem MkI.owned {w wr : World} {l : List Id} {v : Value} (h : MkI w l v wr) : OwnIds w w.heap.size l (.returned v) wr := by
  obtain ⟨n, ho, hb, hn⟩ := h
  exact OwnIds.of hn.out ho hb
theorem MkI.alloc {w wr : World} {l : List Id} {v : Value} (h : MkI w l v wr) (o : Obj) : MkI w l v (wr.alloc o) := by
  obtain ⟨n, ho, hb, hn⟩ := h
  exact ⟨n, ho.alloc _, hb.alloc hb.size _, hn⟩

/-- append(owned, y), of ids. -/
theorem wpList_pushId {w wb : World} {ops : Array Oper} {rest : List Oper} {o : Oper} {a : Act} {Q : Exit → Act → World → Prop} (hgd : o.guard = none) (s x : Operand)
    (ho : o.op = .call { callee := .builtin .append, args := #[s, x], argTypes := #[57, 57] }) (l : List Id) (y : Id) (v : Value) (hs : a.eval s = v) (B : Nat) (hx : a.eval x = .slice (some ⟨B, 0, none⟩) 1 1) (hB : B = wb.heap.size)
    (yf ys : Int) (hyf : (y.f : Int) = yf) (hys : (y.s : Int) = ys) (hmk : MkI w l v wb) (hn : l.length ≤ 1000000)
    (h : ∀ v' w', MkI w (l ++ [y]) v' w' → wpList Tryd.prog ops Q rest (a.put o.dst v') w') :
    wpList Tryd.prog ops Q (o :: rest) a (wb.alloc (.cells #[.int .u8 yf, .int .u64 ys] 25)) := by
  subst hyf hys hB
  obtain ⟨i0, hi, hz0, hz1, hz2⟩ := info_parts Tryd.infoID
  obtain ⟨n, hown, hb, hln⟩ := hmk
  have hn' : n ≤ 1000000 := by rw [← hln.out]; exact hn
  refine wpList_append_lstK hgd s x 57 ho w.heap.size 2 (by decide) 25 i0 (.agg #[.int .u8 0, .int .u64 0]) 16 Tryd.underlying57 hi hz0 hz1 hz2 rfl v n (flat encId l) hs (hown.alloc _) _ _ 1 1 [.int .u8 (y.f : Int), .int .u64 (y.s : Int)] hx rfl (lies_new wb #[.int .u8 (y.f : Int), .int .u64 (y.s : Int)] 25) (by simp [Value.oneCell']) (by unfold maxLen; omega) (by omega) (by have := hb.size; simp; omega) ?_
  intro v' w' hown' _ hb' _
  refine h v' w' ⟨n + 1, ?_, (hb.alloc hb.size _).trans hb', by show _ = _; rw [List.length_append, hln.out]; rfl⟩
  rw [flat_append]
  exact hown'


section
variable {w : World} {base gp : Nat} {T : Value} {L : List Pz} {g : Gm} {D : Nat → Prop}
theorem take_ids (l : List Part) (k : Nat) (h : k < l.length) : (l.take (k + 1)).map Part.id = (l.take k).map Part.id ++ [l[k].id] := by
  rw [List.take_succ_eq_append_getElem h, List.map_append]
  rfl
set_option maxHeartbeats 1600000 in
theorem ids_g (h : GtAt w base gp T L g D) (hL : L.length ≤ 1000000) : Calls Tryd.prog 20 #[.pointer (some ⟨gp, 0, none⟩)] w (OwnIds w w.heap.size (g.l.map Part.id)) := by
  obtain ⟨A, c, rfl, hn, hc, -, hLi⟩ := h.slice
  have hall := all_any h
  have HG := Lib.hid h
  have HLI := Lib.hid hLi
  have HAT : Hid (∀ i, (hi : i < L.length) → (hm : i < g.l.length) → g.l[i] = L[i].x) := fun i hi _ => h.at_ hi
  have hll := h.len
  have hcm : L.length ≤ 9223372036854775807 := by omega
  clear h hLi hc
  go_enter Tryd.func20, Tryd.ntmps20
  go_wp2_with (go_at_call 33; refine hall.mono ?_; rintro e w' ⟨rfl, rfl⟩)
  clear hall
  go_loopw [3, 5, 9] (fun s3 _ s9 wr => ∃ k : Nat, k ≤ L.length ∧ s9 = .int .i64 (k : Int) ∧ MkI w ((g.l.take k).map Part.id) s3 wr) (fun _ _ s9 _ => L.length - (intOf s9).toNat)
  case atStart => exact ⟨0, Nat.zero_le _, rfl, 0, ownsRow_nil _ _ _ _, RowKit.Below.refl _ _, rfl⟩
  case round =>
    obtain ⟨k, hk, rfl, HMK⟩ := hrel
    have hbl := HMK.below
    by_cases hlt : k < L.length
    · obtain ⟨b, off, rfl, hb, ce⟩ := Lies.pz (HLI.out.later hbl) hlt
      have hp := (HG.out.on hbl).part hlt
      have c1 := hp.c1
      have c2 := hp.c2
      unfold Pz.ptr at ce
      have HID : Hid (g.l[k]'(by omega) = L[k].x) := HAT.out k hlt (by omega)
      have HTK := Lib.hid (take_ids g.l k (by omega))
      have HK := Lib.hid HMK
      have hlen : ((g.l.take k).map Part.id).length ≤ 1000000 := by rw [List.length_map, List.length_take]; omega
      clear hp HMK hbl
      go_wp2_with (first | (at_builtin; refine wpList_pushId rfl (.tmp 13) (.tmp 18) rfl _ L[k].x.id _ rfl _ rfl rfl _ _ rfl rfl HK.out hlen ?_; intro v' w' hmk') | fail)
      go_roundw
      case rel => exact ⟨k + 1, by omega, by go_num, by rw [HTK.out, HID.out]; exact hmk'⟩
      case measure => simp [intOf]; omega
    · have hkk : k = g.l.length := by omega
      have HO : Hid (OwnIds w w.heap.size (g.l.map Part.id) (.returned u3) wr) := by
        have := HMK.owned
        rw [hkk, List.take_length] at this
        exact this
      clear HMK
      go_wp2
      go_ret
      exact HO.out
end

section
variable {w : World} {D : Nat → Prop} {A : Option Addr} {n c : Nat} {R : List Rp} {m : Gm}
set_option maxHeartbeats 1600000 in
theorem refIDs_any (h : RgAt w D A n c R m) (hn : n ≤ 1000000) : Calls Tryd.prog 21 #[.agg (rgCells (.slice A n c) m)] w (OwnIds w w.heap.size (m.l.map Part.id)) := by
  have HR := Lib.hid h
  have hl := h.len
  have HAT : Hid (∀ i, (hi : i < R.length) → (hm : i < m.l.length) → m.l[i] = R[i].x) := fun i hi _ => h.at_ hi
  have hml := h.mlen
  clear h
  unfold rgCells
  generalize (m.counts.getD 0 0 : Int) = q0
  generalize (m.counts.getD 1 0 : Int) = q1
  generalize (m.counts.getD 2 0 : Int) = q2
  generalize (m.counts.getD 3 0 : Int) = q3
  generalize (m.counts.getD 4 0 : Int) = q4
  generalize (m.counts.getD 5 0 : Int) = q5
  go_enter Tryd.func21, Tryd.ntmps21
  go_wp2_with fail
  generalize hw0 : World.alloc w _ = w0
  obtain ⟨hs0, hG, hcc⟩ := box1 w w0 _ _ hw0
  have hb0 : RowKit.Below w.heap.size w w0 := hG.below
  have x3 := hcc 3 _ rfl
  have HB := Lib.hid hb0
  clear hcc hw0 hG hb0
  have hb1 : RowKit.Below w0.heap.size w0 (w0.alloc (.cells #[] 25)) := (RowKit.Below.refl _ _).alloc (Nat.le_refl _) _
  have HMK0 : Hid (MkI w0 [] (.slice (some ⟨w0.heap.size, 0, none⟩) 0 0) (w0.alloc (.cells #[] 25))) := ⟨0, World.ownsRow_lit w0 #[] 0 (Nat.le_refl _) (Nat.zero_le _) rfl, hb1, rfl⟩
  have HX3 := Lib.hid (fun V (hV : RowKit.Below w0.heap.size w0 V) => (hV.cell (p := ⟨w.heap.size, 3, none⟩) (by show w.heap.size < w0.heap.size; omega)).trans x3)
  clear hb1
  go_wp2_with fail
  clear x3
  go_loopw [3, 4, 9] (fun s3 _ s9 wr => ∃ k : Nat, k ≤ n ∧ s9 = .int .i64 (k : Int) ∧ MkI w0 ((m.l.take k).map Part.id) s3 wr) (fun _ _ s9 _ => n - (intOf s9).toNat)
  case atStart => exact ⟨0, Nat.zero_le _, rfl, by rw [List.take_zero, List.map_nil, ← hs0]; exact HMK0.out⟩
  case round =>
    obtain ⟨k, hk, rfl, HMK⟩ := hrel
    have hb := HMK.below
    have hbl := HB.out.trans (hb.mono HB.out.size)
    by_cases hlt : k < n
    · have hkR : k < R.length := by omega
      have y3 := HX3.out _ hb
      obtain ⟨b, off, rfl, hbb, c0, c1, -, -, -⟩ := (HR.out.on hbl).part hkR
      have HID : Hid (m.l[k]'(by omega) = R[k].x) := HAT.out k hkR (by omega)
      have HTK := Lib.hid (take_ids m.l k (by omega))
      have HK := Lib.hid HMK
      have HBB := Lib.hid hb
      have hlen : ((m.l.take k).map Part.id).length ≤ 1000000 := by rw [List.length_map, List.length_take]; omega
      clear HMK hbl hb HBB
      go_wp2_with (first | (at_builtin; refine wpList_pushId rfl (.tmp 12) (.tmp 19) rfl _ R[k].x.id _ rfl _ rfl rfl _ _ rfl rfl HK.out hlen ?_; intro v' w' hmk') | fail)
      go_roundw
      case rel => exact ⟨k + 1, by omega, by go_num, by rw [HTK.out, HID.out]; exact hmk'⟩
      case measure => simp [intOf]; omega
    · have hkk : k = m.l.length := by omega
      have HO : Hid (OwnIds w w.heap.size (m.l.map Part.id) (.returned u3) wr) := by
        obtain ⟨A1, n1, c1, e1, e2, e3, e4, e5, e6⟩ := HMK.owned
        rw [hkk, List.take_length] at e2 e5
        exact ⟨A1, n1, c1, e1, e2, e3, e4, own_base e5 HB.out.size, hbl⟩
      clear HMK hb hbl
      go_wp2
      go_ret
      exact HO.out
end

end Go.Proofs.YthkongnjokmmfaaDoor
