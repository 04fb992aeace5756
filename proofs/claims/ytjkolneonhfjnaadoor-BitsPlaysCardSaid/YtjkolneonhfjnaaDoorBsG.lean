/- Stage 11: Missing. -/
import Derived.Test.YtjkolneonhfjnaaDoorBsF
set_option maxRecDepth 20000
namespace Go.Proofs.YtjkolneonhfjnaaDoor
open Go.RowKit Go.Sort

theorem Tryd.infoI : (Tryd.prog.info? 3).map (fun i => (i.zero, i.size, i.bytes)) = some (some (.int .i64 0), 1, 8) := by kernel_rfl

/-- Places as cells. -/
def kvs (l : List Nat) : List Value := l.map fun (k : Nat) => Value.int .i64 (k : Int)
theorem kvs_len (l : List Nat) : (kvs l).length = l.length := List.length_map _
theorem kvs_append (a b : List Nat) : kvs (a ++ b) = kvs a ++ kvs b := List.map_append
theorem kvs_at {l : List Nat} {k : Nat} (h : k < l.length) : (kvs l)[k]? = some (.int .i64 (l[k] : Int)) := by simp [kvs, h]

/-- A new slice of the call's own, that holds these places. -/
def OwnedK (w : World) (base : Nat) (l : List Nat) (e : Ending) (w' : World) : Prop :=
  ∃ A n c, e = .returned (.slice A n c) ∧ Hid (l.length = n) ∧ n ≤ c ∧ c ≤ maxLen ∧ w'.ownsRow base 3 1 (.slice A n c) n (kvs l) ∧ RowKit.Below base w w'
theorem OwnedK.of {w w' : World} {base : Nat} {l : List Nat} {v : Value} {n : Nat} (h : w'.ownsRow base 3 1 v n (kvs l)) (hb : RowKit.Below base w w') : OwnedK w base l (.returned v) w' := by
  obtain ⟨A, c, rfl, h1, h2⟩ := own_slice h
  exact ⟨A, n, c, rfl, by have := own_len h; rw [kvs_len] at this; exact this, h1, h2, h, hb⟩

/-- append(owned, y). -/
theorem wpList_pushK {wb : World} {ops : Array Oper} {rest : List Oper} {o : Oper} {a : Act} {Q : Exit → Act → World → Prop} (hgd : o.guard = none) (s x : Operand)
    (ho : o.op = .call { callee := .builtin .append, args := #[s, x], argTypes := #[22, 22] }) (base n : Nat) (l : List Nat) (y : Nat) (v : Value) (hs : a.eval s = v) (hx : a.eval x = .slice (some ⟨wb.heap.size, 0, none⟩) 1 1)
    (hown : wb.ownsRow base 3 1 v n (kvs l)) (hn : n ≤ 1048576) (hbase : base ≤ wb.heap.size)
    (h : ∀ v' w', w'.ownsRow base 3 1 v' (n + 1) (kvs (l ++ [y])) → RowKit.Below base wb w' → wpList Tryd.prog ops Q rest (a.put o.dst v') w') :
    wpList Tryd.prog ops Q (o :: rest) a (wb.alloc (.cells #[.int .i64 (y : Int)] 3)) := by
  obtain ⟨i0, hi, e0⟩ := Option.map_eq_some_iff.1 Tryd.infoI
  have e1 := Prod.mk.inj e0
  have e2 := Prod.mk.inj e1.2
  have hb : RowKit.Below base wb (wb.alloc (.cells #[.int .i64 (y : Int)] 3)) := (RowKit.Below.refl _ _).alloc hbase _
  have hown2 := own_below hown ((RowKit.Below.refl _ _).alloc (Nat.le_refl _) (.cells #[.int .i64 (y : Int)] 3))
  refine wpList_append_lstK hgd s x 22 ho base 1 (by decide) 3 i0 (.int .i64 0) 8 Tryd.underlying22 hi e1.1 e2.1 e2.2 rfl v n (kvs l) hs hown2 (wb.heap.size + 1) (some ⟨wb.heap.size, 0, none⟩) 1 1 [.int .i64 (y : Int)] hx rfl
    (lies_new wb #[.int .i64 (y : Int)] 3) (by intro u hu; simp at hu; subst hu; rfl) (by unfold maxLen; omega) (by omega) (by simp; omega) ?_
  intro v' w' h1 _ h3 _
  refine h v' w' ?_ (hb.trans h3)
  rw [kvs_append]
  exact h1

theorem msP_there {m : List Bool} {f j : Nat} (h : m.getD j true = true) : msP m f j = false := by unfold msP; rw [h]; simp
theorem upTo_le (m : List Bool) (f r : Nat) : (upTo m f r).length ≤ m.length := by
  rcases Nat.le_total r m.length with h | h
  · exact Nat.le_trans (upTo_len m f r) h
  · rw [upTo_out h]; exact upTo_len m f _
theorem upTo_start {m : List Bool} {f r : Nat} (h : NxtP m f r) : upTo m f r = [] :=
  upTo_skip (Nat.zero_le _) fun j _ h2 => by
    rcases Nat.lt_or_ge j f with h3 | h3
    · unfold msP; simp; omega
    · exact msP_there (h.there j h3 h2)
theorem upTo_step {m : List Bool} {f r r' : Nat} (hf : f ≤ r) (hr : r < m.length) (hg : m.getD r false = false) (h : NxtP m (r + 1) r') : upTo m f r' = upTo m f r ++ [r] := by
  rw [upTo_skip h.le fun j h1 h2 => msP_there (h.there j h1 h2)]
  exact upTo_yes (by rw [msP_in hr, hg]; simp [hf])

section
variable {w w' : World} {p q : Nat} {m : List Bool} {ws : List Nat}

set_option maxHeartbeats 1600000 in
theorem missing_any (h : SetAt w p q m) (hT : Tab w) (fz : Int) (f : Nat) (hf : fz.toNat = f) (most : Int) :
    Calls Tryd.prog 18 #[.pointer (some ⟨p, 0, none⟩), .int .i64 fz, .int .i64 most] w fun e w' => OwnedK w w.heap.size (missL m f most) e w' := by
  have H := Lib.hid h
  have HT := Lib.hid hT
  have hfit := h.lt.2.2.2
  have hN := fun (W : World) (hb : RowKit.Below w.heap.size w W) (i : Nat) => next_any (h.on hb) (hT.on hb) i
  have HN := Lib.hid hN
  have hM : max 0 fz = (f : Int) := by omega
  clear h hT hN hf
  have h0 := HN.out w (RowKit.Below.refl _ _) f
  go_enter Tryd.func18, Tryd.ntmps18
  go_wp2_with (go_at_call 21; refine h0.mono ?_; rintro e w' ⟨⟨r0, rfl, hX⟩, rfl⟩)
  have HX := Lib.hid hX
  clear hX h0
  go_loopw [7, 8] (fun s7 s8 wr => ∃ (r n c : Nat) (A : Option Addr), s8 = .int .i64 (r : Int) ∧ s7 = .slice A n c ∧ n ≤ m.length ∧ f ≤ r ∧ RowKit.Below w'.heap.size w' wr ∧
      wr.ownsRow w'.heap.size 3 1 (.slice A n c) n (kvs (upTo m f r)) ∧ (upTo m f r).length = n ∧ n ≤ most.toNat ∧ (r < m.length → m.getD r false = false)) (fun _ s8 _ => m.length - (Lib.intOf s8).toNat)
  case atStart =>
    refine ⟨r0, 0, 0, none, rfl, rfl, Nat.zero_le _, HX.out.le, RowKit.Below.refl _ _, ?_, ?_, Nat.zero_le _, HX.out.gap⟩
    · rw [upTo_start HX.out]; exact World.ownsRow_nil _ _ _ _
    · rw [upTo_start HX.out]; rfl
  case round =>
    obtain ⟨r, n, c, A, rfl, rfl, hnm, hfr, hb, hown, hlen, hmo, hgap⟩ := hrel
    have HB := Lib.hid hb
    have HO := Lib.hid hown
    have HL := Lib.hid hlen
    have HG := Lib.hid hgap
    clear hb hown hlen hgap
    by_cases hr : r < m.length
    · have hp := place_yes (H.out.on HB.out) r hr
      by_cases hn : (n : Int) < most
      · have hd : decide ((n : Int) < most) = true := by simpa using hn
        have hg := HG.out hr
        have hbase := HB.out.size
        have ho := HO.out
        have hms : n + 1 ≤ most.toNat := by omega
        have hrB : (r : Int) < 1048576 := by omega
        clear hn
        go_wp2_with (first
          | (go_at_call 20; refine hp.mono ?_; rintro e w' ⟨rfl, rfl⟩)
          | (at_builtin; refine wpList_pushK rfl (.tmp 26) (.tmp 28) rfl _ n (upTo m f r) r _ rfl rfl ho ?a1 hbase ?_))
        case a1 => omega
        intro v2 w2 hown2 hb2
        have HB2 := Lib.hid (HB.out.trans hb2)
        have hx : Calls Tryd.prog 21 #[.pointer (some ⟨p, 0, none⟩), .int .i64 ((r : Int) + 1)] w2 fun e w' => (∃ r' : Nat, e = .returned (.int .i64 (r' : Int)) ∧ NxtP m (r + 1) r') ∧ w' = w2 := HN.out w2 HB2.out (r + 1)
        obtain ⟨A2, c2, rfl, hc1, hc2⟩ := own_slice hown2
        have HO2 := Lib.hid hown2
        clear hown2 hb2 ho hp HO
        go_wp2_with (go_at_call 21; refine hx.mono ?_; rintro e w' ⟨⟨r2, rfl, hX⟩, rfl⟩)
        have e := upTo_step hfr hr hg hX
        have hl2 : (upTo m f r2).length = n + 1 := by rw [e, List.length_append, HL.out]; rfl
        refine ⟨⟨r2, n + 1, c2, A2, rfl, rfl, ?_, ?_, HB2.out, ?_, hl2, hms, hX.gap⟩, ?_⟩
        · rw [← hl2]; exact upTo_le m f r2
        · have := hX.le; omega
        · rw [e]; exact HO2.out
        · have := hX.le; simp [Lib.intOf]; omega
      · have HE := Lib.hid (miss_most (m := m) (f := f) (r := r) (most := most) (Nat.le_of_lt hr) (by have := HL.out; omega))
        have hd : decide ((n : Int) < most) = false := by simpa using hn
        go_wp2_with (go_at_call 20; refine hp.mono ?_; rintro e w' ⟨rfl, rfl⟩)
        go_ret
        rw [HE.out] at HO
        exact OwnedK.of HO.out HB.out
    · have hp := place_no (H.out.on HB.out) r (by omega)
      have HE := Lib.hid (miss_all (m := m) (f := f) (r := r) (most := most) (by omega) (by have := HL.out; omega))
      clear hr
      go_wp2_with (go_at_call 20; refine hp.mono ?_; rintro e w' ⟨rfl, rfl⟩)
      go_ret
      rw [HE.out] at HO
      exact OwnedK.of HO.out HB.out
end

end Go.Proofs.YtjkolneonhfjnaaDoor
