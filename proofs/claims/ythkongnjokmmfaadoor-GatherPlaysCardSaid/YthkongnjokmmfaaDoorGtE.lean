/- Stage 13: the first that a set lacks (picked out of the texts of stage 11; the door seat alone). -/
import Derived.Test.YthkongnjokmmfaaDoorGtD
import Derived.Shelf.Spec.TrailingZeros
namespace Go.Proofs.YthkongnjokmmfaaDoor
open Go.RowKit Go.Sort Go.ChangeShapes Go.WideShapes Go.ChangeAt

theorem gap_none {x k : Nat} (hx : x < 18446744073709551616) (h : (18446744073709551615 - x) / 2 ^ k = 0) (j : Nat) (hk : k ≤ j) (hj : j < 64) : x.testBit j = true := by
  have h1 : ((18446744073709551615 - x) / 2 ^ k).testBit (j - k) = false := by rw [h]; simp
  rw [Nat.testBit_div_two_pow, show j - k + k = j by omega] at h1
  have e : 18446744073709551615 - x = 2 ^ 64 - (x + 1) := by rw [pow64]; omega
  rw [e, Nat.testBit_two_pow_sub_succ (by rw [pow64]; exact hx)] at h1
  simpa [hj] using h1

theorem ctz_bits {g : Nat} (h0 : g ≠ 0) (hg : g < 18446744073709551616) : g.testBit (Lib.ctz 64 g) = true ∧ ∀ j, j < Lib.ctz 64 g → g.testBit j = false := by
  obtain ⟨m, hm, _⟩ := Lib.ctzFrom_spec 64 g (by omega) (by rw [pow64]; exact hg)
  have e : Lib.ctz 64 g = Lib.ctzFrom 64 g := by simp [Lib.ctz, h0]
  rw [e]
  generalize Lib.ctzFrom 64 g = c at hm
  subst hm
  refine ⟨?_, fun j hj => ?_⟩
  · rw [Nat.mul_comm, Nat.testBit_mul_two_pow]; simp
  · rw [Nat.mul_comm, Nat.testBit_mul_two_pow]
    have : ¬ c ≤ j := by omega
    simp [this]

theorem gap_some {x k : Nat} (hx : x < 18446744073709551616) (h : (18446744073709551615 - x) / 2 ^ k ≠ 0) :
    k + Lib.ctz 64 ((18446744073709551615 - x) / 2 ^ k) < 64 ∧ x.testBit (k + Lib.ctz 64 ((18446744073709551615 - x) / 2 ^ k)) = false ∧ ∀ j, k ≤ j → j < k + Lib.ctz 64 ((18446744073709551615 - x) / 2 ^ k) → x.testBit j = true := by
  have hb := ctz_bits h (Nat.lt_of_le_of_lt (Nat.div_le_self _ _) (by omega))
  generalize Lib.ctz 64 ((18446744073709551615 - x) / 2 ^ k) = t at hb
  have e : 18446744073709551615 - x = 2 ^ 64 - (x + 1) := by rw [pow64]; omega
  have hbit : ∀ j, ((18446744073709551615 - x) / 2 ^ k).testBit j = (decide (k + j < 64) && !x.testBit (k + j)) := fun j => by
    rw [Nat.testBit_div_two_pow, e, Nat.testBit_two_pow_sub_succ (by rw [pow64]; exact hx), Nat.add_comm j k]
  have h1 := hb.1
  rw [hbit] at h1
  simp only [Bool.and_eq_true, decide_eq_true_eq, Bool.not_eq_true'] at h1
  refine ⟨h1.1, h1.2, fun j h2 h3 => ?_⟩
  have h4 := hb.2 (j - k) (by omega)
  rw [hbit, show k + (j - k) = j by omega] at h4
  have h5 : j < 64 := by omega
  simpa [h5] using h4

def msP (m : List Bool) (f j : Nat) : Bool := decide (f ≤ j) && !m.getD j true

def upTo (m : List Bool) (f r : Nat) : List Nat := (List.range r).filter (msP m f)

def missL (m : List Bool) (f : Nat) (most : Int) : List Nat := (upTo m f m.length).take most.toNat

theorem upTo_yes {m : List Bool} {f r : Nat} (h : msP m f r = true) : upTo m f (r + 1) = upTo m f r ++ [r] := by
  unfold upTo
  rw [List.range_succ, List.filter_append]
  simp [h]

theorem upTo_no {m : List Bool} {f r : Nat} (h : msP m f r = false) : upTo m f (r + 1) = upTo m f r := by
  unfold upTo
  rw [List.range_succ, List.filter_append]
  simp [h]

theorem upTo_skip {m : List Bool} {f r r' : Nat} (hr : r ≤ r') (h : ∀ j, r ≤ j → j < r' → msP m f j = false) : upTo m f r' = upTo m f r := by
  obtain ⟨d, rfl⟩ := Nat.exists_eq_add_of_le hr
  induction d with
  | zero => rfl
  | succ d ih =>
    rw [← Nat.add_assoc, upTo_no (h (r + d) (by omega) (by omega))]
    exact ih (by omega) fun j h1 h2 => h j h1 (by omega)

theorem msP_out {m : List Bool} {f j : Nat} (h : m.length ≤ j) : msP m f j = false := by
  unfold msP
  simp [List.getD, List.getElem?_eq_none h]

theorem msP_in {m : List Bool} {f j : Nat} (h : j < m.length) : msP m f j = (decide (f ≤ j) && !m.getD j false) := by
  unfold msP
  simp [List.getD, h]

theorem upTo_out {m : List Bool} {f r : Nat} (h : m.length ≤ r) : upTo m f r = upTo m f m.length := upTo_skip h fun _ h1 _ => msP_out h1

theorem upTo_front {m : List Bool} {f r r' : Nat} (h : r ≤ r') : upTo m f r <+: upTo m f r' := by
  unfold upTo
  obtain ⟨d, rfl⟩ := Nat.exists_eq_add_of_le h
  rw [List.range_add, List.filter_append]
  exact List.prefix_append _ _

theorem upTo_len (m : List Bool) (f r : Nat) : (upTo m f r).length ≤ r := by
  unfold upTo
  refine Nat.le_trans (List.length_filter_le _ _) ?_
  simp

/-- All are found. -/
theorem miss_all {m : List Bool} {f r : Nat} {most : Int} (hr : m.length ≤ r) (hl : (upTo m f r).length ≤ most.toNat) : upTo m f r = missL m f most := by
  unfold missL
  rw [upTo_out hr] at hl ⊢
  exact (List.take_of_length_le hl).symm

/-- As many as are asked for are found. -/
theorem miss_most {m : List Bool} {f r : Nat} {most : Int} (hr : r ≤ m.length) (hl : (upTo m f r).length = most.toNat) : upTo m f r = missL m f most := by
  unfold missL
  rw [← hl]
  exact (List.prefix_iff_eq_take.1 (upTo_front hr))

def Tryd.tz_ren : Go.Shelf.Ren := ⟨fun | 29 => 56 | n => n, fun | 0 => 0 | 3 => 3 | 4 => 4 | 5 => 5 | 22 => 23 | 25 => 100 | 54 => 99 | n => n, fun | 1 => 0 | n => n⟩

theorem Tryd.tz : Lays7.n29 Tryd.prog Tryd.tz_ren := {
  mixed := by kernel_rfl
  f29 := Tryd.func56.trans (congrArg some (by kernel_rfl))
  t0 := Tryd.underlying0
  a0 := Tryd.isAgg0
  z0 := Tryd.sizeOf0
  v0 := Tryd.zeroValue0
  i0 := by kernel_rfl
  t3 := Tryd.underlying3
  a3 := Tryd.isAgg3
  z3 := Tryd.sizeOf3
  v3 := Tryd.zeroValue3
  i3 := by kernel_rfl
  t4 := Tryd.underlying4
  a4 := Tryd.isAgg4
  z4 := Tryd.sizeOf4
  v4 := Tryd.zeroValue4
  i4 := by kernel_rfl
  t5 := Tryd.underlying5
  a5 := Tryd.isAgg5
  z5 := Tryd.sizeOf5
  v5 := Tryd.zeroValue5
  i5 := by kernel_rfl
  t22 := Tryd.underlying23
  a22 := Tryd.isAgg23
  z22 := Tryd.sizeOf23
  v22 := Tryd.zeroValue23
  i22 := by kernel_rfl
  t25 := Tryd.underlying100
  a25 := Tryd.isAgg100
  z25 := Tryd.sizeOf100
  v25 := Tryd.zeroValue100
  i25 := by kernel_rfl
  t54 := Tryd.underlying99
  a54 := Tryd.isAgg99
  z54 := Tryd.sizeOf99
  g1 := by kernel_rfl }

/-- The library's table is laid. -/
def Tab (w : World) : Prop := TabAt 0 Lib.deBruijn64tab w

theorem Tab.kept {w w' : World} {D : Nat → Prop} (h : Tab w) (ho : OnlyE w w' D) (hD : ¬ D 0) : Tab w' := fun j hj => by
  have h1 := h j hj
  have hlt := World.block_lt_of_cell? w _ h1
  exact (World.cell?_of_block (ho.same _ hlt hD)).trans h1

theorem Tab.on {w w' : World} (h : Tab w) (hb : RowKit.Below w.heap.size w w') : Tab w' := h.kept (D := fun _ => False) (OnlyE.of_below hb) id

theorem tz_any (x : Nat) (hx : x < 18446744073709551616) (w : World) (hT : Tab w) :
    Calls Tryd.prog 56 #[.int .u64 (x : Int)] w fun e w' => e = .returned (.int .i64 (Lib.ctz 64 x : Int)) ∧ w' = w :=
  Any7.bits_TrailingZeros64 Tryd.tz x hx w fun _ => hT

/-- The first place, from i on, that isn't in it (or one that there isn't). -/
structure NxtP (m : List Bool) (i r : Nat) : Prop where
  le : i ≤ r
  there : ∀ j, i ≤ j → j < r → m.getD j true = true
  gap : r < m.length → m.getD r false = false
  top : r = i ∨ r ≤ m.length + 63

theorem bit_there {m : List Bool} {ws : List Nat} (h : BitsW m ws) {k j : Nat} (hk : j / 64 = k) (hb : (ws.getD k 0).testBit (j % 64) = true) : m.getD j true = true := by
  rcases Nat.lt_or_ge j m.length with h1 | h1
  · have h2 := h.bit j h1
    rw [hk, hb] at h2
    have h3 : m.getD j true = m.getD j false := by simp [List.getD, h1]
    rw [h3, ← h2]
  · simp [List.getD, List.getElem?_eq_none h1]

theorem not_val {x : Nat} (hx : x < 18446744073709551616) : bits BinOp.xor IntKind.u64 (if IntKind.u64.signed = true then -1 else IntKind.u64.max) (x : Int) = ((18446744073709551615 - x : Nat) : Int) := by
  have h1 : (BitVec.ofInt 64 (x : Int)).toNat = x := by
    rw [BitVec.ofInt_natCast, BitVec.toNat_ofNat]; exact Nat.mod_eq_of_lt (by omega)
  have h2 : BitVec.ofInt 64 (if IntKind.u64.signed = true then -1 else IntKind.u64.max) = BitVec.allOnes 64 := by decide
  show IntKind.u64.wrap ((BitVec.ofInt 64 (if IntKind.u64.signed = true then -1 else IntKind.u64.max) ^^^ BitVec.ofInt 64 (x : Int)).toNat : Int) = _
  rw [h2, BitVec.allOnes_xor, BitVec.toNat_not, h1, IntKind.wrap_u64]
  omega

section
variable {w w' : World} {p q : Nat} {m : List Bool} {ws : List Nat}

set_option maxHeartbeats 1600000 in
theorem next_any (h : SetAt w p q m) (hT : Tab w) (i : Nat) :
    Calls Tryd.prog 48 #[.pointer (some ⟨p, 0, none⟩), .int .i64 (i : Int)] w fun e w' => (∃ r : Nat, e = .returned (.int .i64 (r : Int)) ∧ NxtP m i r) ∧ w' = w := by
  have H := Lib.hid h
  have HT := Lib.hid hT
  clear h hT
  go_enter Tryd.func48, Tryd.ntmps48
  go_wp2_with fail
  go_loopw [1] (fun s1 wr => ∃ k : Nat, s1 = .int .i64 (k : Int) ∧ wr = w ∧ i ≤ k ∧ (∀ j, i ≤ j → j < k → m.getD j true = true) ∧ (k = i ∨ k ≤ m.length + 63)) (fun s1 _ => m.length - (Lib.intOf s1).toNat)
  case atStart => exact ⟨i, rfl, rfl, Nat.le_refl _, fun j h1 h2 => absurd h1 (by omega), .inl rfl⟩
  case round =>
    obtain ⟨k, rfl, rfl, hik, hth, htop⟩ := hrel
    have HTH := Lib.hid hth
    have HTOP := Lib.hid htop
    clear hth htop
    have hfit := H.out.lt.2.2.2
    by_cases hk : k < m.length
    · have hp := place_yes H.out k hk
      obtain ⟨ws, hS⟩ := H.out
      have hkw := hS.bits.idx hk
      have c0 := hS.c0
      have cw := hS.word hkw
      have hx := hS.bits.word_lt (k / 64)
      have HB := Lib.hid hS.bits
      clear hS
      have e1 : (k : Int) / 64 = ((k / 64 : Nat) : Int) := by omega
      have hkM : k < 1048576 := by omega
      generalize hN : ws.getD (k / 64) 0 = x at cw hx
      have HN := Lib.hid hN
      clear hN
      generalize ws.length = nw at c0 hkw
      generalize hQ : k / 64 = kk at e1 hkw cw HN
      have e3 := not_val hx
      have e4 : ((18446744073709551615 - x : Nat) : Int) / 2 ^ (k % 64) = (((18446744073709551615 - x) / 2 ^ (k % 64) : Nat) : Int) := by simp
      have hr : k % 64 < 64 := Nat.mod_lt _ (by decide)
      by_cases hg : (18446744073709551615 - x) / 2 ^ (k % 64) = 0
      · have HG := Lib.hid (gap_none hx hg)
        rw [hg] at e4
        clear hg hx
        generalize 18446744073709551615 - x = Y at e3 e4
        go_wp2_with (go_at_call 49; refine hp.mono ?_; rintro e w' ⟨rfl, rfl⟩)
        rw [show (k : Int) + (64 - (k : Int) % 64) = ((k + (64 - k % 64) : Nat) : Int) by omega]
        refine ⟨⟨k + (64 - k % 64), rfl, trivial, by omega, fun j h1 h2 => ?_, .inr (by omega)⟩, by simp [Lib.intOf]; omega⟩
        rcases Nat.lt_or_ge j k with h3 | h3
        · exact HTH.out j h1 h3
        · refine bit_there HB.out (k := kk) (by omega) ?_
          rw [HN.out]
          exact HG.out _ (by omega) (Nat.mod_lt _ (by decide))
      · have HG := Lib.hid (gap_some hx hg)
        have hgB : (18446744073709551615 - x) / 2 ^ (k % 64) < 18446744073709551616 := Nat.lt_of_le_of_lt (Nat.div_le_self _ _) (by omega)
        generalize (18446744073709551615 - x) / 2 ^ (k % 64) = g at e4 hg HG hgB
        have htz := tz_any g hgB _ HT.out
        have hne : ((g : Int) != 0) = true := by simpa using hg
        have htB : Lib.ctz 64 g < 64 := by have := HG.out.1; omega
        generalize Lib.ctz 64 g = tz at htz HG htB
        clear hg hx hgB
        generalize 18446744073709551615 - x = Y at e3 e4
        go_wp2_with (first
            | (go_at_call 49; refine hp.mono ?_; rintro e w' ⟨rfl, rfl⟩)
            | (go_at_call 56; refine htz.mono ?_; rintro e w' ⟨rfl, rfl⟩))
        go_ret
        obtain ⟨g1, g2, g3⟩ := HG.out
        refine ⟨⟨k + tz, rfl, by omega, fun j h1 h2 => ?_, fun h1 => ?_, .inr (by omega)⟩, rfl⟩
        · rcases Nat.lt_or_ge j k with h3 | h3
          · exact HTH.out j h1 h3
          · refine bit_there HB.out (k := kk) (by omega) ?_
            rw [HN.out]
            exact g3 _ (by omega) (by omega)
        · have h2 := HB.out.bit (k + tz) h1
          rw [show (k + tz) / 64 = kk by omega, HN.out, show (k + tz) % 64 = k % 64 + tz by omega, g2] at h2
          exact h2.symm
    · have hp := place_no H.out k (by omega)
      go_wp2_with (go_at_call 49; refine hp.mono ?_; rintro e w' ⟨rfl, rfl⟩)
      go_ret
      exact ⟨⟨k, rfl, ⟨hik, HTH.out, fun h => absurd h hk, HTOP.out⟩⟩, rfl⟩

end

theorem Tryd.infoI : (Tryd.prog.info? 3).map (fun i => (i.zero, i.size, i.bytes)) = some (some (.int .i64 0), 1, 8) := by kernel_rfl

/-- Places as cells. -/
def kvs (l : List Nat) : List Value := l.map fun (k : Nat) => Value.int .i64 (k : Int)

theorem kvs_len (l : List Nat) : (kvs l).length = l.length := List.length_map _

theorem kvs_append (a b : List Nat) : kvs (a ++ b) = kvs a ++ kvs b := List.map_append

/-- A new slice of the call's own, that holds these places. -/
def OwnedK (w : World) (base : Nat) (l : List Nat) (e : Ending) (w' : World) : Prop :=
  ∃ A n c, e = .returned (.slice A n c) ∧ Hid (l.length = n) ∧ n ≤ c ∧ c ≤ maxLen ∧ w'.ownsRow base 3 1 (.slice A n c) n (kvs l) ∧ RowKit.Below base w w'

theorem OwnedK.of {w w' : World} {base : Nat} {l : List Nat} {v : Value} {n : Nat} (h : w'.ownsRow base 3 1 v n (kvs l)) (hb : RowKit.Below base w w') : OwnedK w base l (.returned v) w' := by
  obtain ⟨A, c, rfl, h1, h2⟩ := own_slice h
  exact ⟨A, n, c, rfl, by have := own_len h; rw [kvs_len] at this; exact this, h1, h2, h, hb⟩

/-- append(owned, y). -/
theorem wpList_pushK {wb : World} {ops : Array Oper} {rest : List Oper} {o : Oper} {a : Act} {Q : Exit → Act → World → Prop} (hgd : o.guard = none) (s x : Operand)
    (ho : o.op = .call { callee := .builtin .append, args := #[s, x], argTypes := #[83, 83] }) (base n : Nat) (l : List Nat) (y : Nat) (v : Value) (hs : a.eval s = v) (hx : a.eval x = .slice (some ⟨wb.heap.size, 0, none⟩) 1 1)
    (hown : wb.ownsRow base 3 1 v n (kvs l)) (hn : n ≤ 1048576) (hbase : base ≤ wb.heap.size)
    (h : ∀ v' w', w'.ownsRow base 3 1 v' (n + 1) (kvs (l ++ [y])) → RowKit.Below base wb w' → wpList Tryd.prog ops Q rest (a.put o.dst v') w') :
    wpList Tryd.prog ops Q (o :: rest) a (wb.alloc (.cells #[.int .i64 (y : Int)] 3)) := by
  obtain ⟨i0, hi, e0⟩ := Option.map_eq_some_iff.1 Tryd.infoI
  have e1 := Prod.mk.inj e0
  have e2 := Prod.mk.inj e1.2
  have hb : RowKit.Below base wb (wb.alloc (.cells #[.int .i64 (y : Int)] 3)) := (RowKit.Below.refl _ _).alloc hbase _
  have hown2 := own_below hown ((RowKit.Below.refl _ _).alloc (Nat.le_refl _) (.cells #[.int .i64 (y : Int)] 3))
  refine wpList_append_lstK hgd s x 83 ho base 1 (by decide) 3 i0 (.int .i64 0) 8 Tryd.underlying83 hi e1.1 e2.1 e2.2 rfl v n (kvs l) hs hown2 (wb.heap.size + 1) (some ⟨wb.heap.size, 0, none⟩) 1 1 [.int .i64 (y : Int)] hx rfl
    (lies_new wb #[.int .i64 (y : Int)] 3) (by intro u hu; simp at hu; subst hu; rfl) (by unfold maxLen; omega) (by omega) (by simp; omega) ?_
  intro v' w' h1 _ h3 _
  refine h v' w' ?_ (hb.trans h3)
  rw [kvs_append]
  exact h1

theorem msP_there {m : List Bool} {f j : Nat} (h : m.getD j true = true) : msP m f j = false := by unfold msP; rw [h]; simp

theorem upTo_le (m : List Bool) (f r : Nat) : (upTo m f r).length ≤ m.length := by
  rcases Nat.le_total r m.length with h | h
  · exact Nat.le_trans (upTo_len m f r) h
  · rw [upTo_out h]; exact upTo_len m f _

theorem upTo_start {m : List Bool} {f r : Nat} (h : NxtP m f r) : upTo m f r = [] :=
  upTo_skip (Nat.zero_le _) fun j _ h2 => by
    rcases Nat.lt_or_ge j f with h3 | h3
    · unfold msP; simp; omega
    · exact msP_there (h.there j h3 h2)

theorem upTo_step {m : List Bool} {f r r' : Nat} (hf : f ≤ r) (hr : r < m.length) (hg : m.getD r false = false) (h : NxtP m (r + 1) r') : upTo m f r' = upTo m f r ++ [r] := by
  rw [upTo_skip h.le fun j h1 h2 => msP_there (h.there j h1 h2)]
  exact upTo_yes (by rw [msP_in hr, hg]; simp [hf])

section
variable {w w' : World} {p q : Nat} {m : List Bool} {ws : List Nat}

set_option maxHeartbeats 1600000 in
theorem missing_any (h : SetAt w p q m) (hT : Tab w) (fz : Int) (f : Nat) (hf : fz.toNat = f) (most : Int) :
    Calls Tryd.prog 35 #[.pointer (some ⟨p, 0, none⟩), .int .i64 fz, .int .i64 most] w fun e w' => OwnedK w w.heap.size (missL m f most) e w' := by
  have H := Lib.hid h
  have HT := Lib.hid hT
  have hfit := h.lt.2.2.2
  have hN := fun (W : World) (hb : RowKit.Below w.heap.size w W) (i : Nat) => next_any (h.on hb) (hT.on hb) i
  have HN := Lib.hid hN
  have hM : max 0 fz = (f : Int) := by omega
  clear h hT hN hf
  have h0 := HN.out w (RowKit.Below.refl _ _) f
  go_enter Tryd.func35, Tryd.ntmps35
  go_wp2_with (go_at_call 48; refine h0.mono ?_; rintro e w' ⟨⟨r0, rfl, hX⟩, rfl⟩)
  have HX := Lib.hid hX
  clear hX h0
  go_loopw [7, 8] (fun s7 s8 wr => ∃ (r n c : Nat) (A : Option Addr), s8 = .int .i64 (r : Int) ∧ s7 = .slice A n c ∧ n ≤ m.length ∧ f ≤ r ∧ RowKit.Below w'.heap.size w' wr ∧
      wr.ownsRow w'.heap.size 3 1 (.slice A n c) n (kvs (upTo m f r)) ∧ (upTo m f r).length = n ∧ n ≤ most.toNat ∧ (r < m.length → m.getD r false = false)) (fun _ s8 _ => m.length - (Lib.intOf s8).toNat)
  case atStart =>
    refine ⟨r0, 0, 0, none, rfl, rfl, Nat.zero_le _, HX.out.le, RowKit.Below.refl _ _, ?_, ?_, Nat.zero_le _, HX.out.gap⟩
    · rw [upTo_start HX.out]; exact World.ownsRow_nil _ _ _ _
    · rw [upTo_start HX.out]; rfl
  case round =>
    obtain ⟨r, n, c, A, rfl, rfl, hnm, hfr, hb, hown, hlen, hmo, hgap⟩ := hrel
    have HB := Lib.hid hb
    have HO := Lib.hid hown
    have HL := Lib.hid hlen
    have HG := Lib.hid hgap
    clear hb hown hlen hgap
    by_cases hr : r < m.length
    · have hp := place_yes (H.out.on HB.out) r hr
      by_cases hn : (n : Int) < most
      · have hd : decide ((n : Int) < most) = true := by simpa using hn
        have hg := HG.out hr
        have hbase := HB.out.size
        have ho := HO.out
        have hms : n + 1 ≤ most.toNat := by omega
        have hrB : (r : Int) < 1048576 := by omega
        clear hn
        go_wp2_with (first
          | (go_at_call 49; refine hp.mono ?_; rintro e w' ⟨rfl, rfl⟩)
          | (at_builtin; refine wpList_pushK rfl (.tmp 26) (.tmp 28) rfl _ n (upTo m f r) r _ rfl rfl ho ?a1 hbase ?_))
        case a1 => omega
        intro v2 w2 hown2 hb2
        have HB2 := Lib.hid (HB.out.trans hb2)
        have hx : Calls Tryd.prog 48 #[.pointer (some ⟨p, 0, none⟩), .int .i64 ((r : Int) + 1)] w2 fun e w' => (∃ r' : Nat, e = .returned (.int .i64 (r' : Int)) ∧ NxtP m (r + 1) r') ∧ w' = w2 := HN.out w2 HB2.out (r + 1)
        obtain ⟨A2, c2, rfl, hc1, hc2⟩ := own_slice hown2
        have HO2 := Lib.hid hown2
        clear hown2 hb2 ho hp HO
        go_wp2_with (go_at_call 48; refine hx.mono ?_; rintro e w' ⟨⟨r2, rfl, hX⟩, rfl⟩)
        have e := upTo_step hfr hr hg hX
        have hl2 : (upTo m f r2).length = n + 1 := by rw [e, List.length_append, HL.out]; rfl
        refine ⟨⟨r2, n + 1, c2, A2, rfl, rfl, ?_, ?_, HB2.out, ?_, hl2, hms, hX.gap⟩, ?_⟩
        · rw [← hl2]; exact upTo_le m f r2
        · have := hX.le; omega
        · rw [e]; exact HO2.out
        · have := hX.le; simp [Lib.intOf]; omega
      · have HE := Lib.hid (miss_most (m := m) (f := f) (r := r) (most := most) (Nat.le_of_lt hr) (by have := HL.out; omega))
        have hd : decide ((n : Int) < most) = false := by simpa using hn
        go_wp2_with (go_at_call 49; refine hp.mono ?_; rintro e w' ⟨rfl, rfl⟩)
        go_ret
        rw [HE.out] at HO
        exact OwnedK.of HO.out HB.out
    · have hp := place_no (H.out.on HB.out) r (by omega)
      have HE := Lib.hid (miss_all (m := m) (f := f) (r := r) (most := most) (by omega) (by have := HL.out; omega))
      clear hr
      go_wp2_with (go_at_call 49; refine hp.mono ?_; rintro e w' ⟨rfl, rfl⟩)
      go_ret
      rw [HE.out] at HO
      exact OwnedK.of HO.out HB.out

end

end Go.Proofs.YthkongnjokmmfaaDoor
