/- The walk of the document's Next (layer 5). -/
import Derived.Test.YtfkpffkickicmaaBtN
import Derived.Test.YtfkpffkickicmaaBtJ
namespace Go.Proofs.Ytfkpffkickicmaa
open Go.RowKit Go.Sort

def nowOf (base cs : List Nat) : List Nat := (List.range base.length).map fun j => num base j + num cs j

theorem nowOf_length (base cs : List Nat) : (nowOf base cs).length = base.length := by simp [nowOf]
theorem nowOf_at {base cs : List Nat} {i : Nat} (h : i < (nowOf base cs).length) : (nowOf base cs)[i] = num base i + num cs i := by simp [nowOf]
theorem nowOf_set {base cs : List Nat} {i : Nat} (hc : i < cs.length) : (nowOf base cs).set i (num base i + num cs i + 1) = nowOf base (cs.set i (num cs i + 1)) := by
  refine List.ext_getElem (by simp [nowOf_length]) fun j h1 h2 => ?_
  rw [List.getElem_set]
  by_cases e : i = j
  · subst e
    rw [if_pos rfl, nowOf_at, num_set, if_pos ⟨rfl, hc⟩]
    omega
  · rw [if_neg e, nowOf_at, nowOf_at, num_set, if_neg (fun h => e h.1)]
theorem nowOf_start (base : List Nat) (R : Nat) : nowOf base (startN base R).1 = base := by
  refine List.ext_getElem (by simp [nowOf_length]) fun j h1 h2 => ?_
  rw [nowOf_at, start_num, num_in h2]
  rfl

theorem outs_in {base cs : List Nat} {i : Nat} (h : 0 < num cs i) (hM : num cs i < 18446744073709551616) : ((rowOf base cs).take (i + 1)).filter hasIds = ((rowOf base cs).take i).filter hasIds ++ [runAt base cs i] := by
  have hi : i < cs.length := by
    rcases Nat.lt_or_ge i cs.length with h1 | h1
    · exact h1
    · rw [num_out h1] at h; omega
  rw [List.take_succ_eq_append_getElem (by rw [rowOf_length]; exact hi), List.filter_append, rowOf_at hi]
  have : hasIds (runAt base cs i) = true := by
    unfold hasIds
    have : (runAt base cs i).c = num cs i := by show num cs i % 18446744073709551616 = _; omega
    rw [this, decide_eq_false (by omega)]; rfl
  simp [this]
theorem outs_out {base cs : List Nat} {i : Nat} (h : num cs i = 0) : ((rowOf base cs).take (i + 1)).filter hasIds = ((rowOf base cs).take i).filter hasIds := by
  rcases Nat.lt_or_ge i cs.length with hi | hi
  · rw [List.take_succ_eq_append_getElem (by rw [rowOf_length]; exact hi), List.filter_append, rowOf_at hi]
    have : hasIds (runAt base cs i) = false := by
      unfold hasIds
      have : (runAt base cs i).c = 0 := by show num cs i % 18446744073709551616 = _; rw [h]
      rw [this]; rfl
    simp [this]
  · rw [List.take_of_length_le (by rw [rowOf_length]; omega), List.take_of_length_le (by rw [rowOf_length]; omega)]

theorem own_belowB {w w' : World} {base B : Nat} {e : TypeId} {size : Nat} {v : Value} {n : Nat} {xs : List Value} (h : w.ownsRow base e size v n xs) (hb : RowKit.Below B w w') (hlt : ∀ g, v.ownBlock = some g → g < B) : w'.ownsRow base e size v n xs := by
  refine ⟨h.1, ?_⟩
  rcases h.2 with hn | ⟨g, cap, cur, rfl, hbg, hg, rest⟩
  · exact .inl hn
  · exact .inr ⟨g, cap, cur, rfl, hbg, (hb.block g (hlt g rfl)).trans hg, rest⟩

theorem own_blk {b n c g : Nat} (h : (Value.slice (some ⟨b, 0, none⟩) n c).ownBlock = some g) : b = g := by simpa [Value.ownBlock] using h

/-- append([]uint64{}, a...), the block behind others. -/
theorem wpList_anewB {wb : World} {ops : Array Oper} {rest : List Oper} {o : Oper} {a : Act} {Q : Exit → Act → World → Prop} (hgd : o.guard = none) (s x : Operand)
    (ho : o.op = .call { callee := .builtin .append, args := #[s, x], argTypes := #[22, 22] }) (Bk : Nat) (hs : a.eval s = .slice (some ⟨Bk, 0, none⟩) 0 0) (hBk : Bk = wb.heap.size)
    (A : Option Addr) (n c B : Nat) (l : List Nat) (hx : a.eval x = .slice A n c) (hl : l.length = n) (hL : Lies wb B A (uvs l)) (hB : B ≤ wb.heap.size) (hn : n ≤ 1000)
    (h : ∀ v' w', w'.ownsRow wb.heap.size 40 1 v' n (uvs l) → RowKit.Below wb.heap.size wb w' → wpList Try.prog ops Q rest (a.put o.dst v') w') :
    wpList Try.prog ops Q (o :: rest) a (wb.alloc (.cells #[] 40)) := by
  subst hBk
  exact wpList_anew hgd s x ho hs A n c B l hx hl hL hB hn h

/-- What is put out so far, beside the vector. -/
def OutAt (w : World) (base cs : List Nat) (V : Value) (n : Nat) (L : List Rn) (v : Value) (wr : World) : Prop :=
  ∃ N, Hid (L.length = N) ∧ wr.ownsRow w.heap.size 43 3 v N (flat encRn L) ∧ RowKit.Below w.heap.size w wr ∧ wr.ownsRow w.heap.size 40 1 V n (uvs (nowOf base cs)) ∧ (V.ownBlock = none ∨ V.ownBlock ≠ v.ownBlock)

theorem OutAt.below {w wr : World} {base cs : List Nat} {V v : Value} {n : Nat} {L : List Rn} (h : OutAt w base cs V n L v wr) : RowKit.Below w.heap.size w wr := by
  obtain ⟨_, _, _, hb, _⟩ := h
  exact hb
theorem OutAt.now {w wr : World} {base cs : List Nat} {V v : Value} {n : Nat} {L : List Rn} (h : OutAt w base cs V n L v wr) : wr.ownsRow w.heap.size 40 1 V n (uvs (nowOf base cs)) := by
  obtain ⟨_, _, _, _, hv, _⟩ := h
  exact hv
theorem OutAt.on {w wr w' : World} {base cs : List Nat} {V v : Value} {n : Nat} {L : List Rn} (h : OutAt w base cs V n L v wr) (hb : RowKit.Below wr.heap.size wr w') : OutAt w base cs V n L v w' := by
  obtain ⟨N, h1, h2, h3, h4, h5⟩ := h
  exact ⟨N, h1, own_below h2 hb, h3.trans (hb.mono h3.size), own_below h4 hb, h5⟩
theorem OutAt.owned {w wr : World} {base cs : List Nat} {V v : Value} {n : Nat} {L : List Rn} (h : OutAt w base cs V n L v wr) : OwnRns w w.heap.size L (.returned v) wr := by
  obtain ⟨N, h1, h2, h3, _⟩ := h
  exact OwnRns.of h1.out h2 h3

theorem OutAt.push {w wb : World} {base cs : List Nat} {V v : Value} {n : Nat} {L : List Rn} (h : OutAt w base cs V n L v wb) (y : Rn) (yf ya yc : Int) (hyf : (y.f : Int) = yf) (hya : (y.a : Int) = ya) (hyc : (y.c : Int) = yc) (hn : L.length ≤ 1000) :
    ∃ v' w', (Builtin.append_ #[23, 23] 23 #[v, .slice (some ⟨wb.heap.size, 0, none⟩) 1 1]).run Try.prog (wb.alloc (.cells #[.int .u8 yf, .int .u64 ya, .int .u64 yc] 43)) = .ok v' w' ∧ OutAt w base cs V n (L ++ [y]) v' w' := by
  subst hyf hya hyc
  obtain ⟨i0, hi, hz0, hz1, hz2⟩ := info_parts Try.infoRun
  obtain ⟨N, hln, hown, hb, hnow, hne⟩ := h
  have hn' : N ≤ 1000 := by rw [← hln.out]; exact hn
  have hbA : RowKit.Below w.heap.size w (wb.alloc (.cells #[.int .u8 (y.f : Int), .int .u64 (y.a : Int), .int .u64 (y.c : Int)] 43)) := hb.alloc hb.size _
  have hownA := hown.alloc (.cells #[.int .u8 (y.f : Int), .int .u64 (y.a : Int), .int .u64 (y.c : Int)] 43)
  have hnowA := hnow.alloc (.cells #[.int .u8 (y.f : Int), .int .u64 (y.a : Int), .int .u64 (y.c : Int)] 43)
  obtain ⟨v8, w8, hrun, hown8, hg8, hv8⟩ := run_append_lstK (P := Try.prog) w.heap.size 3 (by decide) 23 23 43 i0 (.agg #[.int .u8 0, .int .u64 0, .int .u64 0]) 24 Try.underlying23 hi hz0 hz1 hz2 rfl _ N _ hownA _ _ 1 1 [.int .u8 (y.f : Int), .int .u64 (y.a : Int), .int .u64 (y.c : Int)] rfl (lies_new wb #[.int .u8 (y.f : Int), .int .u64 (y.a : Int), .int .u64 (y.c : Int)] 43) (by simp [Value.oneCell']) (by unfold maxLen; omega) (by omega) hbA.size
  refine ⟨v8, w8, hrun, N + 1, by show _ = _; rw [List.length_append, hln.out]; rfl, ?_, hbA.grown hg8 hbA.size (fun q hq => (hownA.lt q hq).1), hnowA.kept hg8 hne, ?_⟩
  · rw [flat_append]
    exact hown8
  · rcases hne with h0 | h0
    · exact .inl h0
    · rcases hv8 with h1 | h1
      · right; rw [h1]; exact h0
      · right
        rw [h1]
        intro h2
        have := (hnowA.lt _ h2).2
        omega

def TwoC (g i b o X Y : Nat) (W : World) : Prop := W.cell? ⟨g, i, none⟩ = some (.int .u64 (X : Int)) ∧ W.cell? ⟨b, o, none⟩ = some (.int .u64 (Y : Int))

def bitOf : Value → Nat
  | .bool true => 1
  | _ => 0

/-- The vector behind i senders of a pass. -/
def NowAt (base held : List Nat) (A : Option Addr) (n c B0 : Nat) (w1 : World) (s0 : List Nat × Nat) (i lf : Nat) (wr : World) : Prop :=
  (passN base held s0 i).2 = lf ∧ wr.ownsRow B0 40 1 (.slice A n c) n (uvs (nowOf base (passN base held s0 i).1)) ∧ RowKit.Below B0 w1 wr

def NowP (base held : List Nat) (m R : Nat) (A : Option Addr) (n c B0 : Nat) (w1 : World) (k lf : Nat) (mb : Bool) (wr : World) : Prop :=
  (mb = false → passN base held (passes base held m (startN base R) k) m = passes base held m (startN base R) k) ∧ (passes base held m (startN base R) k).2 = lf ∧ wr.ownsRow B0 40 1 (.slice A n c) n (uvs (nowOf base (passes base held m (startN base R) k).1)) ∧ RowKit.Below B0 w1 wr

set_option maxHeartbeats 6400000 in
set_option maxRecDepth 100000 in
theorem refNext_any (A : Option Addr) (n c : Nat) (base : List Nat) (A2 : Option Addr) (n2 c2 : Nat) (held : List Nat) (most : Int) (w : World) (hn : n ≤ 1000) (hl : base.length = n) (h : Lies w w.heap.size A (uvs base)) (hu : ∀ x ∈ base, x < 18446744073709551616)
    (hl2 : held.length = n2) (h2 : Lies w w.heap.size A2 (uvs held)) :
    Calls Try.prog 20 #[.slice A n c, .slice A2 n2 c2, .int .i64 most] w (OwnRns w w.heap.size (nextL base held (roomN most))) := by
  have mixed := mixedOrders
  obtain ⟨m, hm⟩ : ∃ m, m = min n 64 := ⟨_, rfl⟩
  have hmn : m ≤ n := by omega
  have hm64 : m ≤ 64 := by omega
  have hmd : m = n ∨ m = 64 := by omega
  have hR4 := roomN_le most
  obtain ⟨L0, hL0⟩ : ∃ L0 : Int, L0 = if 4096 < most then 4096 else most := ⟨_, rfl⟩
  have hRL : L0.toNat = roomN most := by rw [hL0]; unfold roomN; split <;> omega
  have hL4 : L0 ≤ 4096 := by rw [hL0]; split <;> omega
  generalize roomN most = R at hR4 hRL ⊢
  have hst : (startN base R).1.length = m := by unfold startN; simp; omega
  have HAT : Hid (∀ (i : Nat) W', RowKit.Below w.heap.size w W' → Calls Try.prog 22 #[.slice A2 n2 c2, .int .i64 (i : Int)] W' fun e w' => e = .returned (.int .u64 (num held i : Int)) ∧ W' = w') := fun i W' hW => refAt_nat A2 n2 c2 i _ held W' hl2 (h2.below hW)
  have HNX : Hid (∀ k, k ≤ 4096 → passN base held (passes base held m (startN base R) k) m = passes base held m (startN base R) k → nextL base held R = (rowOf base (passes base held m (startN base R) k).1).filter hasIds) := fun k hk hfix => by
    unfold nextL endN
    rw [hl, ← hm, passes_end hfix hk]
  have HLN : Hid (∀ k, (passes base held m (startN base R) k).1.length = m) := fun k => by rw [passes_length, hst]
  have HGD : Hid (∀ k, Good base held (passes base held m (startN base R) k)) := fun k => passes_good (start_good base held R) k
  have HSM : Hid (∀ k, Small (passes base held m (startN base R) k) R) := fun k => passes_small (start_small base R) k
  have HZ : Hid (∀ k, (passes base held m (startN base R) k).2 = 0 → passN base held (passes base held m (startN base R) k) m = passes base held m (startN base R) k) := fun k hk => pass_none hk m
  have HBU : Hid (∀ i, num base i < 18446744073709551616) := fun i => num_lt hu i
  have HL := Lib.hid hl
  have HL0 := Lib.hid hL0
  have HRL := Lib.hid hRL
  have HMD := Lib.hid hmd
  have hOut := World.ownsRow_made (base := w.heap.size) (size := 3) (e := 43) w #[] 0 (Nat.le_refl _) (Nat.zero_le _) rfl
  have hbo : RowKit.Below w.heap.size w (w.alloc (.cells #[] 43)) := (RowKit.Below.refl _ _).alloc (Nat.le_refl _) _
  have hLb := h.below hbo
  have HS1 : Hid ((w.alloc (.cells #[] 43)).heap.size = w.heap.size + 1) := by show _ = _; simp
  clear hl hu hl2 h2 hst hm hL0 hRL hmd
  by_cases h96 : 4096 < most
  all_goals
    have HR0 : Hid (if 4096 < most then R = 4096 else R = most.toNat) := by
      show if 4096 < most then R = 4096 else R = most.toNat
      have h1 := HL0.out
      have h2 := HRL.out
      split
      · next hx => rw [if_pos hx] at h1; omega
      · next hx => rw [if_neg hx] at h1; omega
    clear HL0 HRL hL4
    go_enter Try.func20, Try.ntmps20
    go_wp2_with (at_builtin; refine wpList_anewB rfl (.tmp 14) (.tmp 15) rfl _ rfl (by simp) A n c _ base rfl HL.out hLb (by simp) hn ?_)
    intro v1 w1 hown hb1
    obtain ⟨A1, c1, rfl, hc1, hc2⟩ := own_slice hown
    (try rw [HS1.out] at hown)
    (try rw [HS1.out] at hb1)
    have hb01 : RowKit.Below w.heap.size w w1 := hbo.trans (hb1.mono (by omega))
    have hOut1 := Lib.hid (own_belowB hOut hb1 (fun g hg => by have := own_blk hg; omega))
    have HNOW : Hid (NowP base held m R A1 n c1 (w.heap.size + 1) w1 0 R true w1) := ⟨(fun h => by cases h), rfl, by show w1.ownsRow (w.heap.size + 1) _ 1 _ n (uvs (nowOf base (startN base R).1)); rw [nowOf_start]; exact hown, RowKit.Below.refl _ _⟩
    clear hown hb1 hOut hbo hLb
    go_wp2
    go_loopw [9, 10, 11] (fun s9 s10 _ wr => ∃ (k lf : Nat) (L : Int) (mb : Bool), s9 = .int .i64 L ∧ lf = L.toNat ∧ L ≤ 4096 ∧ s10 = .bool mb ∧ k + lf ≤ R ∧ NowP base held m R A1 n c1 (w.heap.size + 1) w1 k lf mb wr) (fun s9 s10 _ _ => (intOf s9).toNat + bitOf s10)
    case atStart =>
      have h0 := HR0.out
      first
      | (rw [if_pos (by omega)] at h0; exact ⟨0, R, 4096, true, rfl, by omega, by omega, rfl, by omega, HNOW.out⟩)
      | (rw [if_neg (by omega)] at h0; exact ⟨0, R, most, true, rfl, by omega, by omega, rfl, by omega, HNOW.out⟩)
    case round =>
      clear HNOW HR0
      obtain ⟨k, lf, L, mb, rfl, hLl, hL4, rfl, hkl, hnp⟩ := hrel
      cases mb with
      | false =>
        have hfx := hnp.1 rfl
        have HFX2 := Lib.hid hfx
        have hcsl := HLN.out k
        have hgood := HGD.out k
        have hsml := HSM.out k
        have hnx := HNX.out k (by omega) hfx
        obtain ⟨_, hlf2, hnow, hbr⟩ := hnp
        generalize passes base held m (startN base R) k = s at hcsl hgood hsml hnx hnow hlf2 HFX2
        obtain ⟨cs, lf2⟩ := s
        dsimp only at hcsl hnx hnow hlf2
        have hO3 := own_belowB hOut1.out hbr (fun g hg => by have := own_blk hg; omega)
        have hbW : RowKit.Below w.heap.size w wr := hb01.trans (hbr.mono (by omega))
        have hne : (Value.slice A1 n c1).ownBlock = none ∨ (Value.slice A1 n c1).ownBlock ≠ (Value.slice (some ⟨w.heap.size, 0, none⟩) 0 0).ownBlock := by
          rcases hob : (Value.slice A1 n c1).ownBlock with _ | g
          · exact .inl rfl
          · right
            have := (hnow.lt g hob).1
            intro h0
            have := own_blk h0.symm
            omega
        have HSTART := Lib.hid (show OutAt w base cs (.slice A1 n c1) n [] (.slice (some ⟨w.heap.size, 0, none⟩) 0 0) wr from ⟨0, rfl, hO3, hbW, own_base hnow (by omega), hne⟩)
        have HNXT := Lib.hid hnx
        have HCSL := Lib.hid hcsl
        have HGOOD := Lib.hid hgood
        have HSML : Hid (∀ j, num cs j ≤ 4096) := fun j => by have := hsml j; dsimp only at this; omega
        generalize wr = w5 at HSTART
        clear hfx hcsl hgood hsml hnx hnow hbr hO3 hbW hne hlf2 HFX2
        go_wp2
        go_loopw [7, 12, 66] (fun s7 _ s66 wr => ∃ i : Nat, i ≤ n ∧ s66 = .int .i64 i ∧ OutAt w base cs (.slice A1 n c1) n (((rowOf base cs).take i).filter hasIds) s7 wr) (fun _ _ s66 _ => n - (intOf s66).toNat)
        case atStart => exact ⟨0, Nat.zero_le _, rfl, HSTART.out⟩
        case round =>
          clear HSTART
          obtain ⟨i, hi, rfl, hout⟩ := hrel
          by_cases hlt : i < n
          · have hib : i < base.length := by rw [HL.out]; exact hlt
            have hb := hout.below
            have hnow := hout.now
            obtain ⟨bb, off, rfl, hbl, hc⟩ := (h.below hb).at_ (uvs_at hib)
            obtain ⟨gg, cap, hv, hbg, hgl⟩ := hnow.form (by omega)
            obtain ⟨rfl, rfl⟩ : A1 = some ⟨gg, 0, none⟩ ∧ c1 = cap := by injection hv with e1 _ e3; exact ⟨e1, e3⟩
            have hin : i < (nowOf base cs).length := by rw [nowOf_length]; exact hib
            have hcn := hnow.cellAt i (by omega)
            rw [uvs_at hin, nowOf_at] at hcn
            have hbase := HBU.out i
            have hcs4 := HSML.out i
            have hgd := HGOOD.out i
            dsimp only at hgd
            have K1 : Hid (0 < num cs i → ((rowOf base cs).take (i + 1)).filter hasIds = ((rowOf base cs).take i).filter hasIds ++ [runAt base cs i]) := fun h0 => outs_in h0 (by omega)
            have K2 : Hid (num cs i = 0 → ((rowOf base cs).take (i + 1)).filter hasIds = ((rowOf base cs).take i).filter hasIds) := fun h0 => outs_out h0
            have hlenL : Hid ((((rowOf base cs).take i).filter hasIds).length ≤ 1000) := by
              have h1 := List.length_filter_le hasIds ((rowOf base cs).take i)
              rw [List.length_take] at h1
              exact Nat.le_trans h1 (by omega)
            have hi64 : 0 < num cs i → i < 64 := fun h0 => by
              rcases Nat.lt_or_ge i cs.length with h1 | h1
              · rw [HCSL.out] at h1; omega
              · rw [num_out h1] at h0; omega
            have hy0 : ((runAt base cs i).f : Int) = ((i % 256 : Nat) : Int) := rfl
            have hy1 : ((runAt base cs i).a : Int) = (((num base i + 1) % 18446744073709551616 : Nat) : Int) := rfl
            have hy2 : ((runAt base cs i).c : Int) = ((num cs i % 18446744073709551616 : Nat) : Int) := rfl
            generalize runAt base cs i = y at K1 hy0 hy1 hy2
            generalize ((rowOf base cs).take i).filter hasIds = cur at hout K1 K2 hlenL
            have hbw : bb < wr.heap.size := Nat.lt_of_lt_of_le hbl hb.size
            have HN2 : Hid (num base i = base[i]) := num_in hib
            have hc' : wr.cell? ⟨bb, off + i, none⟩ = some (.int .u64 (num base i : Int)) := by rw [HN2.out]; exact hc
            clear hc hv
            generalize num base i = Y at hcn hc' hbase hgd hy1
            generalize num cs i = q at hcn hcs4 hgd K1 K2 hi64 hy2
            have p0 := later_cell (w0 := wr) (b := bb) hbw hc'
            have p1 := later_cell (w0 := wr) (b := gg) hgl hcn
            by_cases hq : 0 < q
            · have hg2 := hgd hq
              have hi6 := hi64 hq
              have HE := Lib.hid (K1.out hq)
              have hXY : Y < Y + q := by omega
              have hX64 : Y + q ≤ 4611686018427387904 := hg2.2
              have e8 : IntKind.u8.wrap (i : Int) = (i : Int) := by simp [IntKind.wrap, IntKind.bits, IntKind.signed]; omega
              have ea : IntKind.u64.wrap ((Y : Int) + 1) = ((Y + 1 : Nat) : Int) := by rw [IntKind.wrap_u64]; omega
              have ec : IntKind.u64.wrap (((Y + q : Nat) : Int) - (Y : Int)) = (q : Int) := by rw [IntKind.wrap_u64]; omega
              have hy0' : (y.f : Int) = (i : Int) := by rw [hy0]; omega
              have hy1' : (y.a : Int) = ((Y + 1 : Nat) : Int) := by rw [hy1]; omega
              have hy2' : (y.c : Int) = (q : Int) := by rw [hy2]; omega
              generalize Y + q = X at hcn p1 hXY hX64 ec
              generalize ((Y + 1 : Nat) : Int) = Y1 at ea hy1'
              have HY := Lib.hid (And.intro hy0' (And.intro hy1' hy2'))
              have hdXY : decide (Y < X) = true := decide_eq_true hXY
              have HOUT := Lib.hid hout
              have HCC := Lib.hid (And.intro hc' hcn)
              have hiz : (i : Int) < (n : Int) := by omega
              have hb0 := hb
              clear hout hnow hgd hg2 hi64 hy0 hy1 hy2 hy0' hy1' hy2' K1 K2 hc' hcn hq
              go_wp2_with fail
              refine wp_region_later mixed (by kernel_rfl) ?_
              repeat (go_big_quiet_step (fail))
              refine wpQuiet_nil ?_
              intro _ hw'
              obtain ⟨p, rfl⟩ := hw'
              have hbp : RowKit.Below w.heap.size w p.w := hb0.trans (p.hb.mono hb0.size)
              have hout2 := HOUT.out.on p.hb
              have hc2' := p0 p
              have hcn2 := p1 p
              generalize p.w = w6 at hout2 hc2' hcn2 hbp ⊢
              have hdr : RowKit.Below w6.heap.size w6 w6.drew := (RowKit.Below.refl _ _).drew
              have hbl6 : bb < w6.heap.size := World.block_lt_of_cell? w6 _ hc2'
              have hgl6 : gg < w6.heap.size := World.block_lt_of_cell? w6 _ hcn2
              obtain ⟨v8, w8, hrun, hout8⟩ := (hout2.on hdr).push y (i : Int) Y1 (q : Int) HY.out.1 HY.out.2.1 HY.out.2.2 hlenL.out
              have hb8 := hout8.below
              have hn8 := hout8.now
              have hal : RowKit.Below w6.heap.size w6 (w6.drew.alloc (.cells #[.int .u8 (i : Int), .int .u64 Y1, .int .u64 (q : Int)] 43)) := hdr.alloc hdr.size _
              have hS0 : TwoC gg i bb (off + i) X Y w6.drew := ⟨(hdr.cell (p := ⟨gg, _, none⟩) hgl6).trans hcn2, (hdr.cell (p := ⟨bb, _, none⟩) hbl6).trans hc2'⟩
              have hS1 : TwoC gg i bb (off + i) X Y (w6.drew.alloc (.cells #[.int .u8 (i : Int), .int .u64 Y1, .int .u64 (q : Int)] 43)) := ⟨(hal.cell (p := ⟨gg, _, none⟩) hgl6).trans hcn2, (hal.cell (p := ⟨bb, _, none⟩) hbl6).trans hc2'⟩
              have hS8 : TwoC gg i bb (off + i) X Y w8 := by
                refine ⟨?_, ?_⟩
                · rw [hn8.cellAt i (by omega), uvs_at hin]
                  have h1 := hout2.now.cellAt i (by omega)
                  rw [uvs_at hin, hcn2] at h1
                  exact h1.symm
                · have h1 := (hb8.cell (p := ⟨bb, off + i, none⟩) hbl)
                  have h2 := (hbp.cell (p := ⟨bb, off + i, none⟩) hbl)
                  rw [h1, ← h2]
                  exact hc2'
              rw [← HE.out] at hout8
              have H8 := Lib.hid hout8
              have d0 : ∀ W, TwoC gg i bb (off + i) X Y W → W.cell? ⟨gg, i, none⟩ = some (.int .u64 (X : Int)) := fun W hW => hW.1
              have d1 : ∀ W, TwoC gg i bb (off + i) X Y W → W.cell? ⟨bb, off + i, none⟩ = some (.int .u64 (Y : Int)) := fun W hW => hW.2
              clear hout8 hn8 hb8 hal hout2 p0 p1 hc2' hcn2 HCC HOUT
              go_wp2_with fail
              refine wp_region_held_drew (S := fun W => TwoC gg i bb (off + i) X Y W) (by kernel_rfl) hS0 (fun hHeld => ?_)
              refine wpAnyH_takeAt (i := 0) (d := 78) (v := ?_) rfl rfl (by kernel_rfl) (by kernel_rfl) (by kernel_rfl) (fun _ _ _ h => h) (Or.inl ⟨by rfl, ?_⟩) hHeld ?_
              rotate_left
              · (intro _ hSw; go_simp; try with_reducible rfl)
              simp only [List.setIfInBounds_toArray, List.set_cons_zero, List.set_cons_succ]
              refine wpAnyH_takeAt (i := 1) (d := 79) (v := ?_) rfl rfl (by kernel_rfl) (by kernel_rfl) (by kernel_rfl) (fun _ _ _ h => h) (Or.inl ⟨by rfl, ?_⟩) hHeld ?_
              rotate_left
              · (intro _ hSw; go_simp; try with_reducible rfl)
              simp only [List.setIfInBounds_toArray, List.set_cons_zero, List.set_cons_succ]
              refine wpAnyH_takeAt (i := 2) (d := 80) (v := ?_) rfl rfl (by kernel_rfl) (by kernel_rfl) (by kernel_rfl) (fun _ _ _ h => h) (Or.inl ⟨by rfl, ?_⟩) hHeld ?_
              rotate_left
              · (intro _ hSw; go_simp; try with_reducible rfl)
              simp only [List.setIfInBounds_toArray, List.set_cons_zero, List.set_cons_succ]
              refine wpAnyH_takeAt (i := 3) (d := 81) (v := ?_) rfl rfl (by kernel_rfl) (by kernel_rfl) (by kernel_rfl) (fun _ _ _ h => h) (Or.inl ⟨by rfl, ?_⟩) hHeld ?_
              rotate_left
              · (intro _ hSw; go_simp; try with_reducible rfl)
              simp only [List.setIfInBounds_toArray, List.set_cons_zero, List.set_cons_succ]
              refine wpAnyH_takeAt (i := 4) (d := 82) (v := ?_) rfl rfl (by kernel_rfl) (by kernel_rfl) (by kernel_rfl) (fun _ _ _ h => h) (Or.inl ⟨by rfl, ?_⟩) hHeld ?_
              rotate_left
              · (intro _ hSw; go_simp; try with_reducible rfl)
              simp only [List.setIfInBounds_toArray, List.set_cons_zero, List.set_cons_succ]
              refine wpAnyH_takeAt (i := 5) (d := 83) (v := ?_) rfl rfl (by kernel_rfl) (by kernel_rfl) (by kernel_rfl) (fun _ _ _ h => h) (Or.inl ⟨by rfl, ?_⟩) hHeld ?_
              rotate_left
              · (intro _ hSw; go_simp; try with_reducible rfl)
              simp only [List.setIfInBounds_toArray, List.set_cons_zero, List.set_cons_succ]
              refine wpAnyH_takeAt (i := 6) (d := 84) (v := ?_) rfl rfl (by kernel_rfl) (by kernel_rfl) (by kernel_rfl) (fun _ _ _ h => h) (Or.inl ⟨by rfl, ?_⟩) hHeld ?_
              rotate_left
              · (intro _ hSw; go_simp; try with_reducible rfl)
              simp only [List.setIfInBounds_toArray, List.set_cons_zero, List.set_cons_succ]
              refine wpAnyH_takeAt (i := 7) (d := 85) (v := ?_) rfl rfl (by kernel_rfl) (by kernel_rfl) (by kernel_rfl) (fun _ _ _ h => h) (Or.inl ⟨by rfl, ?_⟩) hHeld ?_
              rotate_left
              · (intro _ hSw; go_simp; try with_reducible rfl)
              simp only [List.setIfInBounds_toArray, List.set_cons_zero, List.set_cons_succ]
              refine wpAnyH_takeAt (i := 8) (d := 86) (v := ?_) rfl rfl (by kernel_rfl) (by kernel_rfl) (by kernel_rfl) (fun _ _ _ h => h) (Or.inl ⟨by rfl, ?_⟩) hHeld ?_
              rotate_left
              · (intro _ hSw; go_simp; try with_reducible rfl)
              simp only [List.setIfInBounds_toArray, List.set_cons_zero, List.set_cons_succ]
              refine wpAnyH_takeAt (i := 9) (d := 87) (v := ?_) rfl rfl (by kernel_rfl) (by kernel_rfl) (by kernel_rfl) (fun _ _ _ h => h) (Or.inl ⟨by rfl, ?_⟩) hHeld ?_
              rotate_left
              · (intro _ hSw; go_simp; try with_reducible rfl)
              simp only [List.setIfInBounds_toArray, List.set_cons_zero, List.set_cons_succ]
              refine wpAnyH_takeAt (i := 10) (d := 88) (v := ?_) rfl rfl (by kernel_rfl) (by kernel_rfl) (by kernel_rfl) (fun _ _ _ h => h) (Or.inl ⟨by rfl, ?_⟩) hHeld ?_
              rotate_left
              · (intro _ hSw; go_simp; try with_reducible rfl)
              simp only [List.setIfInBounds_toArray, List.set_cons_zero, List.set_cons_succ]
              refine wpAnyH_takeAt (i := 11) (d := 89) (v := ?_) rfl rfl (by kernel_rfl) (by kernel_rfl) (by kernel_rfl) (fun _ _ _ h => h) (Or.inl ⟨by rfl, ?_⟩) hHeld ?_
              rotate_left
              · (intro _ hSw; go_simp; try with_reducible rfl)
              simp only [List.setIfInBounds_toArray, List.set_cons_zero, List.set_cons_succ]
              refine wpAnyH_takeAt (i := 12) (d := 90) (v := ?_) rfl rfl (by kernel_rfl) (by kernel_rfl) (by kernel_rfl) (fun _ _ _ h => h) (Or.inl ⟨by rfl, ?_⟩) hHeld ?_
              rotate_left
              · (intro _ hSw; go_simp; try with_reducible rfl)
              simp only [List.setIfInBounds_toArray, List.set_cons_zero, List.set_cons_succ]
              refine wpAnyH_takeAt (i := 13) (d := 91) (v := ?_) rfl rfl (by kernel_rfl) (by kernel_rfl) (by kernel_rfl) (fun _ _ _ h => h) (Or.inl ⟨by rfl, ?_⟩) hHeld ?_
              rotate_left
              · (intro _ hSw; go_simp; try with_reducible rfl)
              simp only [List.setIfInBounds_toArray, List.set_cons_zero, List.set_cons_succ]
              refine wpAnyH_takeAt (i := 14) (d := 92) (v := ?_) rfl rfl (by kernel_rfl) (by kernel_rfl) (by kernel_rfl) (fun _ _ _ h => h) (Or.inl ⟨by rfl, ?_⟩) hHeld ?_
              rotate_left
              · (intro _ hSw; go_simp; try with_reducible rfl)
              simp only [List.setIfInBounds_toArray, List.set_cons_zero, List.set_cons_succ]
              refine wpAnyH_takeAt (i := 15) (d := 93) (v := ?_) rfl rfl (by kernel_rfl) (by kernel_rfl) (by kernel_rfl) (fun _ _ _ h => h) (Or.inl ⟨by rfl, ?_⟩) hHeld ?_
              rotate_left
              · (intro _ hSw; go_simp; try with_reducible rfl)
              simp only [List.setIfInBounds_toArray, List.set_cons_zero, List.set_cons_succ]
              refine wpAnyH_takeAt (i := 16) (d := 94) (v := ?_) rfl rfl (by kernel_rfl) (by kernel_rfl) (by kernel_rfl) (fun _ _ _ h => h) (Or.inl ⟨by rfl, ?_⟩) hHeld ?_
              rotate_left
              · (intro _ hSw; go_simp; try with_reducible rfl)
              simp only [List.setIfInBounds_toArray, List.set_cons_zero, List.set_cons_succ]
              refine wpAnyH_takeAt (i := 17) (d := 95) (v := ?_) rfl rfl (by kernel_rfl) (by kernel_rfl) (by kernel_rfl) (fun _ _ _ h => h) (Or.inl ⟨by rfl, ?_⟩) hHeld ?_
              rotate_left
              · (intro _ hSw; go_simp; try with_reducible rfl)
              simp only [List.setIfInBounds_toArray, List.set_cons_zero, List.set_cons_succ]
              refine wpAnyH_ready (rs := [18]) (by kernel_rfl) (by simp) ?_
              refine AllReadyH.cons rfl (fun K hK => ?_) AllReadyH.nil
              go_simp
              refine hK.out _ _ hS1 (fun hHeld => ?_)
              clear hK K
              refine wpAnyH_ready (rs := [19]) (by kernel_rfl) (by simp) ?_
              refine AllReadyH.cons rfl (fun K hK => ?_) AllReadyH.nil
              refine wp_append_step (s := .tmp 78) (x := .tmp 96) (t := 23) rfl rfl rfl rfl hrun ?_
              go_simp
              refine hK.out _ _ hS8 (fun hHeld => ?_)
              clear hK K
              refine wpAnyH_takeAt (i := 20) (d := 7) (v := ?_) rfl rfl (by kernel_rfl) (by kernel_rfl) (by kernel_rfl) (fun _ _ _ h => h) (Or.inl ⟨by rfl, ?_⟩) hHeld ?_
              rotate_left
              · (intro _ hSw; go_simp; try with_reducible rfl)
              simp only [List.setIfInBounds_toArray, List.set_cons_zero, List.set_cons_succ]
              refine wpAnyH_done (by kernel_rfl) ?_ _
              clear d0 d1
              go_wp2
              go_roundw
              case rel => exact ⟨i + 1, by omega, by go_num, H8.out⟩
              case measure => simp [intOf]; omega
            · have hq0 : q = 0 := by omega
              have HE := Lib.hid (K2.out hq0)
              subst hq0
              have HOUT := Lib.hid hout
              have hiz : (i : Int) < (n : Int) := by omega
              simp only [Nat.add_zero] at p1 hcn
              have hb0 := hb
              clear hout hnow hgd hi64 hy0 hy1 hy2 K1 K2 hc' hcn hq
              go_wp2_with fail
              refine wp_region_later mixed (by kernel_rfl) ?_
              repeat (go_big_quiet_step (fail))
              refine wpQuiet_nil ?_
              intro _ hw'
              obtain ⟨p, rfl⟩ := hw'
              have hbp : RowKit.Below w.heap.size w p.w := hb0.trans (p.hb.mono hb0.size)
              have hout2 := HOUT.out.on p.hb
              rw [← HE.out] at hout2
              have H8 := Lib.hid hout2
              clear hout2 p0 p1
              go_wp2
              go_roundw
              case rel => exact ⟨i + 1, by omega, by go_num, H8.out⟩
              case measure => simp [intOf]; omega
          · have hfull : (rowOf base cs).take i = rowOf base cs := List.take_of_length_le (by rw [rowOf_length, HCSL.out]; omega)
            rw [hfull, ← HNXT.out] at hout
            have HO := Lib.hid hout
            clear hout hfull
            go_wp2
            go_ret
            exact HO.out.owned
      | true =>
       by_cases hLp : 0 < L
       · obtain rfl : L = (lf : Int) := by omega
         obtain ⟨_, hlf2, hnow, hbr⟩ := hnp
         have hlen := HLN.out k
         have HP0 : Hid (∀ (lf' : Nat) (wr' : World), NowAt base held A1 n c1 (w.heap.size + 1) w1 (passes base held m (startN base R) k) m lf' wr' → lf' < lf → NowP base held m R A1 n c1 (w.heap.size + 1) w1 (k + 1) lf' true wr') := fun lf' wr' ⟨q1, q2, q3⟩ _ => ⟨(fun h => by cases h), q1, q2, q3⟩
         have HP1 : Hid (∀ (wr' : World), NowAt base held A1 n c1 (w.heap.size + 1) w1 (passes base held m (startN base R) k) m lf wr' → NowP base held m R A1 n c1 (w.heap.size + 1) w1 k lf false wr') := fun wr' ⟨q1, q2, q3⟩ => by
           have hf := pass_same (q1.trans hlf2.symm)
           rw [hf] at q2
           exact ⟨fun _ => hf, hlf2, q2, q3⟩
         have HST : Hid (NowAt base held A1 n c1 (w.heap.size + 1) w1 (passes base held m (startN base R) k) 0 lf wr) := ⟨hlf2, hnow, hbr⟩
         have HNS : Hid (∀ i, passN base held (passes base held m (startN base R) k) (i + 1) = stepN base held i (passN base held (passes base held m (startN base R) k) i)) := fun i => rfl
         have HNL : Hid (∀ i, (passN base held (passes base held m (startN base R) k) i).1.length = m) := fun i => by rw [pass_length]; exact hlen
         have HNG : Hid (∀ i, Good base held (passN base held (passes base held m (startN base R) k) i)) := fun i => pass_good (HGD.out k) i
         have HNM : Hid (∀ i, Small (passN base held (passes base held m (startN base R) k) i) R) := fun i => pass_small (HSM.out k) i
         generalize passes base held m (startN base R) k = s0 at HP0 HP1 HST HNS HNL HNG HNM
         generalize wr = w5 at HST
         have hlfp : 0 < lf := by omega
         have hlf4 : lf ≤ 4096 := by omega
         clear hlf2 hnow hbr hlen hLl hL4 hLp HNX HLN HGD HSM HZ hOut1
         go_wp2
         go_loopw [9, 10, 11] (fun s9 s10 s11 wr => ∃ (i lf' : Nat), i ≤ m ∧ s11 = .int .i64 i ∧ s9 = .int .i64 lf' ∧ lf' ≤ lf ∧ s10 = .bool (decide (lf' < lf)) ∧ NowAt base held A1 n c1 (w.heap.size + 1) w1 s0 i lf' wr) (fun _ _ s11 _ => m - (intOf s11).toNat)
         case atStart => exact ⟨0, lf, Nat.zero_le _, rfl, rfl, Nat.le_refl _, by rw [decide_eq_false (by omega)], HST.out⟩
         case round =>
           clear HST
           obtain ⟨i, lf', hi, rfl, rfl, hlle, rfl, hat⟩ := hrel
           by_cases hlt : i < m
           · have hin : i < n := by omega
             have hi6 : i < 64 := by omega
             obtain ⟨q1, hnow, hbr⟩ := hat
             have hln := HNL.out i
             have hgd := HNG.out i
             have hsm := HNM.out i
             have hns := HNS.out i
             have HNX1 : Hid (∀ lf2 wr', (stepN base held i (passN base held s0 i)).2 = lf2 → wr'.ownsRow (w.heap.size + 1) 40 1 (.slice A1 n c1) n (uvs (nowOf base (stepN base held i (passN base held s0 i)).1)) → RowKit.Below (w.heap.size + 1) w1 wr' → NowAt base held A1 n c1 (w.heap.size + 1) w1 s0 (i + 1) lf2 wr') := fun lf2 wr' h1 h2 h3 => ⟨by rw [hns]; exact h1, by rw [hns]; exact h2, h3⟩
             generalize passN base held s0 i = s at q1 hnow hln hgd hsm HNX1
             obtain ⟨cs, lfx⟩ := s
             dsimp only at q1 hnow hln
             subst q1
             have hic : i < cs.length := by rw [hln]; exact hlt
             have hib : i < (nowOf base cs).length := by rw [nowOf_length, HL.out]; exact hin
             obtain ⟨gg, cap, hv, hbg, hgl⟩ := hnow.form (by omega)
             obtain ⟨rfl, rfl⟩ : A1 = some ⟨gg, 0, none⟩ ∧ c1 = cap := by injection hv with e1 _ e3; exact ⟨e1, e3⟩
             have hcn := hnow.cellAt i (by omega)
             rw [uvs_at hib, nowOf_at] at hcn
             have hcs4 : num cs i ≤ 4096 := by have := hsm i; dsimp only at this; omega
             have hset := nowOf_set (base := base) hic
             have hmore := moreB_iff base held i (num cs i)
             have hs1 : 0 < lfx → moreB base held i (num cs i) = true → stepN base held i (cs, lfx) = (cs.set i (num cs i + 1), lfx - 1) := fun h1 h2 => step_yes h1 h2
             have hs2 : ¬ (0 < lfx ∧ moreB base held i (num cs i) = true) → stepN base held i (cs, lfx) = (cs, lfx) := fun h1 => step_no h1
             have HAi := Lib.hid (HAT.out i)
             have hbW : RowKit.Below w.heap.size w wr := hb01.trans (hbr.mono (by omega))
             have HA2 : Hid (∀ p : Later wr, Calls Try.prog 22 #[.slice A2 n2 c2, .int .i64 (i : Int)] p.w fun e w' => e = .returned (.int .u64 (num held i : Int)) ∧ p.w = w') := fun p => HAi.out p.w (hbW.trans (p.hb.mono hbW.size))
             generalize moreB base held i (num cs i) = mo at hmore hs1 hs2
             generalize num held i = hv' at hmore HA2
             have HMO := Lib.hid hmore
             have HS1' := Lib.hid hs1
             have HS2' := Lib.hid hs2
             have HSET := Lib.hid hset
             clear hv hmore hs1 hs2 hset hns hgd hsm HAi
             generalize num base i + num cs i = X at hcn HMO HSET
             have p1 := later_cell (w0 := wr) (b := gg) hgl hcn
             have HNOW := Lib.hid hnow
             have hiz : (i : Int) < (n : Int) := by omega
             have hb0 := hbW
             clear hnow
             go_wp2_with fail
             by_cases hl0 : 0 < lfx
             · have hdl : decide (0 < lfx) = true := decide_eq_true hl0
               by_cases hX1 : X < hv'
               · have hd1 : decide (X < hv') = true := decide_eq_true hX1
                 by_cases hX2 : X < 4611686018427387904
                 · have HD2 : Hid (decide ((X : Int) < 4611686018427387904) = true) := decide_eq_true (by omega)
                   have HD2n : Hid (decide (X < 4611686018427387904) = true) := decide_eq_true hX2
                   have hst := HS1'.out hl0 (HMO.out.2 ⟨hX1, hX2⟩)
                   have es : IntKind.u64.wrap ((X : Int) + 1) = ((X + 1 : Nat) : Int) := by rw [IntKind.wrap_u64]; omega
                   have hd3 : decide (lfx - 1 < lf) = true := decide_eq_true (by omega)
                   have HX2 := Lib.hid hX2
                   have HST2 := Lib.hid hst
                   clear hX2 hst
                   refine wp_region_later mixed (by kernel_rfl) ?_
                   repeat (go_big_quiet_step ((go_at_call 22; exact later_same (HA2.out _))))
                   refine wpQuiet_nil ?_
                   intro _ hw'
                   obtain ⟨p, rfl⟩ := hw'
                   have hbp : RowKit.Below w.heap.size w p.w := hb0.trans (p.hb.mono hb0.size)
                   (try rw [HD2.out])
                   (try rw [HD2n.out])
                   have hown2 := own_below HNOW.out p.hb
                   have hbr2 : RowKit.Below (w.heap.size + 1) w1 p.w := hbr.trans (p.hb.mono (Nat.le_trans (by have := hbg; omega) (Nat.le_of_lt hgl)))
                   have hc3 := p1 p
                   have hf3 := hown2.frozenAt i
                   have hst3 := (hown2.stored i (.int .u64 ((X + 1 : Nat) : Int))).1
                   rw [← uvs_set, HSET.out] at hst3
                   have hbr3 := hbr2.setCell (p := ⟨gg, i, none⟩) hbg (.int .u64 ((X + 1 : Nat) : Int))
                   have HM := Lib.hid (HNX1.out (lfx - 1) _ (by rw [HST2.out]) (by rw [HST2.out]; exact hst3) hbr3)
                   generalize p.w = w6 at hc3 hf3 HM ⊢
                   generalize ((X + 1 : Nat) : Int) = X1 at es HM
                   have el : IntKind.i64.wrap ((lfx : Int) - 1) = ((lfx - 1 : Nat) : Int) := by rw [IntKind.wrap_i64]; omega
                   clear hown2 hst3 hbr3 p1 hbp hbr2
                   go_wp2
                   go_roundw
                   case rel => exact ⟨i + 1, lfx - 1, by omega, by go_num, by first | rfl | (congr 1; omega), by omega, by rw [hd3], HM.out⟩
                   case measure => simp [intOf]; omega
                 · have HD2 : Hid (decide ((X : Int) < 4611686018427387904) = false) := decide_eq_false (by omega)
                   have HD2n : Hid (decide (X < 4611686018427387904) = false) := decide_eq_false hX2
                   have HST2 := Lib.hid (HS2'.out (fun h0 => hX2 (HMO.out.1 h0.2).2))
                   have HX2 := Lib.hid hX2
                   clear hX2
                   refine wp_region_later mixed (by kernel_rfl) ?_
                   repeat (go_big_quiet_step ((go_at_call 22; exact later_same (HA2.out _))))
                   refine wpQuiet_nil ?_
                   intro _ hw'
                   obtain ⟨p, rfl⟩ := hw'
                   have hbp : RowKit.Below w.heap.size w p.w := hb0.trans (p.hb.mono hb0.size)
                   (try rw [HD2.out])
                   (try rw [HD2n.out])
                   have HM := Lib.hid (HNX1.out lfx p.w (by rw [HST2.out]) (by rw [HST2.out]; exact own_below HNOW.out p.hb) (hbr.trans (p.hb.mono (Nat.le_trans (by have := hbg; omega) (Nat.le_of_lt hgl)))))
                   go_wp2
                   go_roundw
                   case rel => exact ⟨i + 1, lfx, by omega, by go_num, rfl, hlle, rfl, HM.out⟩
                   case measure => simp [intOf]; omega
               · have hd1 : decide (X < hv') = false := decide_eq_false hX1
                 have HST2 := Lib.hid (HS2'.out (fun h0 => hX1 (HMO.out.1 h0.2).1))
                 refine wp_region_later mixed (by kernel_rfl) ?_
                 repeat (go_big_quiet_step ((go_at_call 22; exact later_same (HA2.out _))))
                 refine wpQuiet_nil ?_
                 intro _ hw'
                 obtain ⟨p, rfl⟩ := hw'
                 have hbp : RowKit.Below w.heap.size w p.w := hb0.trans (p.hb.mono hb0.size)
                 have HM := Lib.hid (HNX1.out lfx p.w (by rw [HST2.out]) (by rw [HST2.out]; exact own_below HNOW.out p.hb) (hbr.trans (p.hb.mono (Nat.le_trans (by have := hbg; omega) (Nat.le_of_lt hgl)))))
                 go_wp2
                 go_roundw
                 case rel => exact ⟨i + 1, lfx, by omega, by go_num, rfl, hlle, rfl, HM.out⟩
                 case measure => simp [intOf]; omega
             · have hl00 : lfx = 0 := by omega
               subst hl00
               have HST2 := Lib.hid (HS2'.out (fun h0 => hl0 h0.1))
               refine wp_region_later mixed (by kernel_rfl) ?_
               repeat (go_big_quiet_step ((go_at_call 22; exact later_same (HA2.out _))))
               refine wpQuiet_nil ?_
               intro _ hw'
               obtain ⟨p, rfl⟩ := hw'
               have hbp : RowKit.Below w.heap.size w p.w := hb0.trans (p.hb.mono hb0.size)
               have HM := Lib.hid (HNX1.out 0 p.w (by rw [HST2.out]) (by rw [HST2.out]; exact own_below HNOW.out p.hb) (hbr.trans (p.hb.mono (Nat.le_trans (by have := hbg; omega) (Nat.le_of_lt hgl)))))
               go_wp2
               go_roundw
               case rel => exact ⟨i + 1, 0, by omega, by go_num, rfl, hlle, rfl, HM.out⟩
               case measure => simp [intOf]; omega
           · have him : i = m := by omega
             have HTST : Hid (i < n → ¬ i < 64) := fun h1 => by have := HMD.out; omega
             rw [him] at hat
             have HFIN : Hid (if lf' < lf then NowP base held m R A1 n c1 (w.heap.size + 1) w1 (k + 1) lf' true wr else NowP base held m R A1 n c1 (w.heap.size + 1) w1 k lf false wr) := by
               show if lf' < lf then _ else _
               split
               · next hx => exact HP0.out lf' wr hat hx
               · next hx =>
                 have : lf' = lf := by omega
                 subst this
                 exact HP1.out wr hat
             clear hat him HP0 HP1
             by_cases hin : i < n
             all_goals
               (try have hi6 := HTST.out hin)
               by_cases hdd : lf' < lf
               · have hd3 : decide (lf' < lf) = true := decide_eq_true hdd
                 have HF2 := Lib.hid HFIN.out
                 clear HFIN
                 go_wp2
                 go_roundw
                 case rel =>
                   have h0 := HF2.out
                   rw [if_pos hdd] at h0
                   exact ⟨k + 1, lf', (lf' : Int), true, rfl, by omega, by omega, by rw [hd3], by omega, h0⟩
                 case measure => simp [intOf, bitOf, hd3]; omega
               · have hd3 : decide (lf' < lf) = false := decide_eq_false hdd
                 have hleq : lf' = lf := by omega
                 have HF2 := Lib.hid HFIN.out
                 clear HFIN
                 go_wp2
                 go_roundw
                 case rel =>
                   have h0 := HF2.out
                   rw [if_neg hdd] at h0
                   exact ⟨k, lf, (lf' : Int), false, rfl, by omega, by omega, by rw [hd3], by omega, h0⟩
                 case measure => simp [intOf, bitOf, hd3]; omega
       · have hfx := HZ.out k (by rw [hnp.2.1]; omega)
         have HFX2 := Lib.hid hfx
         have hcsl := HLN.out k
         have hgood := HGD.out k
         have hsml := HSM.out k
         have hnx := HNX.out k (by omega) hfx
         obtain ⟨_, hlf2, hnow, hbr⟩ := hnp
         generalize passes base held m (startN base R) k = s at hcsl hgood hsml hnx hnow hlf2 HFX2
         obtain ⟨cs, lf2⟩ := s
         dsimp only at hcsl hnx hnow hlf2
         have hO3 := own_belowB hOut1.out hbr (fun g hg => by have := own_blk hg; omega)
         have hbW : RowKit.Below w.heap.size w wr := hb01.trans (hbr.mono (by omega))
         have hne : (Value.slice A1 n c1).ownBlock = none ∨ (Value.slice A1 n c1).ownBlock ≠ (Value.slice (some ⟨w.heap.size, 0, none⟩) 0 0).ownBlock := by
           rcases hob : (Value.slice A1 n c1).ownBlock with _ | g
           · exact .inl rfl
           · right
             have := (hnow.lt g hob).1
             intro h0
             have := own_blk h0.symm
             omega
         have HSTART := Lib.hid (show OutAt w base cs (.slice A1 n c1) n [] (.slice (some ⟨w.heap.size, 0, none⟩) 0 0) wr from ⟨0, rfl, hO3, hbW, own_base hnow (by omega), hne⟩)
         have HNXT := Lib.hid hnx
         have HCSL := Lib.hid hcsl
         have HGOOD := Lib.hid hgood
         have HSML : Hid (∀ j, num cs j ≤ 4096) := fun j => by have := hsml j; dsimp only at this; omega
         generalize wr = w5 at HSTART
         clear hfx hcsl hgood hsml hnx hnow hbr hO3 hbW hne hlf2 HFX2
         go_wp2
         go_loopw [7, 12, 66] (fun s7 _ s66 wr => ∃ i : Nat, i ≤ n ∧ s66 = .int .i64 i ∧ OutAt w base cs (.slice A1 n c1) n (((rowOf base cs).take i).filter hasIds) s7 wr) (fun _ _ s66 _ => n - (intOf s66).toNat)
         case atStart => exact ⟨0, Nat.zero_le _, rfl, HSTART.out⟩
         case round =>
           clear HSTART
           obtain ⟨i, hi, rfl, hout⟩ := hrel
           by_cases hlt : i < n
           · have hib : i < base.length := by rw [HL.out]; exact hlt
             have hb := hout.below
             have hnow := hout.now
             obtain ⟨bb, off, rfl, hbl, hc⟩ := (h.below hb).at_ (uvs_at hib)
             obtain ⟨gg, cap, hv, hbg, hgl⟩ := hnow.form (by omega)
             obtain ⟨rfl, rfl⟩ : A1 = some ⟨gg, 0, none⟩ ∧ c1 = cap := by injection hv with e1 _ e3; exact ⟨e1, e3⟩
             have hin : i < (nowOf base cs).length := by rw [nowOf_length]; exact hib
             have hcn := hnow.cellAt i (by omega)
             rw [uvs_at hin, nowOf_at] at hcn
             have hbase := HBU.out i
             have hcs4 := HSML.out i
             have hgd := HGOOD.out i
             dsimp only at hgd
             have K1 : Hid (0 < num cs i → ((rowOf base cs).take (i + 1)).filter hasIds = ((rowOf base cs).take i).filter hasIds ++ [runAt base cs i]) := fun h0 => outs_in h0 (by omega)
             have K2 : Hid (num cs i = 0 → ((rowOf base cs).take (i + 1)).filter hasIds = ((rowOf base cs).take i).filter hasIds) := fun h0 => outs_out h0
             have hlenL : Hid ((((rowOf base cs).take i).filter hasIds).length ≤ 1000) := by
               have h1 := List.length_filter_le hasIds ((rowOf base cs).take i)
               rw [List.length_take] at h1
               exact Nat.le_trans h1 (by omega)
             have hi64 : 0 < num cs i → i < 64 := fun h0 => by
               rcases Nat.lt_or_ge i cs.length with h1 | h1
               · rw [HCSL.out] at h1; omega
               · rw [num_out h1] at h0; omega
             have hy0 : ((runAt base cs i).f : Int) = ((i % 256 : Nat) : Int) := rfl
             have hy1 : ((runAt base cs i).a : Int) = (((num base i + 1) % 18446744073709551616 : Nat) : Int) := rfl
             have hy2 : ((runAt base cs i).c : Int) = ((num cs i % 18446744073709551616 : Nat) : Int) := rfl
             generalize runAt base cs i = y at K1 hy0 hy1 hy2
             generalize ((rowOf base cs).take i).filter hasIds = cur at hout K1 K2 hlenL
             have hbw : bb < wr.heap.size := Nat.lt_of_lt_of_le hbl hb.size
             have HN2 : Hid (num base i = base[i]) := num_in hib
             have hc' : wr.cell? ⟨bb, off + i, none⟩ = some (.int .u64 (num base i : Int)) := by rw [HN2.out]; exact hc
             clear hc hv
             generalize num base i = Y at hcn hc' hbase hgd hy1
             generalize num cs i = q at hcn hcs4 hgd K1 K2 hi64 hy2
             have p0 := later_cell (w0 := wr) (b := bb) hbw hc'
             have p1 := later_cell (w0 := wr) (b := gg) hgl hcn
             by_cases hq : 0 < q
             · have hg2 := hgd hq
               have hi6 := hi64 hq
               have HE := Lib.hid (K1.out hq)
               have hXY : Y < Y + q := by omega
               have hX64 : Y + q ≤ 4611686018427387904 := hg2.2
               have e8 : IntKind.u8.wrap (i : Int) = (i : Int) := by simp [IntKind.wrap, IntKind.bits, IntKind.signed]; omega
               have ea : IntKind.u64.wrap ((Y : Int) + 1) = ((Y + 1 : Nat) : Int) := by rw [IntKind.wrap_u64]; omega
               have ec : IntKind.u64.wrap (((Y + q : Nat) : Int) - (Y : Int)) = (q : Int) := by rw [IntKind.wrap_u64]; omega
               have hy0' : (y.f : Int) = (i : Int) := by rw [hy0]; omega
               have hy1' : (y.a : Int) = ((Y + 1 : Nat) : Int) := by rw [hy1]; omega
               have hy2' : (y.c : Int) = (q : Int) := by rw [hy2]; omega
               generalize Y + q = X at hcn p1 hXY hX64 ec
               generalize ((Y + 1 : Nat) : Int) = Y1 at ea hy1'
               have HY := Lib.hid (And.intro hy0' (And.intro hy1' hy2'))
               have hdXY : decide (Y < X) = true := decide_eq_true hXY
               have HOUT := Lib.hid hout
               have HCC := Lib.hid (And.intro hc' hcn)
               have hiz : (i : Int) < (n : Int) := by omega
               have hb0 := hb
               clear hout hnow hgd hg2 hi64 hy0 hy1 hy2 hy0' hy1' hy2' K1 K2 hc' hcn hq
               go_wp2_with fail
               refine wp_region_later mixed (by kernel_rfl) ?_
               repeat (go_big_quiet_step (fail))
               refine wpQuiet_nil ?_
               intro _ hw'
               obtain ⟨p, rfl⟩ := hw'
               have hbp : RowKit.Below w.heap.size w p.w := hb0.trans (p.hb.mono hb0.size)
               have hout2 := HOUT.out.on p.hb
               have hc2' := p0 p
               have hcn2 := p1 p
               generalize p.w = w6 at hout2 hc2' hcn2 hbp ⊢
               have hdr : RowKit.Below w6.heap.size w6 w6.drew := (RowKit.Below.refl _ _).drew
               have hbl6 : bb < w6.heap.size := World.block_lt_of_cell? w6 _ hc2'
               have hgl6 : gg < w6.heap.size := World.block_lt_of_cell? w6 _ hcn2
               obtain ⟨v8, w8, hrun, hout8⟩ := (hout2.on hdr).push y (i : Int) Y1 (q : Int) HY.out.1 HY.out.2.1 HY.out.2.2 hlenL.out
               have hb8 := hout8.below
               have hn8 := hout8.now
               have hal : RowKit.Below w6.heap.size w6 (w6.drew.alloc (.cells #[.int .u8 (i : Int), .int .u64 Y1, .int .u64 (q : Int)] 43)) := hdr.alloc hdr.size _
               have hS0 : TwoC gg i bb (off + i) X Y w6.drew := ⟨(hdr.cell (p := ⟨gg, _, none⟩) hgl6).trans hcn2, (hdr.cell (p := ⟨bb, _, none⟩) hbl6).trans hc2'⟩
               have hS1 : TwoC gg i bb (off + i) X Y (w6.drew.alloc (.cells #[.int .u8 (i : Int), .int .u64 Y1, .int .u64 (q : Int)] 43)) := ⟨(hal.cell (p := ⟨gg, _, none⟩) hgl6).trans hcn2, (hal.cell (p := ⟨bb, _, none⟩) hbl6).trans hc2'⟩
               have hS8 : TwoC gg i bb (off + i) X Y w8 := by
                 refine ⟨?_, ?_⟩
                 · rw [hn8.cellAt i (by omega), uvs_at hin]
                   have h1 := hout2.now.cellAt i (by omega)
                   rw [uvs_at hin, hcn2] at h1
                   exact h1.symm
                 · have h1 := (hb8.cell (p := ⟨bb, off + i, none⟩) hbl)
                   have h2 := (hbp.cell (p := ⟨bb, off + i, none⟩) hbl)
                   rw [h1, ← h2]
                   exact hc2'
               rw [← HE.out] at hout8
               have H8 := Lib.hid hout8
               have d0 : ∀ W, TwoC gg i bb (off + i) X Y W → W.cell? ⟨gg, i, none⟩ = some (.int .u64 (X : Int)) := fun W hW => hW.1
               have d1 : ∀ W, TwoC gg i bb (off + i) X Y W → W.cell? ⟨bb, off + i, none⟩ = some (.int .u64 (Y : Int)) := fun W hW => hW.2
               clear hout8 hn8 hb8 hal hout2 p0 p1 hc2' hcn2 HCC HOUT
               go_wp2_with fail
               refine wp_region_held_drew (S := fun W => TwoC gg i bb (off + i) X Y W) (by kernel_rfl) hS0 (fun hHeld => ?_)
               refine wpAnyH_takeAt (i := 0) (d := 78) (v := ?_) rfl rfl (by kernel_rfl) (by kernel_rfl) (by kernel_rfl) (fun _ _ _ h => h) (Or.inl ⟨by rfl, ?_⟩) hHeld ?_
               rotate_left
               · (intro _ hSw; go_simp; try with_reducible rfl)
               simp only [List.setIfInBounds_toArray, List.set_cons_zero, List.set_cons_succ]
               refine wpAnyH_takeAt (i := 1) (d := 79) (v := ?_) rfl rfl (by kernel_rfl) (by kernel_rfl) (by kernel_rfl) (fun _ _ _ h => h) (Or.inl ⟨by rfl, ?_⟩) hHeld ?_
               rotate_left
               · (intro _ hSw; go_simp; try with_reducible rfl)
               simp only [List.setIfInBounds_toArray, List.set_cons_zero, List.set_cons_succ]
               refine wpAnyH_takeAt (i := 2) (d := 80) (v := ?_) rfl rfl (by kernel_rfl) (by kernel_rfl) (by kernel_rfl) (fun _ _ _ h => h) (Or.inl ⟨by rfl, ?_⟩) hHeld ?_
               rotate_left
               · (intro _ hSw; go_simp; try with_reducible rfl)
               simp only [List.setIfInBounds_toArray, List.set_cons_zero, List.set_cons_succ]
               refine wpAnyH_takeAt (i := 3) (d := 81) (v := ?_) rfl rfl (by kernel_rfl) (by kernel_rfl) (by kernel_rfl) (fun _ _ _ h => h) (Or.inl ⟨by rfl, ?_⟩) hHeld ?_
               rotate_left
               · (intro _ hSw; go_simp; try with_reducible rfl)
               simp only [List.setIfInBounds_toArray, List.set_cons_zero, List.set_cons_succ]
               refine wpAnyH_takeAt (i := 4) (d := 82) (v := ?_) rfl rfl (by kernel_rfl) (by kernel_rfl) (by kernel_rfl) (fun _ _ _ h => h) (Or.inl ⟨by rfl, ?_⟩) hHeld ?_
               rotate_left
               · (intro _ hSw; go_simp; try with_reducible rfl)
               simp only [List.setIfInBounds_toArray, List.set_cons_zero, List.set_cons_succ]
               refine wpAnyH_takeAt (i := 5) (d := 83) (v := ?_) rfl rfl (by kernel_rfl) (by kernel_rfl) (by kernel_rfl) (fun _ _ _ h => h) (Or.inl ⟨by rfl, ?_⟩) hHeld ?_
               rotate_left
               · (intro _ hSw; go_simp; try with_reducible rfl)
               simp only [List.setIfInBounds_toArray, List.set_cons_zero, List.set_cons_succ]
               refine wpAnyH_takeAt (i := 6) (d := 84) (v := ?_) rfl rfl (by kernel_rfl) (by kernel_rfl) (by kernel_rfl) (fun _ _ _ h => h) (Or.inl ⟨by rfl, ?_⟩) hHeld ?_
               rotate_left
               · (intro _ hSw; go_simp; try with_reducible rfl)
               simp only [List.setIfInBounds_toArray, List.set_cons_zero, List.set_cons_succ]
               refine wpAnyH_takeAt (i := 7) (d := 85) (v := ?_) rfl rfl (by kernel_rfl) (by kernel_rfl) (by kernel_rfl) (fun _ _ _ h => h) (Or.inl ⟨by rfl, ?_⟩) hHeld ?_
               rotate_left
               · (intro _ hSw; go_simp; try with_reducible rfl)
               simp only [List.setIfInBounds_toArray, List.set_cons_zero, List.set_cons_succ]
               refine wpAnyH_takeAt (i := 8) (d := 86) (v := ?_) rfl rfl (by kernel_rfl) (by kernel_rfl) (by kernel_rfl) (fun _ _ _ h => h) (Or.inl ⟨by rfl, ?_⟩) hHeld ?_
               rotate_left
               · (intro _ hSw; go_simp; try with_reducible rfl)
               simp only [List.setIfInBounds_toArray, List.set_cons_zero, List.set_cons_succ]
               refine wpAnyH_takeAt (i := 9) (d := 87) (v := ?_) rfl rfl (by kernel_rfl) (by kernel_rfl) (by kernel_rfl) (fun _ _ _ h => h) (Or.inl ⟨by rfl, ?_⟩) hHeld ?_
               rotate_left
               · (intro _ hSw; go_simp; try with_reducible rfl)
               simp only [List.setIfInBounds_toArray, List.set_cons_zero, List.set_cons_succ]
               refine wpAnyH_takeAt (i := 10) (d := 88) (v := ?_) rfl rfl (by kernel_rfl) (by kernel_rfl) (by kernel_rfl) (fun _ _ _ h => h) (Or.inl ⟨by rfl, ?_⟩) hHeld ?_
               rotate_left
               · (intro _ hSw; go_simp; try with_reducible rfl)
               simp only [List.setIfInBounds_toArray, List.set_cons_zero, List.set_cons_succ]
               refine wpAnyH_takeAt (i := 11) (d := 89) (v := ?_) rfl rfl (by kernel_rfl) (by kernel_rfl) (by kernel_rfl) (fun _ _ _ h => h) (Or.inl ⟨by rfl, ?_⟩) hHeld ?_
               rotate_left
               · (intro _ hSw; go_simp; try with_reducible rfl)
               simp only [List.setIfInBounds_toArray, List.set_cons_zero, List.set_cons_succ]
               refine wpAnyH_takeAt (i := 12) (d := 90) (v := ?_) rfl rfl (by kernel_rfl) (by kernel_rfl) (by kernel_rfl) (fun _ _ _ h => h) (Or.inl ⟨by rfl, ?_⟩) hHeld ?_
               rotate_left
               · (intro _ hSw; go_simp; try with_reducible rfl)
               simp only [List.setIfInBounds_toArray, List.set_cons_zero, List.set_cons_succ]
               refine wpAnyH_takeAt (i := 13) (d := 91) (v := ?_) rfl rfl (by kernel_rfl) (by kernel_rfl) (by kernel_rfl) (fun _ _ _ h => h) (Or.inl ⟨by rfl, ?_⟩) hHeld ?_
               rotate_left
               · (intro _ hSw; go_simp; try with_reducible rfl)
               simp only [List.setIfInBounds_toArray, List.set_cons_zero, List.set_cons_succ]
               refine wpAnyH_takeAt (i := 14) (d := 92) (v := ?_) rfl rfl (by kernel_rfl) (by kernel_rfl) (by kernel_rfl) (fun _ _ _ h => h) (Or.inl ⟨by rfl, ?_⟩) hHeld ?_
               rotate_left
               · (intro _ hSw; go_simp; try with_reducible rfl)
               simp only [List.setIfInBounds_toArray, List.set_cons_zero, List.set_cons_succ]
               refine wpAnyH_takeAt (i := 15) (d := 93) (v := ?_) rfl rfl (by kernel_rfl) (by kernel_rfl) (by kernel_rfl) (fun _ _ _ h => h) (Or.inl ⟨by rfl, ?_⟩) hHeld ?_
               rotate_left
               · (intro _ hSw; go_simp; try with_reducible rfl)
               simp only [List.setIfInBounds_toArray, List.set_cons_zero, List.set_cons_succ]
               refine wpAnyH_takeAt (i := 16) (d := 94) (v := ?_) rfl rfl (by kernel_rfl) (by kernel_rfl) (by kernel_rfl) (fun _ _ _ h => h) (Or.inl ⟨by rfl, ?_⟩) hHeld ?_
               rotate_left
               · (intro _ hSw; go_simp; try with_reducible rfl)
               simp only [List.setIfInBounds_toArray, List.set_cons_zero, List.set_cons_succ]
               refine wpAnyH_takeAt (i := 17) (d := 95) (v := ?_) rfl rfl (by kernel_rfl) (by kernel_rfl) (by kernel_rfl) (fun _ _ _ h => h) (Or.inl ⟨by rfl, ?_⟩) hHeld ?_
               rotate_left
               · (intro _ hSw; go_simp; try with_reducible rfl)
               simp only [List.setIfInBounds_toArray, List.set_cons_zero, List.set_cons_succ]
               refine wpAnyH_ready (rs := [18]) (by kernel_rfl) (by simp) ?_
               refine AllReadyH.cons rfl (fun K hK => ?_) AllReadyH.nil
               go_simp
               refine hK.out _ _ hS1 (fun hHeld => ?_)
               clear hK K
               refine wpAnyH_ready (rs := [19]) (by kernel_rfl) (by simp) ?_
               refine AllReadyH.cons rfl (fun K hK => ?_) AllReadyH.nil
               refine wp_append_step (s := .tmp 78) (x := .tmp 96) (t := 23) rfl rfl rfl rfl hrun ?_
               go_simp
               refine hK.out _ _ hS8 (fun hHeld => ?_)
               clear hK K
               refine wpAnyH_takeAt (i := 20) (d := 7) (v := ?_) rfl rfl (by kernel_rfl) (by kernel_rfl) (by kernel_rfl) (fun _ _ _ h => h) (Or.inl ⟨by rfl, ?_⟩) hHeld ?_
               rotate_left
               · (intro _ hSw; go_simp; try with_reducible rfl)
               simp only [List.setIfInBounds_toArray, List.set_cons_zero, List.set_cons_succ]
               refine wpAnyH_done (by kernel_rfl) ?_ _
               clear d0 d1
               go_wp2
               go_roundw
               case rel => exact ⟨i + 1, by omega, by go_num, H8.out⟩
               case measure => simp [intOf]; omega
             · have hq0 : q = 0 := by omega
               have HE := Lib.hid (K2.out hq0)
               subst hq0
               have HOUT := Lib.hid hout
               have hiz : (i : Int) < (n : Int) := by omega
               simp only [Nat.add_zero] at p1 hcn
               have hb0 := hb
               clear hout hnow hgd hi64 hy0 hy1 hy2 K1 K2 hc' hcn hq
               go_wp2_with fail
               refine wp_region_later mixed (by kernel_rfl) ?_
               repeat (go_big_quiet_step (fail))
               refine wpQuiet_nil ?_
               intro _ hw'
               obtain ⟨p, rfl⟩ := hw'
               have hbp : RowKit.Below w.heap.size w p.w := hb0.trans (p.hb.mono hb0.size)
               have hout2 := HOUT.out.on p.hb
               rw [← HE.out] at hout2
               have H8 := Lib.hid hout2
               clear hout2 p0 p1
               go_wp2
               go_roundw
               case rel => exact ⟨i + 1, by omega, by go_num, H8.out⟩
               case measure => simp [intOf]; omega
           · have hfull : (rowOf base cs).take i = rowOf base cs := List.take_of_length_le (by rw [rowOf_length, HCSL.out]; omega)
             rw [hfull, ← HNXT.out] at hout
             have HO := Lib.hid hout
             clear hout hfull
             go_wp2
             go_ret
             exact HO.out.owned

end Go.Proofs.Ytfkpffkickicmaa
