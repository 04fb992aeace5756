/- The order of delivery: what it is, and the walks of longest, Order (batch) and of the document's Order. -/
import Derived.Test.YtfkpffkickicmaaBtH
import Derived.Test.YtfkpffkickicmaaBtG
namespace Go.Proofs.Ytfkpffkickicmaa
open Go.RowKit Go.Sort

def idAt (x : Rn) (k : Nat) : Id := ⟨x.f, (x.a + k) % 18446744073709551616, x.hf, Nat.mod_lt _ (by decide)⟩

/-- The k-th ids of the runs that have one. -/
def pass (l : List Rn) (k : Nat) : List Id := (l.filter fun x => decide (k < x.c)).map fun x => idAt x k

/-- All ids of the first k passes, and of the next one up to the run i. -/
def ordTo (l : List Rn) (k i : Nat) : List Id := (List.range k).flatMap (pass l) ++ pass (l.take i) k

def longR (l : List Rn) : Nat := l.foldl (fun m x => max m x.c) 0
def orderL (l : List Rn) : List Id := if l.all runB = true ∧ cntN l ≤ 4096 then ordTo l (longR l) 0 else []

theorem pass_append (a b : List Rn) (k : Nat) : pass (a ++ b) k = pass a k ++ pass b k := by simp [pass]
theorem pass_in {x : Rn} {k : Nat} (h : k < x.c) : pass [x] k = [idAt x k] := by simp [pass, h]
theorem pass_out {x : Rn} {k : Nat} (h : ¬ k < x.c) : pass [x] k = [] := by simp [pass, h]
theorem ordTo_zero (l : List Rn) : ordTo l 0 0 = [] := rfl
theorem ordTo_in {l : List Rn} {k i : Nat} (hi : i < l.length) (h : k < l[i].c) : ordTo l k (i + 1) = ordTo l k i ++ [idAt l[i] k] := by
  unfold ordTo
  rw [List.take_succ_eq_append_getElem hi, List.append_assoc, pass_append, pass_in h]
theorem ordTo_out {l : List Rn} {k i : Nat} (hi : i < l.length) (h : ¬ k < l[i].c) : ordTo l k (i + 1) = ordTo l k i := by
  unfold ordTo
  rw [List.take_succ_eq_append_getElem hi, pass_append, pass_out h, List.append_nil]
theorem ordTo_wrap {l : List Rn} {k i : Nat} (hi : l.length ≤ i) : ordTo l k i = ordTo l (k + 1) 0 := by
  unfold ordTo
  rw [List.take_of_length_le hi, List.range_succ]
  simp [pass]

theorem pass_len (l : List Rn) (k : Nat) : (pass l k).length ≤ l.length := by
  unfold pass
  rw [List.length_map]
  exact List.length_filter_le _ _
theorem passes_len (l : List Rn) (k : Nat) : ((List.range k).flatMap (pass l)).length ≤ k * l.length := by
  induction k with
  | zero => simp
  | succ k ih =>
    rw [List.range_succ, List.flatMap_append, List.length_append]
    simp only [List.flatMap_cons, List.flatMap_nil, List.append_nil]
    have := pass_len l k
    rw [Nat.succ_mul]
    omega
theorem ordTo_len {l : List Rn} {k i n : Nat} (hl : l.length = n) (hn : n ≤ 100) (hk : k ≤ 4096) : (ordTo l k i).length ≤ 500000 := by
  unfold ordTo
  rw [List.length_append]
  have h1 := passes_len l k
  have h2 := pass_len (l.take i) k
  have h3 : (l.take i).length ≤ l.length := by rw [List.length_take]; omega
  have h4 : k * l.length ≤ 4096 * 100 := Nat.mul_le_mul hk (by omega)
  omega

theorem longR_snoc (l : List Rn) (k : Nat) (h : k < l.length) : longR (l.take (k + 1)) = max (longR (l.take k)) l[k].c := by
  unfold longR
  rw [List.take_succ_eq_append_getElem h, List.foldl_append]
  rfl
theorem satC_each : ∀ (l : List Rn) (n : Nat), n ≤ 4611686018427387904 → satC n l ≤ 4096 → ∀ x ∈ l, x.c ≤ 4096
  | [], _, _, _, x, hx => by simp at hx
  | r :: t, n, hn, h, x, hx => by
    rw [satC] at h
    split at h
    · omega
    · next hg =>
      have h1 := satC_ge t (n + r.c) (by omega)
      rcases List.mem_cons.1 hx with rfl | hx
      · omega
      · exact satC_each t (n + r.c) (by omega) h x hx
theorem long_bound (l : List Rn) (m M : Nat) (hm : m ≤ M) (h : ∀ x ∈ l, x.c ≤ M) : l.foldl (fun m x => max m x.c) m ≤ M := by
  induction l generalizing m with
  | nil => exact hm
  | cons x t ih =>
    rw [List.foldl_cons]
    refine ih _ ?_ (fun y hy => h y (List.mem_cons_of_mem _ hy))
    have := h x (List.mem_cons_self ..)
    omega
theorem longR_le {l : List Rn} (h1 : l.all runB = true) (h2 : cntN l ≤ 4096) : longR l ≤ 4096 := by
  refine long_bound l 0 4096 (by omega) ?_
  unfold cntN at h2
  rw [List.filter_eq_self.2 (List.all_eq_true.1 h1)] at h2
  exact satC_each l 0 (by omega) h2

/-- What has been made so far: ids in memory of the call's own. -/
def MkI (w : World) (l : List Id) (v : Value) (wr : World) : Prop := ∃ n, wr.ownsRow w.heap.size 46 2 v n (flat encId l) ∧ RowKit.Below w.heap.size w wr ∧ Hid (l.length = n)

theorem MkI.below {w wr : World} {l : List Id} {v : Value} (h : MkI w l v wr) : RowKit.Below w.heap.size w wr := by
  obtain ⟨_, _, hb, _⟩ := h
  exact hb
theorem MkI.owned {w wr : World} {l : List Id} {v : Value} (h : MkI w l v wr) : OwnIds w w.heap.size l (.returned v) wr := by
  obtain ⟨n, ho, hb, hn⟩ := h
  exact OwnIds.of hn.out ho hb
theorem MkI.alloc {w wr : World} {l : List Id} {v : Value} (h : MkI w l v wr) (o : Obj) : MkI w l v (wr.alloc o) := by
  obtain ⟨n, ho, hb, hn⟩ := h
  exact ⟨n, ho.alloc _, hb.alloc hb.size _, hn⟩

/-- append(owned, y), of ids. -/
theorem wpList_pushId {w wb : World} {ops : Array Oper} {rest : List Oper} {o : Oper} {a : Act} {Q : Exit → Act → World → Prop} (hgd : o.guard = none) (s x : Operand)
    (ho : o.op = .call { callee := .builtin .append, args := #[s, x], argTypes := #[33, 33] }) (l : List Id) (y : Id) (v : Value) (hs : a.eval s = v) (B : Nat) (hx : a.eval x = .slice (some ⟨B, 0, none⟩) 1 1) (hB : B = wb.heap.size)
    (yf ys : Int) (hyf : (y.f : Int) = yf) (hys : (y.s : Int) = ys) (hmk : MkI w l v wb) (hn : l.length ≤ 1000000)
    (h : ∀ v' w', MkI w (l ++ [y]) v' w' → wpList Try.prog ops Q rest (a.put o.dst v') w') :
    wpList Try.prog ops Q (o :: rest) a (wb.alloc (.cells #[.int .u8 yf, .int .u64 ys] 46)) := by
  subst hyf hys hB
  obtain ⟨i0, hi, hz0, hz1, hz2⟩ := info_parts Try.infoID
  obtain ⟨n, hown, hb, hln⟩ := hmk
  have hn' : n ≤ 1000000 := by rw [← hln.out]; exact hn
  refine wpList_append_lstK hgd s x 33 ho w.heap.size 2 (by decide) 46 i0 (.agg #[.int .u8 0, .int .u64 0]) 16 Try.underlying33 hi hz0 hz1 hz2 rfl v n (flat encId l) hs (hown.alloc _) _ _ 1 1 [.int .u8 (y.f : Int), .int .u64 (y.s : Int)] hx rfl (lies_new wb #[.int .u8 (y.f : Int), .int .u64 (y.s : Int)] 46) (by simp [Value.oneCell']) (by unfold maxLen; omega) (by omega) (by have := hb.size; simp; omega) ?_
  intro v' w' hown' _ hb' _
  refine h v' w' ⟨n + 1, ?_, (hb.alloc hb.size _).trans hb', by show _ = _; rw [List.length_append, hln.out]; rfl⟩
  rw [flat_append]
  exact hown'

set_option maxHeartbeats 800000 in
theorem longestB_any (A : Option Addr) (n c : Nat) (l : List Rn) (w : World) (hl : l.length = n) (hn : n ≤ 1000) (h : Lies w w.heap.size A (flat encRn l)) :
    Calls Try.prog 35 #[.slice A n c] w fun e w' => e = .returned (.int .u64 (longR l : Int)) ∧ RowKit.Below w.heap.size w w' := by
  have HL := Lib.hid hl
  clear hl
  go_enter Try.func35, Try.ntmps35
  go_wp2
  go_loopw [3, 5, 8] (fun s3 _ i wr => ∃ k : Nat, k ≤ n ∧ i = .int .i64 k ∧ s3 = .int .u64 (longR (l.take k) : Int) ∧ RowKit.Below w.heap.size w wr) (fun _ _ i _ => n - (intOf i).toNat)
  case atStart => exact ⟨0, Nat.zero_le _, rfl, rfl, RowKit.Below.refl _ _⟩
  case round =>
    obtain ⟨k, hk, rfl, rfl, hb⟩ := hrel
    by_cases hlt : k < n
    · have hkl : k < l.length := by rw [HL.out]; exact hlt
      obtain ⟨bb, off, rfl, hbl, c0, c1, c2⟩ := (h.below hb).rn hkl
      have HS := Lib.hid (longR_snoc l k hkl)
      have hcc := l[k].hc
      generalize l[k] = x at c0 c1 c2 HS hcc
      generalize longR (l.take k) = q at HS
      have HM : Hid (((longR (l.take (k + 1)) : Nat) : Int) = max (q : Int) (x.c : Int)) := by show _ = _; rw [HS.out]; omega
      clear HS
      go_wp2
      go_roundw
      case rel => exact ⟨k + 1, by omega, by go_num, by rw [HM.out], hb.alloc hb.size _⟩
      case measure => simp [intOf]; omega
    · have HA : Hid (l.take k = l) := List.take_of_length_le (by rw [HL.out]; omega)
      go_wp2
      go_ret
      exact ⟨by rw [HA.out]; rfl, hb⟩

set_option maxHeartbeats 1600000 in
theorem order_any (A : Option Addr) (n c : Nat) (l : List Rn) (w : World) (hl : l.length = n) (hn : n ≤ 100) (h : Lies w w.heap.size A (flat encRn l)) :
    Calls Try.prog 16 #[.slice A n c] w (OwnIds w w.heap.size (orderL l)) := by
  have eg : ∀ args w, (callFunc 32 args).run Try.prog w = .ok (.enter 32 args) w := enters_of Try.func32 (by kernel_rfl) rfl
  have hcon := contains_any (fun x => !runB x) _ #[] eg A n c l w (fun W x hW => (mayNotB_any x W).mono fun _ _ ⟨he, hg⟩ => ⟨he, hW.trans (hg.below.mono hW.size)⟩) hl (by omega) h
  have HCN : Hid (∀ W, RowKit.Below w.heap.size w W → Calls Try.prog 27 #[.slice A n c] W fun e w' => e = .returned (.int .u64 (cntN l)) ∧ RowKit.Below W.heap.size W w') := fun W hW => count_any A n c l W hl (by omega) (h.on hW)
  have HLG : Hid (∀ W, RowKit.Below w.heap.size w W → Calls Try.prog 35 #[.slice A n c] W fun e w' => e = .returned (.int .u64 (longR l : Int)) ∧ RowKit.Below W.heap.size W w') := fun W hW => longestB_any A n c l W hl (by omega) (h.on hW)
  have hany : (l.any fun x => !runB x) = !(l.all runB) := by rw [List.all_eq_not_any_not, Bool.not_not]
  rw [hany] at hcon
  have HLB : Hid (l.all runB = true → cntN l ≤ 4096 → longR l ≤ 4096) := fun h1 h2 => longR_le h1 h2
  generalize hO : orderL l = O
  have HO : Hid (O = if l.all runB = true ∧ cntN l ≤ 4096 then ordTo l (longR l) 0 else []) := by rw [← hO]; rfl
  generalize cntN l = C at HCN HO HLB
  generalize longR l = K at HLG HO HLB
  have HL := Lib.hid hl
  clear hany eg hl hO
  cases hal : l.all runB with
  | false =>
    rw [hal] at HO hcon
    have HR : Hid (O = []) := by show O = []; rw [HO.out]; simp
    simp only [Bool.not_false] at hcon
    clear HO hal HLB
    go_enter Try.func16, Try.ntmps16
    go_wp2_with fail
    refine hcon.mono ?_
    rintro e w1 ⟨rfl, hb1⟩
    clear hcon
    go_wp2
    go_ret
    rw [HR.out]
    exact OwnIds.of rfl (World.ownsRow_nil _ _ _ _) hb1
  | true =>
    rw [hal] at HO hcon HLB
    simp only [Bool.not_true] at hcon
    clear hal
    by_cases hC : 4096 < C
    · have HR : Hid (O = []) := by show O = []; rw [HO.out, if_neg (by omega)]
      clear HO HLB
      go_enter Try.func16, Try.ntmps16
      go_wp2_with fail
      refine hcon.mono ?_
      rintro e w1 ⟨rfl, hb1⟩
      clear hcon
      go_wp2_with fail
      refine (HCN.out w1 hb1).mono ?_
      rintro e w2 ⟨rfl, hb2⟩
      go_wp2
      go_ret
      rw [HR.out]
      exact OwnIds.of rfl (World.ownsRow_nil _ _ _ _) (hb1.trans (hb2.mono hb1.size))
    · have HR : Hid (O = ordTo l K 0) := by show O = _; rw [HO.out, if_pos ⟨rfl, by omega⟩]
      have hK : K ≤ 4096 := HLB.out rfl (by omega)
      have hC' : ¬ (4096 : Int) < (C : Int) := by omega
      clear HO HLB
      go_enter Try.func16, Try.ntmps16
      go_wp2_with fail
      refine hcon.mono ?_
      rintro e w1 ⟨rfl, hb1⟩
      clear hcon
      go_wp2_with fail
      refine (HCN.out w1 hb1).mono ?_
      rintro e w2 ⟨rfl, hb2⟩
      have hb12 : RowKit.Below w.heap.size w w2 := hb1.trans (hb2.mono hb1.size)
      clear HCN hb2 hb1
      go_wp2_with fail
      refine (HLG.out w2 hb12).mono ?_
      rintro e w3 ⟨rfl, hb3⟩
      have hb13 : RowKit.Below w.heap.size w w3 := hb12.trans (hb3.mono hb12.size)
      clear HLG hb3 hb12
      go_wp2
      go_loopw [3, 4, 6, 16, 19, 20, 21] (fun s3 _ _ s16 _ _ _ wr => ∃ k : Nat, k ≤ K ∧ s16 = .int .u64 k ∧ MkI w (ordTo l k 0) s3 wr) (fun _ _ _ s16 _ _ _ _ => K - (intOf s16).toNat)
      case atStart => exact ⟨0, Nat.zero_le _, rfl, 0, World.ownsRow_nil _ _ _ _, hb13, rfl⟩
      case round =>
        clear hb13
        obtain ⟨k, hk, rfl, hmk⟩ := hrel
        by_cases hlt : k < K
        · go_wp2
          go_loopw [3, 6, 21] (fun s3 _ s21 ws => ∃ i : Nat, i ≤ n ∧ s21 = .int .i64 i ∧ MkI w (ordTo l k i) s3 ws) (fun _ _ s21 _ => n - (intOf s21).toNat)
          case atStart => exact ⟨0, Nat.zero_le _, rfl, hmk⟩
          case round =>
            clear hmk
            obtain ⟨i, hi, rfl, hmk⟩ := hrel
            by_cases hlt2 : i < n
            · have hil : i < l.length := by rw [HL.out]; exact hlt2
              have hb := hmk.below
              obtain ⟨bb, off, rfl, hbl, c0, c1, c2⟩ := (h.below hb).rn hil
              have K1 : Hid (k < l[i].c → ordTo l k (i + 1) = ordTo l k i ++ [idAt l[i] k]) := fun hq => ordTo_in hil hq
              have K2 : Hid (¬ k < l[i].c → ordTo l k (i + 1) = ordTo l k i) := fun hq => ordTo_out hil hq
              have hlen : Hid ((ordTo l k i).length ≤ 1000000) := Nat.le_trans (ordTo_len HL.out hn (by omega)) (by omega)
              generalize l[i] = x at c0 c1 c2 K1 K2
              have es : IntKind.u64.wrap ((x.a : Int) + (k : Int)) = ((idAt x k).s : Int) := by
                show _ = (((x.a + k) % 18446744073709551616 : Nat) : Int)
                rw [IntKind.wrap_u64]; omega
              by_cases hkc : k < x.c
              · have HE := Lib.hid (K1.out hkc)
                generalize ordTo l k i = cur at hmk HE hlen
                generalize hys : ((idAt x k).s : Int) = sv at es
                have HY := Lib.hid hys
                clear hys K1 K2
                go_wp2_with (at_builtin; refine wpList_pushId (w := w) rfl (.tmp 29) (.tmp 37) rfl cur (idAt x k) _ rfl _ rfl (by simp) _ _ rfl HY.out (hmk.alloc _) hlen.out ?_)
                intro v' w' hmk'
                rw [← HE.out] at hmk'
                have HM := Lib.hid hmk'
                clear hmk' HE hmk
                go_wp2
                go_roundw
                case rel => exact ⟨i + 1, by omega, by go_num, HM.out⟩
                case measure => simp [intOf]; omega
              · have HE := Lib.hid (K2.out hkc)
                have hmk2 := hmk.alloc (.cells #[.int .u8 (x.f : Int), .int .u64 (x.a : Int), .int .u64 (x.c : Int)] 43)
                rw [← HE.out] at hmk2
                have HM := Lib.hid hmk2
                clear hmk hmk2 K1 K2 HE
                go_wp2
                go_roundw
                case rel => exact ⟨i + 1, by omega, by go_num, HM.out⟩
                case measure => simp [intOf]; omega
            · have hW := ordTo_wrap (l := l) (k := k) (i := i) (by rw [HL.out]; omega)
              rw [hW] at hmk
              have HM := Lib.hid hmk
              clear hmk hW
              go_wp2
              go_roundw
              case rel => exact ⟨k + 1, by omega, by go_num, HM.out⟩
              case measure => simp [intOf]; omega
        · have hkK : k = K := by omega
          subst hkK
          have HM := Lib.hid hmk
          clear hmk
          go_wp2
          go_ret
          rw [HR.out]
          exact HM.out.owned

end Go.Proofs.Ytfkpffkickicmaa
