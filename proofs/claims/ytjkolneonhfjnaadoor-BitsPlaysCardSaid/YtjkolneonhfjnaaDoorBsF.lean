/- Stage 11: nextMissing. -/
import Derived.Test.YtjkolneonhfjnaaDoorBsE
set_option maxRecDepth 20000
namespace Go.Proofs.YtjkolneonhfjnaaDoor
open Go.RowKit Go.Sort

/-- The first place, from i on, that isn't in it (or one that there isn't). -/
structure NxtP (m : List Bool) (i r : Nat) : Prop where
  le : i ≤ r
  there : ∀ j, i ≤ j → j < r → m.getD j true = true
  gap : r < m.length → m.getD r false = false
  top : r = i ∨ r ≤ m.length + 63

theorem bit_there {m : List Bool} {ws : List Nat} (h : BitsW m ws) {k j : Nat} (hk : j / 64 = k) (hb : (ws.getD k 0).testBit (j % 64) = true) : m.getD j true = true := by
  rcases Nat.lt_or_ge j m.length with h1 | h1
  · have h2 := h.bit j h1
    rw [hk, hb] at h2
    have h3 : m.getD j true = m.getD j false := by simp [List.getD, h1]
    rw [h3, ← h2]
  · simp [List.getD, List.getElem?_eq_none h1]

theorem not_val {x : Nat} (hx : x < 18446744073709551616) : bits BinOp.xor IntKind.u64 (if IntKind.u64.signed = true then -1 else IntKind.u64.max) (x : Int) = ((18446744073709551615 - x : Nat) : Int) := by
  have h1 : (BitVec.ofInt 64 (x : Int)).toNat = x := by
    rw [BitVec.ofInt_natCast, BitVec.toNat_ofNat]; exact Nat.mod_eq_of_lt (by omega)
  have h2 : BitVec.ofInt 64 (if IntKind.u64.signed = true then -1 else IntKind.u64.max) = BitVec.allOnes 64 := by decide
  show IntKind.u64.wrap ((BitVec.ofInt 64 (if IntKind.u64.signed = true then -1 else IntKind.u64.max) ^^^ BitVec.ofInt 64 (x : Int)).toNat : Int) = _
  rw [h2, BitVec.allOnes_xor, BitVec.toNat_not, h1, IntKind.wrap_u64]
  omega

section
variable {w w' : World} {p q : Nat} {m : List Bool} {ws : List Nat}

set_option maxHeartbeats 1600000 in
theorem next_any (h : SetAt w p q m) (hT : Tab w) (i : Nat) :
    Calls Tryd.prog 21 #[.pointer (some ⟨p, 0, none⟩), .int .i64 (i : Int)] w fun e w' => (∃ r : Nat, e = .returned (.int .i64 (r : Int)) ∧ NxtP m i r) ∧ w' = w := by
  have H := Lib.hid h
  have HT := Lib.hid hT
  clear h hT
  go_enter Tryd.func21, Tryd.ntmps21
  go_wp2_with fail
  go_loopw [1] (fun s1 wr => ∃ k : Nat, s1 = .int .i64 (k : Int) ∧ wr = w ∧ i ≤ k ∧ (∀ j, i ≤ j → j < k → m.getD j true = true) ∧ (k = i ∨ k ≤ m.length + 63)) (fun s1 _ => m.length - (Lib.intOf s1).toNat)
  case atStart => exact ⟨i, rfl, rfl, Nat.le_refl _, fun j h1 h2 => absurd h1 (by omega), .inl rfl⟩
  case round =>
    obtain ⟨k, rfl, rfl, hik, hth, htop⟩ := hrel
    have HTH := Lib.hid hth
    have HTOP := Lib.hid htop
    clear hth htop
    have hfit := H.out.lt.2.2.2
    by_cases hk : k < m.length
    · have hp := place_yes H.out k hk
      obtain ⟨ws, hS⟩ := H.out
      have hkw := hS.bits.idx hk
      have c0 := hS.c0
      have cw := hS.word hkw
      have hx := hS.bits.word_lt (k / 64)
      have HB := Lib.hid hS.bits
      clear hS
      have e1 : (k : Int) / 64 = ((k / 64 : Nat) : Int) := by omega
      have hkM : k < 1048576 := by omega
      generalize hN : ws.getD (k / 64) 0 = x at cw hx
      have HN := Lib.hid hN
      clear hN
      generalize ws.length = nw at c0 hkw
      generalize hQ : k / 64 = kk at e1 hkw cw HN
      have e3 := not_val hx
      have e4 : ((18446744073709551615 - x : Nat) : Int) / 2 ^ (k % 64) = (((18446744073709551615 - x) / 2 ^ (k % 64) : Nat) : Int) := by simp
      have hr : k % 64 < 64 := Nat.mod_lt _ (by decide)
      by_cases hg : (18446744073709551615 - x) / 2 ^ (k % 64) = 0
      · have HG := Lib.hid (gap_none hx hg)
        rw [hg] at e4
        clear hg hx
        generalize 18446744073709551615 - x = Y at e3 e4
        go_wp2_with (go_at_call 20; refine hp.mono ?_; rintro e w' ⟨rfl, rfl⟩)
        rw [show (k : Int) + (64 - (k : Int) % 64) = ((k + (64 - k % 64) : Nat) : Int) by omega]
        refine ⟨⟨k + (64 - k % 64), rfl, trivial, by omega, fun j h1 h2 => ?_, .inr (by omega)⟩, by simp [Lib.intOf]; omega⟩
        rcases Nat.lt_or_ge j k with h3 | h3
        · exact HTH.out j h1 h3
        · refine bit_there HB.out (k := kk) (by omega) ?_
          rw [HN.out]
          exact HG.out _ (by omega) (Nat.mod_lt _ (by decide))
      · have HG := Lib.hid (gap_some hx hg)
        have hgB : (18446744073709551615 - x) / 2 ^ (k % 64) < 18446744073709551616 := Nat.lt_of_le_of_lt (Nat.div_le_self _ _) (by omega)
        generalize (18446744073709551615 - x) / 2 ^ (k % 64) = g at e4 hg HG hgB
        have htz := tz_any g hgB _ HT.out
        have hne : ((g : Int) != 0) = true := by simpa using hg
        have htB : Lib.ctz 64 g < 64 := by have := HG.out.1; omega
        generalize Lib.ctz 64 g = tz at htz HG htB
        clear hg hx hgB
        generalize 18446744073709551615 - x = Y at e3 e4
        go_wp2_with (first
            | (go_at_call 20; refine hp.mono ?_; rintro e w' ⟨rfl, rfl⟩)
            | (go_at_call 22; refine htz.mono ?_; rintro e w' ⟨rfl, rfl⟩))
        go_ret
        obtain ⟨g1, g2, g3⟩ := HG.out
        refine ⟨⟨k + tz, rfl, by omega, fun j h1 h2 => ?_, fun h1 => ?_, .inr (by omega)⟩, rfl⟩
        · rcases Nat.lt_or_ge j k with h3 | h3
          · exact HTH.out j h1 h3
          · refine bit_there HB.out (k := kk) (by omega) ?_
            rw [HN.out]
            exact g3 _ (by omega) (by omega)
        · have h2 := HB.out.bit (k + tz) h1
          rw [show (k + tz) / 64 = kk by omega, HN.out, show (k + tz) % 64 = k % 64 + tz by omega, g2] at h2
          exact h2.symm
    · have hp := place_no H.out k (by omega)
      go_wp2_with (go_at_call 20; refine hp.mono ?_; rintro e w' ⟨rfl, rfl⟩)
      go_ret
      exact ⟨⟨k, rfl, ⟨hik, HTH.out, fun h => absurd h hk, HTOP.out⟩⟩, rfl⟩
end

end Go.Proofs.YtjkolneonhfjnaaDoor
