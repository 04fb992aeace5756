/- The checker of vectors; the checker as one who is shown a frame's fields. -/
import Derived.Test.YtbfjfidodpgohaaT05

namespace Go.Proofs.Ytbfjfidodpgohaa
open Go.RowKit Go.Sort

def tooGreat (n : Nat) : Bool := decide (4611686018427387904 < n)

set_option maxRecDepth 100000 in
theorem tooGreat_any (n : Nat) (w : World) : Calls Try.prog 104 #[.int .u64 (n : Int)] w fun e w' => e = .returned (.bool (tooGreat n)) ∧ w = w' := by
  have hd : tooGreat n = decide ((4611686018427387904 : Int) < (n : Int)) := by unfold tooGreat; simp; omega
  rw [hd]
  clear hd
  go_enter Try.func104, Try.ntmps104
  go_wp2
  go_ret
  exact ⟨rfl, rfl⟩

set_option maxRecDepth 100000 in
theorem indexNums_any (p : Nat → Bool) (g : Nat) (eg : ∀ args w, (callFunc g args).run Try.prog w = .ok (.enter g args) w) (A : Option Addr) (n c : Nat) (l : List Nat) (w : World) (hp : ∀ x : Nat, Calls Try.prog g #[.int .u64 (x : Int)] w fun e w' => e = .returned (.bool (p x)) ∧ w = w')
    (hl : l.length = n) (hn : n ≤ 1000) (h : Lies w w.heap.size A (uvs l)) :
    Calls Try.prog 110 #[.slice A n c, .func (.func g) #[] #[]] w fun e w' => ∃ r : Int, e = .returned (.int .i64 r) ∧ Hid (FirstAt p l r) ∧ w = w' := by
  have HL := Lib.hid hl
  have HP := Lib.hid hp
  clear hl hp
  go_enter Try.func110, Try.ntmps110
  go_wp2
  go_loop [5, 8] (fun _ i => ∃ k : Nat, k ≤ n ∧ i = .int .i64 k ∧ Hid (∀ x ∈ l.take k, p x = false)) (fun _ i => n - (intOf i).toNat)
  case atStart => exact ⟨0, Nat.zero_le _, rfl, by show ∀ x ∈ l.take 0, _; simp⟩
  case round =>
    obtain ⟨k, hk, rfl, hK⟩ := hrel
    by_cases hlt : k < n
    · have hk1 : k < l.length := by rw [HL.out]; exact hlt
      have hcall := HP.out l[k]
      have hK' : Hid (p l[k] = false → ∀ x ∈ l.take (k + 1), p x = false) := fun hq x hx => by
        rw [List.take_succ_eq_append_getElem hk1, List.mem_append] at hx
        rcases hx with h1 | h1
        · exact hK.out x h1
        · simp at h1; subst h1; exact hq
      have hF : Hid (p l[k] = true → FirstAt p l (k : Int)) := fun hq => .inr ⟨k, hk1, rfl, hq, hK.out⟩
      obtain ⟨bb, off, rfl, hbl, c0⟩ := h.at_ (uvs_at hk1)
      generalize hq : p l[k] = b at hcall hK' hF
      generalize l[k] = y at hcall c0
      clear hK hq
      cases b with
      | true =>
        go_wp2_with (go_at_fn g; refine hcall.mono ?_; rintro e w' ⟨rfl, rfl⟩)
        go_ret
        exact ⟨_, rfl, hF.out (by simp), rfl⟩
      | false =>
        go_wp2_with (go_at_fn g; refine hcall.mono ?_; rintro e w' ⟨rfl, rfl⟩)
        go_round
        case rel => exact ⟨k + 1, by omega, by go_num, hK'.out (by simp)⟩
        case measure => simp [intOf]; omega
    · have hF : Hid (FirstAt p l (-1)) := .inl ⟨rfl, fun x hx => hK.out x (by rw [List.take_of_length_le (by rw [HL.out]; omega)]; exact hx)⟩
      go_wp2
      go_ret
      exact ⟨_, rfl, hF.out, rfl⟩

set_option maxRecDepth 100000 in
theorem containsNums_any (p : Nat → Bool) (g : Nat) (eg : ∀ args w, (callFunc g args).run Try.prog w = .ok (.enter g args) w) (A : Option Addr) (n c : Nat) (l : List Nat) (w : World) (hp : ∀ x : Nat, Calls Try.prog g #[.int .u64 (x : Int)] w fun e w' => e = .returned (.bool (p x)) ∧ w = w')
    (hl : l.length = n) (hn : n ≤ 1000) (h : Lies w w.heap.size A (uvs l)) :
    Calls Try.prog 105 #[.slice A n c, .func (.func g) #[] #[]] w fun e w' => e = .returned (.bool (l.any p)) ∧ w = w' := by
  have J := Lib.hid (indexNums_any p g eg A n c l w hp hl hn h)
  clear hp hl h
  go_enter Try.func105, Try.ntmps105
  go_wp2_with (go_at_call 110; refine J.out.mono ?_; rintro e w' ⟨r, rfl, hF, rfl⟩)
  go_ret
  rw [← hF.out.found]
  exact ⟨rfl, rfl⟩

/-- May numbers stand in a frame? -/
def vecB (l : List Nat) : Bool := decide (l.length ≤ 64) && !l.any tooGreat

set_option maxRecDepth 100000 in
theorem ckVector_any {gc : Nat} {b : Bool} (A : Option Addr) (n c : Nat) (l : List Nat) (w : World) (h : Ck gc b w) (hl : l.length = n) (hn : n ≤ 100) (hL : Lies w w.heap.size A (uvs l)) :
    Calls Try.prog 98 #[.pointer (some ⟨gc, 0, none⟩), .slice A n c] w fun e w' => e = .returned (.slice none 0 0) ∧ Wanted gc w (b || !vecB l) w' := by
  have H := Lib.hid h
  have HC := Lib.hid (containsNums_any tooGreat 104 (enters_of Try.func104 (by kernel_rfl) rfl) A n c l w (fun x => tooGreat_any x w) hl (by omega) hL)
  unfold vecB
  rw [hl]
  clear hL hl h
  generalize l.any tooGreat = q at HC ⊢
  by_cases hn64 : n ≤ 64
  · have hd : decide ((n : Int) ≤ 64) = true := by simp; omega
    rw [decide_eq_true hn64, Bool.true_and]
    go_enter Try.func98, Try.ntmps98
    go_wp2_with fail
    refine HC.out.mono ?_
    rintro e w1 ⟨rfl, rfl⟩
    go_wp2_with fail
    refine (want_any _ w H.out).mono ?_
    rintro e w2 ⟨⟨v, rfl⟩, hW⟩
    have HW := Lib.hid hW
    clear hW
    go_wp2
    go_ret
    exact ⟨rfl, HW.out⟩
  · have hd : decide ((n : Int) ≤ 64) = false := by simp; omega
    rw [decide_eq_false hn64, Bool.false_and]
    go_enter Try.func98, Try.ntmps98
    go_wp2_with fail
    refine (want_any _ w H.out).mono ?_
    rintro e w1 ⟨⟨v, rfl⟩, hW⟩
    have HW := Lib.hid hW
    clear hW
    go_wp2
    go_ret
    exact ⟨rfl, HW.out⟩

/-- What the checker finds. -/
noncomputable def ckV : Vis Bool where
  number n b := (0, b || !decide (n ≤ 4611686018427387904))
  word _ b := (0, b)
  id x b := (zeroId, b || !mayB x)
  runs l b := ([], b || !runsB l)
  vector l b := ([], b || !vecB l)
  data l b := ([], b || !decide (l.length ≤ 65536))

def ckF : VisFns := ⟨96, 100, 95, 97, 98, 94⟩

theorem slA_nil {w : World} {D : Nat → Prop} : SlA w D none 0 0 [] := ⟨Nat.le_refl _, by unfold maxLen; omega, fun h => absurd rfl h⟩

set_option maxRecDepth 100000 in
theorem ck_vis (gc g : Nat) (hne : gc ≠ g) : VisAt ckV ckF 75 (.pointer (some ⟨gc, 0, none⟩)) (fun k => k = gc ∨ k = g) (fun k => k = gc) g (fun _ b w => Ck gc b w) where
  mNum := ⟨fun _ => by kernel_rfl, fun _ => by kernel_rfl, enters_of Try.func96 (by kernel_rfl) rfl⟩
  mWrd := ⟨fun _ => by kernel_rfl, fun _ => by kernel_rfl, enters_of Try.func100 (by kernel_rfl) rfl⟩
  mId := ⟨fun _ => by kernel_rfl, fun _ => by kernel_rfl, enters_of Try.func95 (by kernel_rfl) rfl⟩
  mRns := ⟨fun _ => by kernel_rfl, fun _ => by kernel_rfl, enters_of Try.func97 (by kernel_rfl) rfl⟩
  mVec := ⟨fun _ => by kernel_rfl, fun _ => by kernel_rfl, enters_of Try.func98 (by kernel_rfl) rfl⟩
  mDat := ⟨fun _ => by kernel_rfl, fun _ => by kernel_rfl, enters_of Try.func94 (by kernel_rfl) rfl⟩
  sub := fun _ h => .inl h
  own := ⟨.inr rfl, fun h => hne h.symm⟩
  set := fun _ b w i u _ h => by
    unfold Ck at h ⊢
    rw [← h]
    simp [World.setCell, Array.getElem?_modify, Ne.symm hne]
  drew := fun _ _ _ h => h
  number := fun _ b w n hn h => (ckNumber_any n w h hn).mono fun e w' hh => ⟨hh.1, by show 0 < _; omega, hh.2.1, hh.2.2⟩
  word := fun _ b w n _ h => (ckWord_any gc n w).mono fun e w' hh => ⟨hh.1, by show 0 < _; omega, by rw [← hh.2]; exact h, by rw [← hh.2]; exact OnlyE.refl _ _⟩
  id := fun _ b w y h => (ckId_any y w h).mono fun e w' hh => ⟨hh.1, hh.2.1, hh.2.2⟩
  runs := fun _ b w A c l hl hA h => (ckRuns_any A l.length c l w h rfl hl hA.lies).mono fun e w' hh => ⟨none, 0, hh.1, slA_nil, by show 0 ≤ _; omega, hh.2.1, hh.2.2⟩
  vector := fun _ b w A c l hl _ hA h => (ckVector_any A l.length c l w h rfl hl hA.lies).mono fun e w' hh => ⟨none, 0, hh.1, slA_nil, ⟨by show 0 ≤ _; omega, by intro y hy; cases hy⟩, hh.2.1, hh.2.2⟩
  data := fun _ b w A c l _ _ h => (ckData_any A l.length c w h).mono fun e w' hh => ⟨none, 0, hh.1, slA_nil, by show 0 ≤ _; omega, hh.2.1, hh.2.2⟩

end Go.Proofs.Ytbfjfidodpgohaa
