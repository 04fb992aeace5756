/- The walks of Has (ident), and of the document's own Has. -/
import Derived.Test.YtoihikeeaobemaaIdX
namespace Go.Proofs.Ytoihikeeaobemaa
open Go.RowKit Go.Sort

/-- Does a run have an id, as ident asks it? -/
def inB (x : Id) (r : Rn) : Bool := !ltB x (firstI r) && ltB x (nextI r)
def hasB (x : Id) (l : List Rn) : Bool := (l.filter runB).any (inB x)

theorem inB_iff (x : Id) {r : Rn} (h : runB r = true) : inB x r = true ↔ r.f = x.f ∧ r.a ≤ x.s ∧ x.s < r.a + r.c := by
  obtain ⟨h1, h2⟩ := nextI_is h
  unfold inB
  rw [Bool.and_eq_true, Bool.not_eq_true', ltB_not, ltB_lt]
  unfold lt
  rw [h1, h2]
  show (¬ (x.f < r.f ∨ (x.f = r.f ∧ x.s < r.a)) ∧ (x.f < r.f ∨ (x.f = r.f ∧ x.s < r.a + r.c))) ↔ _
  omega

theorem hasB_iff (x : Id) (l : List Rn) : hasB x l = true ↔ ∃ r ∈ l, runB r = true ∧ r.f = x.f ∧ r.a ≤ x.s ∧ x.s < r.a + r.c := by
  unfold hasB
  rw [List.any_eq_true]
  constructor
  · rintro ⟨r, hr, hi⟩
    rw [List.mem_filter] at hr
    exact ⟨r, hr.1, hr.2, (inB_iff x hr.2).1 hi⟩
  · rintro ⟨r, hr, hrun, hi⟩
    exact ⟨r, List.mem_filter.2 ⟨hr, hrun⟩, (inB_iff x hrun).2 hi⟩

theorem firstID_lit (r : Rn) (W : World) : Calls Try.prog 28 #[.agg #[.int .u8 (r.f : Int), .int .u64 (r.a : Int), .int .u64 (r.c : Int)]] W fun e w' => e = .returned (valId (firstI r)) ∧ Grew W w' := firstID_any r W
theorem nextID_lit (r : Rn) (W : World) : Calls Try.prog 35 #[.agg #[.int .u8 (r.f : Int), .int .u64 (r.a : Int), .int .u64 (r.c : Int)]] W fun e w' => e = .returned (valId (nextI r)) ∧ Grew W w' := nextID_any r W

set_option maxHeartbeats 800000 in
theorem hasIn_any (x : Id) (r : Rn) (b : Nat) (W : World) (hb : b < W.heap.size) (h0 : W.cell? ⟨b, 0, none⟩ = some (.int .u8 (x.f : Int))) (h1 : W.cell? ⟨b, 1, none⟩ = some (.int .u64 (x.s : Int))) :
    Calls Try.prog 34 #[valRn r, .pointer (some ⟨b, 0, none⟩)] W fun e w' => e = .returned (.bool (inB x r)) ∧ RowKit.Below W.heap.size W w' := by
  have mixed := mixedOrders
  have hl1 := fun W' => less_any x (firstI r) W'
  have hl2 := fun W' => less_any x (nextI r) W'
  have hf := fun W' => firstID_lit r W'
  have hn := fun W' => nextID_lit r W'
  unfold inB
  generalize hp1 : ltB x (firstI r) = p1 at hl1 ⊢
  generalize hp2 : ltB x (nextI r) = p2 at hl2 ⊢
  clear hp1 hp2
  generalize valId (firstI r) = vf at hf hl1
  generalize valId (nextI r) = vn at hn hl2
  unfold valId at hl1 hl2
  unfold valRn
  go_enter Try.func34, Try.ntmps34
  go_wp2_with fail
  generalize hw0 : World.alloc W _ = w0
  obtain ⟨hs0, hG, hcc⟩ := box1 W w0 _ _ hw0
  have x0 := later_cell (w0 := w0) (b := W.heap.size) (by omega) (hcc 0 _ rfl)
  have x1 := later_cell (w0 := w0) (b := W.heap.size) (by omega) (hcc 1 _ rfl)
  have x2 := later_cell (w0 := w0) (b := W.heap.size) (by omega) (hcc 2 _ rfl)
  have y0 := later_cell (w0 := w0) (b := b) (by omega) ((hG.below.cell (p := ⟨b, _, none⟩) hb).trans h0)
  have y1 := later_cell (w0 := w0) (b := b) (by omega) ((hG.below.cell (p := ⟨b, _, none⟩) hb).trans h1)
  have hb0 := hG.below
  clear hcc hw0 hs0 hG h0 h1
  cases p1 with
  | true =>
    refine wp_region_later mixed (by kernel_rfl) ?_
    repeat (go_big_quiet_step (first | (go_at_call 28; exact later_grew (hf _)) | (go_at_call 11; exact later_grew (hl1 _))))
    refine wpQuiet_nil ?_
    intro _ hw'
    obtain ⟨p, rfl⟩ := hw'
    go_wp2
    go_ret
    exact ⟨rfl, hb0.trans (p.hb.mono hb0.size)⟩
  | false =>
    refine wp_region_later mixed (by kernel_rfl) ?_
    repeat (go_big_quiet_step (first | (go_at_call 28; exact later_grew (hf _)) | (go_at_call 35; exact later_grew (hn _)) | (go_at_call_of 11 vf; exact later_grew (hl1 _)) | (go_at_call_of 11 vn; exact later_grew (hl2 _))))
    refine wpQuiet_nil ?_
    intro _ hw'
    obtain ⟨p, rfl⟩ := hw'
    go_wp2
    go_ret
    exact ⟨rfl, hb0.trans (p.hb.mono hb0.size)⟩

theorem contains_any (p : Rn → Bool) (g : Nat) (lb : Array Value) (eg : ∀ args w, (callFunc g args).run Try.prog w = .ok (.enter g args) w) (A : Option Addr) (n c : Nat) (l : List Rn) (w : World) (hp : PredBelow Try.prog g lb valRn p w)
    (hl : l.length = n) (hn : n ≤ 1000) (h : Lies w w.heap.size A (flat encRn l)) :
    Calls Try.prog 31 #[.slice A n c, .func (.func g) #[] lb] w fun e w' => e = .returned (.bool (l.any p)) ∧ RowKit.Below w.heap.size w w' := by
  have hi := indexRns_any p g lb eg A n c l w hp hl hn h
  clear hp h hl
  go_enter Try.func31, Try.ntmps31
  go_wp2_with fail
  refine hi.mono ?_
  rintro e w1 ⟨r, rfl, hF, hb1⟩
  go_wp2
  go_ret
  exact ⟨ret_bool hF.out.found, hb1⟩

set_option maxHeartbeats 800000 in
theorem has_any (x : Id) (A : Option Addr) (n c : Nat) (l : List Rn) (w : World) (hl : l.length = n) (hn : n ≤ 1000) (h : Lies w w.heap.size A (flat encRn l)) :
    Calls Try.prog 17 #[valId x, .slice A n c] w fun e w' => e = .returned (.bool (hasB x l)) ∧ RowKit.Below w.heap.size w w' := by
  have eg : ∀ args w, (callFunc 34 args).run Try.prog w = .ok (.enter 34 args) w := enters_of Try.func34 (by kernel_rfl) rfl
  have EG := Lib.hid eg
  have HL := Lib.hid hl
  have hfl : (l.filter runB).length ≤ 1000 := by have := List.length_filter_le runB l; omega
  unfold hasB
  generalize hLd : l.filter runB = L at hfl ⊢
  have HLd := Lib.hid hLd
  clear eg hl hLd
  unfold valId
  go_enter Try.func17, Try.ntmps17
  go_wp2_with fail
  generalize hw0 : World.alloc w _ = w0
  obtain ⟨hs0, hG, hcc⟩ := box1 w w0 _ _ hw0
  have hwo := withoutRns_any A n c l w0 HL.out hn (h.on hG.below)
  rw [HLd.out] at hwo
  have b0 := hcc 0 _ rfl
  have b1 := hcc 1 _ rfl
  have hb0 := hG.below
  clear hcc hw0 hG h
  refine hwo.mono ?_
  rintro e w1 ⟨A1, n1, c1, rfl, hn1, _, _, hown, hb1⟩
  have k0 := (hb1.cell (p := ⟨w.heap.size, 0, none⟩) (by show w.heap.size < w0.heap.size; omega)).trans b0
  have k1 := (hb1.cell (p := ⟨w.heap.size, 1, none⟩) (by show w.heap.size < w0.heap.size; omega)).trans b1
  have hsz : w.heap.size < w1.heap.size := by have := hb1.size; omega
  have hcon := contains_any (inB x) 34 #[.pointer (some ⟨w.heap.size, 0, none⟩)] EG.out A1 n1 c1 L w1
    (fun W r hW => (hasIn_any x r w.heap.size W (Nat.lt_of_lt_of_le hsz hW.size) ((hW.cell (p := ⟨w.heap.size, 0, none⟩) hsz).trans k0) ((hW.cell (p := ⟨w.heap.size, 1, none⟩) hsz).trans k1)).mono fun _ _ ⟨he, hb⟩ => ⟨he, hW.trans (hb.mono hW.size)⟩)
    hn1.out (by rw [← hn1.out]; exact hfl) (Lies.of_ownK hown)
  have hb01 : RowKit.Below w.heap.size w w1 := hb0.trans (hb1.mono hb0.size)
  clear hown b0 b1 k0 k1 hwo
  go_wp2_with fail
  refine hcon.mono ?_
  rintro e w2 ⟨rfl, hb2⟩
  go_wp2
  go_ret
  exact ⟨rfl, hb01.trans (hb2.mono hb01.size)⟩

end Go.Proofs.Ytoihikeeaobemaa
