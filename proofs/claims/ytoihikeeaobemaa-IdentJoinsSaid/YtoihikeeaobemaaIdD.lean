/- slices.Clone, SortFunc, IndexFunc, ContainsFunc at ids and runs: the library's own contracts laid at this program (the numbers are this seat's: wip/tools/lay_plain.py writes them anew). -/
import Derived.Test.YtoihikeeaobemaaIdC
import Derived.Shelf.SlicesE.Clone
import Derived.Shelf.SlicesQ.IndexFunc
import Derived.Shelf.SlSortCmp.NoneTotal
namespace Go.Proofs.Ytoihikeeaobemaa
open Go.Shelf Go.RowKit Go.Lib Go.Sort

def Try.sortIds_ren : Go.Shelf.Ren := ⟨fun | 6 => 38 | 15 => 50 | 14 => 49 | 28 => 62 | 29 => 63 | 20 => 54 | 21 => 55 | 22 => 56 | 23 => 57 | 24 => 58 | 25 => 59 | 26 => 60 | 27 => 61 | 46 => 64 | 47 => 65 | 48 => 66 | 49 => 67 | 50 => 68 | 57 => 69 | n => n, fun | 22 => 39 | 24 => 24 | 25 => 50 | 3 => 3 | 39 => 67 | 0 => 0 | 53 => 81 | 55 => 22 | 4 => 4 | 46 => 74 | 45 => 73 | 50 => 78 | 5 => 5 | 9 => 9 | 66 => 83 | 70 => 87 | 76 => 89 | 77 => 90 | n => n, fun | n => n⟩

theorem Try.sortIds : Go.Proofs.SlLaysF0.n6 Try.prog Try.sortIds_ren := {
  mixed := by kernel_rfl
  f6 := ⟨Try.f38.name, by decide, Try.func38.trans (congrArg some (by kernel_rfl))⟩
  f14 := ⟨Try.f49.name, by decide, Try.func49.trans (congrArg some (by kernel_rfl))⟩
  f15 := Try.func50.trans (congrArg some (by kernel_rfl))
  f20 := ⟨Try.f54.name, by decide, Try.func54.trans (congrArg some (by kernel_rfl))⟩
  f21 := ⟨Try.f55.name, by decide, Try.func55.trans (congrArg some (by kernel_rfl))⟩
  f22 := ⟨Try.f56.name, by decide, Try.func56.trans (congrArg some (by kernel_rfl))⟩
  f23 := ⟨Try.f57.name, by decide, Try.func57.trans (congrArg some (by kernel_rfl))⟩
  f24 := ⟨Try.f58.name, by decide, Try.func58.trans (congrArg some (by kernel_rfl))⟩
  f25 := ⟨Try.f59.name, by decide, Try.func59.trans (congrArg some (by kernel_rfl))⟩
  f26 := ⟨Try.f60.name, by decide, Try.func60.trans (congrArg some (by kernel_rfl))⟩
  f27 := ⟨Try.f61.name, by decide, Try.func61.trans (congrArg some (by kernel_rfl))⟩
  f28 := Try.func62.trans (congrArg some (by kernel_rfl))
  f29 := Try.func63.trans (congrArg some (by kernel_rfl))
  f46 := ⟨Try.f64.name, by decide, Try.func64.trans (congrArg some (by kernel_rfl))⟩
  f47 := Try.func65.trans (congrArg some (by kernel_rfl))
  f48 := Try.func66.trans (congrArg some (by kernel_rfl))
  f49 := ⟨Try.f67.name, by decide, Try.func67.trans (congrArg some (by kernel_rfl))⟩
  f50 := ⟨Try.f68.name, by decide, Try.func68.trans (congrArg some (by kernel_rfl))⟩
  f57 := ⟨Try.f69.name, by decide, Try.func69.trans (congrArg some (by kernel_rfl))⟩
  t0 := Try.underlying0
  a0 := Try.isAgg0
  z0 := Try.sizeOf0
  v0 := Try.zeroValue0
  t3 := Try.underlying3
  a3 := Try.isAgg3
  z3 := Try.sizeOf3
  v3 := Try.zeroValue3
  t4 := Try.underlying4
  a4 := Try.isAgg4
  z4 := Try.sizeOf4
  v4 := Try.zeroValue4
  t5 := Try.underlying5
  a5 := Try.isAgg5
  z5 := Try.sizeOf5
  v5 := Try.zeroValue5
  t9 := Try.underlying9
  a9 := Try.isAgg9
  z9 := Try.sizeOf9
  v9 := Try.zeroValue9
  t22 := Try.underlying39
  a22 := Try.isAgg39
  z22 := Try.sizeOf39
  v22 := Try.zeroValue39
  t25 := Try.underlying50
  a25 := Try.isAgg50
  z25 := Try.sizeOf50
  v25 := Try.zeroValue50
  t39 := Try.underlying67
  a39 := Try.isAgg67
  z39 := Try.sizeOf67
  v39 := Try.zeroValue67
  t45 := Try.underlying73
  a45 := Try.isAgg73
  z45 := Try.sizeOf73
  v45 := Try.zeroValue73
  t46 := Try.underlying74
  a46 := Try.isAgg74
  z46 := Try.sizeOf74
  v46 := Try.zeroValue74
  t50 := Try.underlying78
  a50 := Try.isAgg78
  z50 := Try.sizeOf78
  v50 := Try.zeroValue78
  t53 := Try.underlying81
  a53 := Try.isAgg81
  z53 := Try.sizeOf81
  v53 := Try.zeroValue81
  t55 := Try.underlying22
  a55 := Try.isAgg22
  z55 := Try.sizeOf22
  v55 := Try.zeroValue22
  t66 := Try.underlying83
  a66 := Try.isAgg83
  z66 := Try.sizeOf83
  v66 := Try.zeroValue83
  t70 := Try.underlying87
  a70 := Try.isAgg87
  z70 := Try.sizeOf87
  v70 := Try.zeroValue87
  t76 := Try.underlying89
  a76 := Try.isAgg89
  z76 := Try.sizeOf89
  v76 := Try.zeroValue89
  t77 := Try.underlying90
  a77 := Try.isAgg90
  z77 := Try.sizeOf90
  v77 := Try.zeroValue90 }

def Try.cloneIds_ren : Go.Shelf.Ren := ⟨fun | 41 => 48 | n => n, fun | 22 => 39 | 23 => 24 | 4 => 4 | n => n, fun | n => n⟩

theorem Try.cloneIds : Go.Proofs.SlLaysE0.n41 Try.prog Try.cloneIds_ren := {
  mixed := by kernel_rfl
  f41 := ⟨Try.f48.name, by decide, Try.func48.trans (congrArg some (by kernel_rfl))⟩
  t4 := Try.underlying4
  a4 := Try.isAgg4
  z4 := Try.sizeOf4
  v4 := Try.zeroValue4
  t22 := Try.underlying39
  a22 := Try.isAgg39
  z22 := Try.sizeOf39
  v22 := Try.zeroValue39 }

def Try.cloneRns_ren : Go.Shelf.Ren := ⟨fun | 41 => 46 | n => n, fun | 22 => 27 | 23 => 26 | 4 => 4 | n => n, fun | n => n⟩

theorem Try.cloneRns : Go.Proofs.SlLaysE0.n41 Try.prog Try.cloneRns_ren := {
  mixed := by kernel_rfl
  f41 := ⟨Try.f46.name, by decide, Try.func46.trans (congrArg some (by kernel_rfl))⟩
  t4 := Try.underlying4
  a4 := Try.isAgg4
  z4 := Try.sizeOf4
  v4 := Try.zeroValue4
  t22 := Try.underlying27
  a22 := Try.isAgg27
  z22 := Try.sizeOf27
  v22 := Try.zeroValue27 }

def Try.indexIds_ren : Go.Shelf.Ren := ⟨fun | 6 => 53 | n => n, fun | 22 => 39 | 23 => 24 | 25 => 57 | 3 => 3 | 0 => 0 | 4 => 4 | n => n, fun | n => n⟩

theorem Try.indexIds : Go.Proofs.SlLaysH0.n6 Try.prog Try.indexIds_ren := {
  mixed := by kernel_rfl
  f6 := ⟨Try.f53.name, by decide, Try.func53.trans (congrArg some (by kernel_rfl))⟩
  t0 := Try.underlying0
  a0 := Try.isAgg0
  z0 := Try.sizeOf0
  v0 := Try.zeroValue0
  t3 := Try.underlying3
  a3 := Try.isAgg3
  z3 := Try.sizeOf3
  v3 := Try.zeroValue3
  t4 := Try.underlying4
  a4 := Try.isAgg4
  z4 := Try.sizeOf4
  v4 := Try.zeroValue4
  t22 := Try.underlying39
  a22 := Try.isAgg39
  z22 := Try.sizeOf39
  v22 := Try.zeroValue39
  t25 := Try.underlying57
  a25 := Try.isAgg57
  z25 := Try.sizeOf57
  v25 := Try.zeroValue57 }

def Try.indexRns_ren : Go.Shelf.Ren := ⟨fun | 6 => 44 | n => n, fun | 22 => 27 | 23 => 26 | 25 => 31 | 3 => 3 | 0 => 0 | 4 => 4 | n => n, fun | n => n⟩

theorem Try.indexRns : Go.Proofs.SlLaysH0.n6 Try.prog Try.indexRns_ren := {
  mixed := by kernel_rfl
  f6 := ⟨Try.f44.name, by decide, Try.func44.trans (congrArg some (by kernel_rfl))⟩
  t0 := Try.underlying0
  a0 := Try.isAgg0
  z0 := Try.sizeOf0
  v0 := Try.zeroValue0
  t3 := Try.underlying3
  a3 := Try.isAgg3
  z3 := Try.sizeOf3
  v3 := Try.zeroValue3
  t4 := Try.underlying4
  a4 := Try.isAgg4
  z4 := Try.sizeOf4
  v4 := Try.zeroValue4
  t22 := Try.underlying27
  a22 := Try.isAgg27
  z22 := Try.sizeOf27
  v22 := Try.zeroValue27
  t25 := Try.underlying31
  a25 := Try.isAgg31
  z25 := Try.sizeOf31
  v25 := Try.zeroValue31 }

def Try.hasRns_ren : Go.Shelf.Ren := ⟨fun | 8 => 31 | 6 => 44 | n => n, fun | 22 => 27 | 23 => 26 | 25 => 31 | 4 => 4 | 3 => 3 | 0 => 0 | n => n, fun | n => n⟩

theorem Try.hasRns : Go.Proofs.SlLaysH0.n8 Try.prog Try.hasRns_ren := {
  mixed := by kernel_rfl
  f6 := ⟨Try.f44.name, by decide, Try.func44.trans (congrArg some (by kernel_rfl))⟩
  f8 := ⟨Try.f31.name, by decide, Try.func31.trans (congrArg some (by kernel_rfl))⟩
  t0 := Try.underlying0
  a0 := Try.isAgg0
  z0 := Try.sizeOf0
  v0 := Try.zeroValue0
  t3 := Try.underlying3
  a3 := Try.isAgg3
  z3 := Try.sizeOf3
  v3 := Try.zeroValue3
  t4 := Try.underlying4
  a4 := Try.isAgg4
  z4 := Try.sizeOf4
  v4 := Try.zeroValue4
  t22 := Try.underlying27
  a22 := Try.isAgg27
  z22 := Try.sizeOf27
  v22 := Try.zeroValue27
  t25 := Try.underlying31
  a25 := Try.isAgg31
  z25 := Try.sizeOf31
  v25 := Try.zeroValue31 }

/-! ### Between the words of append (ownsRow) and of the sort (HoldsK) -/
section
variable {α : Type} [Inhabited α] {enc : α → List Value} {k : Nat}

theorem flatK_eq (hk : ∀ x, (enc x).length = k) (l : List α) : (flatK enc k l.toArray).toList = flat enc l := by
  apply List.ext_getElem?
  intro t
  by_cases ht : t < l.length * k
  · have k0 : 0 < k := by rcases Nat.eq_zero_or_pos k with h | h; · subst h; simp at ht
                          · exact h
    have hi : t / k < l.length := Nat.div_lt_of_lt_mul (by rwa [Nat.mul_comm] at ht)
    have hj : t % k < k := Nat.mod_lt _ k0
    have h1 : (flat enc l)[t]? = (enc l[t / k])[t % k]? := by
      have := flat_at hk l (t / k) (t % k) hj hi
      rwa [show t / k * k + t % k = t by rw [Nat.mul_comm]; exact Nat.div_add_mod t k] at this
    have h2 : (flatK enc k l.toArray)[t]! = (enc l[t / k])[t % k]! := by
      rw [get_flatK _ _ _ _ (by simpa using ht)]
      rw [show l.toArray[t / k]! = l[t / k] by rw [getElem!_pos l.toArray (t / k) (by simpa using hi)]; simp]
    have hs : t < (flatK enc k l.toArray).size := by simpa using ht
    rw [h1, Array.getElem?_toList, Array.getElem?_eq_getElem hs, List.getElem?_eq_getElem (by rw [hk]; exact hj)]
    rw [getElem!_pos _ t hs, getElem!_pos _ (t % k) (by rw [hk]; exact hj)] at h2
    rw [h2]
  · rw [List.getElem?_eq_none (by simp; omega), List.getElem?_eq_none (by rw [flat_length hk]; omega)]

theorem holdsK_own {w : World} {base g n c : Nat} {e : TypeId} (hk : ∀ x, (enc x).length = k) {l : List α} (hl : l.length = n) (h : w.ownsRow base e k (.slice (some ⟨g, 0, none⟩) n c) n (flat enc l)) : HoldsK enc k w g 0 l.toArray := fun j hj => by
  have hj' : j < n * k := by simpa [hl] using hj
  refine ⟨?_, by rw [Nat.zero_add]; exact h.frozenAt j⟩
  rw [Nat.zero_add, h.cellAt j hj', ← flatK_eq hk, Array.getElem?_toList, Array.getElem?_eq_getElem hj, getElem!_pos _ j hj]
  rfl

theorem own_sorted {w : World} {base g n c q : Nat} {e : TypeId} {os : Array Obj} (hk : ∀ x, (enc x).length = k) {l l' : List α} (hl : l.length = n) (hl' : l'.length = n) (h : w.ownsRow base e k (.slice (some ⟨g, 0, none⟩) n c) n (flat enc l)) :
    (sortWorldK enc k w g 0 q l'.toArray os).ownsRow base e k (.slice (some ⟨g, 0, none⟩) n c) n (flat enc l') ∧ w.grownBy (sortWorldK enc k w g 0 q l'.toArray os) (some g) := by
  unfold sortWorldK putRowK
  constructor
  · refine ⟨by rw [flat_length hk, hl'], ?_⟩
    rcases h.2 with ⟨h0, _⟩ | ⟨g', cap, cur, hv, hb, hg, hc, hcm, hcs, ht⟩
    · simp at h0
    · simp only [Value.slice.injEq, Option.some.injEq, Addr.mk.injEq, and_true, true_and] at hv
      obtain ⟨rfl, rfl⟩ := hv
      have hgl : g < w.heap.size := (Array.getElem?_eq_some_iff.1 hg).1
      refine .inr ⟨g, c, putCells id 0 (flatK enc k l'.toArray) cur, rfl, hb, ?_, hc, hcm, by simp [putCells, hcs], ?_⟩
      · rw [heap_grow_old _ _ (by simpa using hgl)]
        simp [putRow, mapBlock, Sort.ahead, Array.getElem?_modify, hg, onCells]
      · rw [← flatK_eq hk]
        have hsz : (flatK enc k l'.toArray).size = n * k := by simp [hl']
        have hle : n * k ≤ c * k := Nat.mul_le_mul_right k hc
        generalize flatK enc k l'.toArray = F at hsz
        apply List.ext_getElem?
        intro j
        by_cases hj : j < n * k
        · rw [List.getElem?_take_of_lt hj, Array.getElem?_toList, Array.getElem?_toList, Array.getElem?_eq_getElem (show j < F.size by omega)]
          have hjc : j < cur.size := by omega
          simp [putCells, hjc, show j < F.size by omega, getElem!_pos F j (by omega)]
        · rw [List.getElem?_take_eq_none (by omega), List.getElem?_eq_none (by simp; omega)]
  · refine ⟨rfl, rfl, rfl, by simp, fun j hj hne => ?_⟩
    rw [heap_grow_old _ _ (by simpa using hj)]
    have : g ≠ j := fun e => hne (by rw [e])
    simp [putRow, mapBlock, Sort.ahead, Array.getElem?_modify, this]
end

/-! ### slices.SortFunc(ids, order) -/
theorem ltOf_ord (x y : Id) : ltOf ordI x y = ltB x y := rfl

theorem ltB_iff (x y : Id) : ltB x y = true ↔ (x.f < y.f ∨ (x.f = y.f ∧ x.s < y.s)) := by
  unfold ltB ordI orI cmpI
  rw [decide_eq_true_eq]
  split <;> rename_i h <;> (repeat' split) <;> (try split at h) <;> (try split at h) <;> omega

theorem swoId : SWO (ltOf ordI) where
  irrefl x := by
    rw [ltOf_ord, Bool.eq_false_iff]
    intro h
    rw [ltB_iff] at h
    omega
  trans x y z h1 h2 := by
    rw [ltOf_ord, ltB_iff] at *
    omega
  ntrans x y z h1 h2 := by
    rw [ltOf_ord] at *
    rw [Bool.eq_false_iff, Ne, ltB_iff] at *
    omega

theorem partId (x y : Id) (h1 : ltOf ordI x y = false) (h2 : ltOf ordI y x = false) : x = y := by
  rw [ltOf_ord, Bool.eq_false_iff, Ne, ltB_iff] at *
  exact Id.same (by omega) (by omega)

/-- The ids in their order. -/
def sortI (l : List Id) : List Id := l.mergeSort fun x y => !ltB y x

theorem sort_any (A : Option Addr) (n c base : Nat) (l : List Id) (w : World) (hl : l.length = n) (hn : n ≤ 1000) (hb : base ≤ w.heap.size) (h : w.ownsRow base 24 2 (.slice A n c) n (flat encId l)) :
    Calls Try.prog 38 #[.slice A n c, .func (.func 27) #[] #[]] w fun e w' => e = .returned (.tuple #[]) ∧ w'.ownsRow base 24 2 (.slice A n c) n (flat encId (sortI l)) ∧ Below base w w' := by
  rcases Nat.eq_zero_or_pos n with h0 | h0
  · subst h0
    have hnil : l = [] := List.eq_nil_of_length_eq_zero hl
    subst hnil
    refine (AnyF.slices_SortFunc_none Try.sortIds A c _ w).mono ?_
    rintro e w' ⟨rfl, rfl⟩
    exact ⟨rfl, by simpa [sortI] using h, Below.refl _ _⟩
  · obtain ⟨g, cap, hv, hbg, hlt⟩ := h.form h0
    injection hv with e1 _ e3
    subst e1 e3
    have eg : ∀ args w, (callFunc 27 args).run Try.prog w = .ok (.enter 27 args) w := enters_of Try.func27 (by kernel_rfl) rfl
    have hcon := AnyQ.slices_SortFunc_total Try.sortIds 2 Try.isAgg24 Try.sizeOf24 encId encId_len encId_one ordI swoId 27 #[] g 0 c l.toArray w eg
      (fun m os dk _ x y => (order_any x y _).mono fun e w' ⟨he, hg⟩ => ⟨he, hg⟩) (holdsK_own encId_len hl h) hlt (by simp; omega) partId
    rw [List.size_toArray, hl] at hcon
    refine hcon.mono ?_
    rintro e w' ⟨rfl, q, os, rfl⟩
    have hs : (sortI l).length = n := by unfold sortI; rw [List.length_mergeSort]; exact hl
    obtain ⟨h1, h2⟩ := own_sorted (q := q) (os := os) encId_len hl hs h
    exact ⟨rfl, h1, (Below.refl base w).grown h2 hb (fun j hj => by injection hj with hj; omega)⟩

end Go.Proofs.Ytoihikeeaobemaa
