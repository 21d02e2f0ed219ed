/- TopCorkApart returns true for every two lists of bars, valid or not, and leaves both as they were. Conditions: none. -/
import Derived.Test.YtkplpmhdmlkjhaaA3
import Derived.Test.YtkplpmhdmlkjhaaRows
import Derived.Shelf.SlGeneric
import Derived.Shelf.SlLaysF0
import Derived.Sort.OwnSorted
import Derived.Shelf.SlSortCmp.InsertionK
import Derived.Shelf.SlSortCmp.NoneTotal
/- The sort of the library laid at this program, at bars and at knots. -/
namespace Go.Proofs.Ytkplpmhdmlkjhaa
open Go.Shelf
def Try.sortB_ren : Go.Shelf.Ren := ⟨fun | 6 => 69 | 15 => 73 | 14 => 79 | 28 => 88 | 29 => 89 | 20 => 91 | 21 => 92 | 22 => 93 | 23 => 94 | 24 => 95 | 25 => 96 | 26 => 97 | 27 => 98 | 46 => 104 | 47 => 100 | 48 => 101 | 49 => 105 | 50 => 106 | 57 => 108 | n => n, fun | 22 => 22 | 24 => 50 | 25 => 92 | 3 => 3 | 39 => 114 | 0 => 0 | 53 => 130 | 55 => 132 | 4 => 4 | 46 => 123 | 45 => 122 | 50 => 127 | 5 => 5 | 9 => 9 | 66 => 139 | 70 => 143 | 76 => 147 | 77 => 148 | n => n, fun | n => n⟩
theorem Try.sortB : Go.Proofs.SlLaysF0.n6 Try.prog Try.sortB_ren := {
  mixed := by kernel_rfl,
  f6 := ⟨Try.f69.name, by decide, Try.func69.trans (congrArg some (by kernel_rfl))⟩,
  f14 := ⟨Try.f79.name, by decide, Try.func79.trans (congrArg some (by kernel_rfl))⟩,
  f15 := Try.func73.trans (congrArg some (by kernel_rfl)),
  f20 := ⟨Try.f91.name, by decide, Try.func91.trans (congrArg some (by kernel_rfl))⟩,
  f21 := ⟨Try.f92.name, by decide, Try.func92.trans (congrArg some (by kernel_rfl))⟩,
  f22 := ⟨Try.f93.name, by decide, Try.func93.trans (congrArg some (by kernel_rfl))⟩,
  f23 := ⟨Try.f94.name, by decide, Try.func94.trans (congrArg some (by kernel_rfl))⟩,
  f24 := ⟨Try.f95.name, by decide, Try.func95.trans (congrArg some (by kernel_rfl))⟩,
  f25 := ⟨Try.f96.name, by decide, Try.func96.trans (congrArg some (by kernel_rfl))⟩,
  f26 := ⟨Try.f97.name, by decide, Try.func97.trans (congrArg some (by kernel_rfl))⟩,
  f27 := ⟨Try.f98.name, by decide, Try.func98.trans (congrArg some (by kernel_rfl))⟩,
  f28 := Try.func88.trans (congrArg some (by kernel_rfl)),
  f29 := Try.func89.trans (congrArg some (by kernel_rfl)),
  f46 := ⟨Try.f104.name, by decide, Try.func104.trans (congrArg some (by kernel_rfl))⟩,
  f47 := Try.func100.trans (congrArg some (by kernel_rfl)),
  f48 := Try.func101.trans (congrArg some (by kernel_rfl)),
  f49 := ⟨Try.f105.name, by decide, Try.func105.trans (congrArg some (by kernel_rfl))⟩,
  f50 := ⟨Try.f106.name, by decide, Try.func106.trans (congrArg some (by kernel_rfl))⟩,
  f57 := ⟨Try.f108.name, by decide, Try.func108.trans (congrArg some (by kernel_rfl))⟩,
  t0 := Try.underlying0,
  a0 := Try.isAgg0,
  z0 := Try.sizeOf0,
  v0 := Try.zeroValue0,
  t3 := Try.underlying3,
  a3 := Try.isAgg3,
  z3 := Try.sizeOf3,
  v3 := Try.zeroValue3,
  t4 := Try.underlying4,
  a4 := Try.isAgg4,
  z4 := Try.sizeOf4,
  v4 := Try.zeroValue4,
  t5 := Try.underlying5,
  a5 := Try.isAgg5,
  z5 := Try.sizeOf5,
  v5 := Try.zeroValue5,
  t9 := Try.underlying9,
  a9 := Try.isAgg9,
  z9 := Try.sizeOf9,
  v9 := Try.zeroValue9,
  t22 := Try.underlying22,
  a22 := Try.isAgg22,
  z22 := Try.sizeOf22,
  v22 := Try.zeroValue22,
  t25 := Try.underlying92,
  a25 := Try.isAgg92,
  z25 := Try.sizeOf92,
  v25 := Try.zeroValue92,
  t39 := Try.underlying114,
  a39 := Try.isAgg114,
  z39 := Try.sizeOf114,
  v39 := Try.zeroValue114,
  t45 := Try.underlying122,
  a45 := Try.isAgg122,
  z45 := Try.sizeOf122,
  v45 := Try.zeroValue122,
  t46 := Try.underlying123,
  a46 := Try.isAgg123,
  z46 := Try.sizeOf123,
  v46 := Try.zeroValue123,
  t50 := Try.underlying127,
  a50 := Try.isAgg127,
  z50 := Try.sizeOf127,
  v50 := Try.zeroValue127,
  t53 := Try.underlying130,
  a53 := Try.isAgg130,
  z53 := Try.sizeOf130,
  v53 := Try.zeroValue130,
  t55 := Try.underlying132,
  a55 := Try.isAgg132,
  z55 := Try.sizeOf132,
  v55 := Try.zeroValue132,
  t66 := Try.underlying139,
  a66 := Try.isAgg139,
  z66 := Try.sizeOf139,
  v66 := Try.zeroValue139,
  t70 := Try.underlying143,
  a70 := Try.isAgg143,
  z70 := Try.sizeOf143,
  v70 := Try.zeroValue143,
  t76 := Try.underlying147,
  a76 := Try.isAgg147,
  z76 := Try.sizeOf147,
  v76 := Try.zeroValue147,
  t77 := Try.underlying148,
  a77 := Try.isAgg148,
  z77 := Try.sizeOf148,
  v77 := Try.zeroValue148 }
def Try.sortK_ren : Go.Shelf.Ren := ⟨fun | 6 => 53 | 15 => 73 | 14 => 72 | 28 => 88 | 29 => 89 | 20 => 80 | 21 => 81 | 22 => 82 | 23 => 83 | 24 => 84 | 25 => 85 | 26 => 86 | 27 => 87 | 46 => 99 | 47 => 100 | 48 => 101 | 49 => 102 | 50 => 103 | 57 => 107 | n => n, fun | 22 => 36 | 24 => 30 | 25 => 70 | 3 => 3 | 39 => 114 | 0 => 0 | 53 => 130 | 55 => 132 | 4 => 4 | 46 => 123 | 45 => 122 | 50 => 127 | 5 => 5 | 9 => 9 | 66 => 139 | 70 => 143 | 76 => 147 | 77 => 148 | n => n, fun | n => n⟩
theorem Try.sortK : Go.Proofs.SlLaysF0.n6 Try.prog Try.sortK_ren := {
  mixed := by kernel_rfl,
  f6 := ⟨Try.f53.name, by decide, Try.func53.trans (congrArg some (by kernel_rfl))⟩,
  f14 := ⟨Try.f72.name, by decide, Try.func72.trans (congrArg some (by kernel_rfl))⟩,
  f15 := Try.func73.trans (congrArg some (by kernel_rfl)),
  f20 := ⟨Try.f80.name, by decide, Try.func80.trans (congrArg some (by kernel_rfl))⟩,
  f21 := ⟨Try.f81.name, by decide, Try.func81.trans (congrArg some (by kernel_rfl))⟩,
  f22 := ⟨Try.f82.name, by decide, Try.func82.trans (congrArg some (by kernel_rfl))⟩,
  f23 := ⟨Try.f83.name, by decide, Try.func83.trans (congrArg some (by kernel_rfl))⟩,
  f24 := ⟨Try.f84.name, by decide, Try.func84.trans (congrArg some (by kernel_rfl))⟩,
  f25 := ⟨Try.f85.name, by decide, Try.func85.trans (congrArg some (by kernel_rfl))⟩,
  f26 := ⟨Try.f86.name, by decide, Try.func86.trans (congrArg some (by kernel_rfl))⟩,
  f27 := ⟨Try.f87.name, by decide, Try.func87.trans (congrArg some (by kernel_rfl))⟩,
  f28 := Try.func88.trans (congrArg some (by kernel_rfl)),
  f29 := Try.func89.trans (congrArg some (by kernel_rfl)),
  f46 := ⟨Try.f99.name, by decide, Try.func99.trans (congrArg some (by kernel_rfl))⟩,
  f47 := Try.func100.trans (congrArg some (by kernel_rfl)),
  f48 := Try.func101.trans (congrArg some (by kernel_rfl)),
  f49 := ⟨Try.f102.name, by decide, Try.func102.trans (congrArg some (by kernel_rfl))⟩,
  f50 := ⟨Try.f103.name, by decide, Try.func103.trans (congrArg some (by kernel_rfl))⟩,
  f57 := ⟨Try.f107.name, by decide, Try.func107.trans (congrArg some (by kernel_rfl))⟩,
  t0 := Try.underlying0,
  a0 := Try.isAgg0,
  z0 := Try.sizeOf0,
  v0 := Try.zeroValue0,
  t3 := Try.underlying3,
  a3 := Try.isAgg3,
  z3 := Try.sizeOf3,
  v3 := Try.zeroValue3,
  t4 := Try.underlying4,
  a4 := Try.isAgg4,
  z4 := Try.sizeOf4,
  v4 := Try.zeroValue4,
  t5 := Try.underlying5,
  a5 := Try.isAgg5,
  z5 := Try.sizeOf5,
  v5 := Try.zeroValue5,
  t9 := Try.underlying9,
  a9 := Try.isAgg9,
  z9 := Try.sizeOf9,
  v9 := Try.zeroValue9,
  t22 := Try.underlying36,
  a22 := Try.isAgg36,
  z22 := Try.sizeOf36,
  v22 := Try.zeroValue36,
  t25 := Try.underlying70,
  a25 := Try.isAgg70,
  z25 := Try.sizeOf70,
  v25 := Try.zeroValue70,
  t39 := Try.underlying114,
  a39 := Try.isAgg114,
  z39 := Try.sizeOf114,
  v39 := Try.zeroValue114,
  t45 := Try.underlying122,
  a45 := Try.isAgg122,
  z45 := Try.sizeOf122,
  v45 := Try.zeroValue122,
  t46 := Try.underlying123,
  a46 := Try.isAgg123,
  z46 := Try.sizeOf123,
  v46 := Try.zeroValue123,
  t50 := Try.underlying127,
  a50 := Try.isAgg127,
  z50 := Try.sizeOf127,
  v50 := Try.zeroValue127,
  t53 := Try.underlying130,
  a53 := Try.isAgg130,
  z53 := Try.sizeOf130,
  v53 := Try.zeroValue130,
  t55 := Try.underlying132,
  a55 := Try.isAgg132,
  z55 := Try.sizeOf132,
  v55 := Try.zeroValue132,
  t66 := Try.underlying139,
  a66 := Try.isAgg139,
  z66 := Try.sizeOf139,
  v66 := Try.zeroValue139,
  t70 := Try.underlying143,
  a70 := Try.isAgg143,
  z70 := Try.sizeOf143,
  v70 := Try.zeroValue143,
  t76 := Try.underlying147,
  a76 := Try.isAgg147,
  z76 := Try.sizeOf147,
  v76 := Try.zeroValue147,
  t77 := Try.underlying148,
  a77 := Try.isAgg148,
  z77 := Try.sizeOf148,
  v77 := Try.zeroValue148 }
end Go.Proofs.Ytkplpmhdmlkjhaa

/- A row of the call's own with elements of k cells, before and behind the library's sort. -/
namespace Go.Proofs.Ytkplpmhdmlkjhaa
open Go.RowKit Go.Sort

variable {α : Type} [Inhabited α]
theorem flat_at (enc : α → List Value) (k : Nat) (hk : ∀ x, (enc x).length = k) : ∀ (ss : List α) (t : Nat), t < ss.length * k → (ss.flatMap enc)[t]? = some ((enc (ss[t / k]!))[t % k]!)
  | [], t, h => by simp at h
  | a :: r, t, h => by
    have k0 : 0 < k := by
      rcases Nat.eq_zero_or_pos k with h0 | h0
      · subst h0; simp at h
      · exact h0
    rw [List.flatMap_cons]
    by_cases ht : t < k
    · rw [List.getElem?_append_left (by rw [hk]; exact ht), Nat.div_eq_of_lt ht, Nat.mod_eq_of_lt ht]
      have : t < (enc a).length := by rw [hk]; exact ht
      simp [this]
    · have h1 : t - k < r.length * k := by
        have : (a :: r).length * k = r.length * k + k := by rw [List.length_cons, Nat.add_mul, Nat.one_mul]
        omega
      have e1 : t / k = (t - k) / k + 1 := by
        have e := Nat.add_div_right (t - k) k0
        rwa [Nat.sub_add_cancel (by omega)] at e
      have e2 : t % k = (t - k) % k := by
        have e := Nat.add_mod_right (t - k) k
        rw [Nat.sub_add_cancel (by omega)] at e
        exact e
      rw [List.getElem?_append_right (by rw [hk]; omega), hk, flat_at enc k hk r (t - k) h1, e1, e2]
      simp
omit [Inhabited α] in
theorem flat_length (enc : α → List Value) (k : Nat) (hk : ∀ x, (enc x).length = k) : ∀ (ss : List α), (ss.flatMap enc).length = ss.length * k
  | [] => by simp
  | a :: r => by rw [List.flatMap_cons, List.length_append, hk, flat_length enc k hk r, List.length_cons, Nat.add_mul, Nat.one_mul]; omega
theorem flatK_list (enc : α → List Value) (k : Nat) (hk : ∀ x, (enc x).length = k) (ss : List α) : flatK enc k ss.toArray = (ss.flatMap enc).toArray := by
  refine ext_get! (by simp [flat_length enc k hk]) fun t ht => ?_
  have ht' : t < ss.length * k := by simpa using ht
  rw [get_flatK enc k _ t (by simpa using ht')]
  have h := flat_at enc k hk ss t ht'
  rw [getElem!_pos _ t (by simpa [flat_length enc k hk] using ht')]
  rw [List.getElem?_eq_getElem (by rw [flat_length enc k hk]; exact ht'), Option.some.injEq] at h
  rw [List.getElem_toArray, h]
  simp
theorem holdsK_of_row (enc : α → List Value) (k : Nat) (hk : ∀ x, (enc x).length = k) {w : World} {g : Nat} {cur : Array Value} {e : TypeId} (ss : List α) (hb : w.heap[g]? = some (.cells cur e (0, 0))) (ht : cur.toList.take (ss.length * k) = ss.flatMap enc) :
    HoldsK enc k w g 0 ss.toArray := by
  unfold HoldsK
  rw [flatK_list enc k hk]
  intro j hj
  have hj' : j < ss.length * k := by simpa [flat_length enc k hk] using hj
  refine ⟨?_, by simp [World.frozen?, hb]⟩
  have h1 : (cur.toList.take (ss.length * k))[j]? = (ss.flatMap enc)[j]? := by rw [ht]
  rw [List.getElem?_take_of_lt hj', flat_at enc k hk ss j hj'] at h1
  have h2 := flat_at enc k hk ss j hj'
  have h3 : (ss.flatMap enc).toArray[j]! = (enc ss[j / k]!)[j % k]! := by
    rw [getElem!_pos _ j hj, List.getElem_toArray]
    rw [List.getElem?_eq_getElem (by rw [flat_length enc k hk]; exact hj'), Option.some.injEq] at h2
    exact h2
  rw [h3]
  simp only [World.cell?, hb, Nat.zero_add, id]
  simp only [Option.isSome_none, Bool.false_eq_true, if_false]
  rw [← Array.getElem?_toList, h1]
theorem take_put (cur : Array Value) (ts : List Value) (h : ts.length ≤ cur.size) : (putCells id 0 ts.toArray cur).toList.take ts.length = ts := by
  apply List.ext_getElem?
  intro j
  by_cases hj : j < ts.length
  · rw [List.getElem?_take_of_lt hj, Array.getElem?_toList]
    simp [putCells, hj, show j < cur.size by omega]
  · rw [List.getElem?_take_eq_none (by omega), List.getElem?_eq_none (by omega)]
theorem sorted_heap {w : World} {g m : Nat} {os : Array Obj} {cur : Array Value} {e : TypeId} {fr : Nat × Nat} (F : Array Value) (hb : w.heap[g]? = some (.cells cur e fr)) :
    (grow (putRow id (Sort.ahead w m) g 0 F) os).heap[g]? = some (.cells (putCells id 0 F cur) e fr) := by
  have hg : g < w.heap.size := (Array.getElem?_eq_some_iff.1 hb).1
  rw [heap_grow_old _ _ (by simpa using hg)]
  simp [putRow, mapBlock, Sort.ahead, Array.getElem?_modify, hb, onCells]
theorem sorted_grown {w : World} {g m : Nat} {os : Array Obj} (F : Array Value) : w.grownBy (grow (putRow id (Sort.ahead w m) g 0 F) os) (some g) := by
  refine ⟨rfl, rfl, rfl, by simp, fun k hk hne => ?_⟩
  rw [heap_grow_old _ _ (by simpa using hk)]
  have : g ≠ k := fun e => hne (by rw [e])
  simp [putRow, mapBlock, Sort.ahead, Array.getElem?_modify, this]
/-- Behind the sort the same slice owns the cells of the permuted elements. -/
theorem sorted_owns (enc : α → List Value) (k : Nat) (hk : ∀ x, (enc x).length = k) {w : World} {base g cap m : Nat} {e : TypeId} {os : Array Obj} {cur : Array Value} (ss : List α) (hbase : base ≤ g) (hb : w.heap[g]? = some (.cells cur e (0, 0)))
    (h1 : ss.length ≤ cap) (h2 : cap ≤ maxLen) (h3 : cur.size = cap * k) :
    (sortWorldK enc k w g 0 m ss.toArray os).ownsRow base e k (.slice (some ⟨g, 0, none⟩) ss.length cap) ss.length (ss.flatMap enc) ∧ (base ≤ w.heap.size → Below base w (sortWorldK enc k w g 0 m ss.toArray os)) := by
  unfold sortWorldK putRowK
  rw [flatK_list enc k hk]
  refine ⟨⟨flat_length enc k hk ss, .inr ⟨g, cap, _, rfl, hbase, sorted_heap _ hb, h1, h2, by simp [putCells, h3], ?_⟩⟩, fun hB => (Below.refl _ _).grown (sorted_grown _) hB (fun j e => by cases e; exact hbase)⟩
  have hle : (ss.flatMap enc).length ≤ cur.size := by rw [flat_length enc k hk, h3]; exact Nat.mul_le_mul_right k h1
  have := take_put cur (ss.flatMap enc) hle
  rwa [flat_length enc k hk] at this
end Go.Proofs.Ytkplpmhdmlkjhaa

/- The library's sort at bars by compareBars. -/
namespace Go.Proofs.Ytkplpmhdmlkjhaa
open Go.RowKit Go.Sort Go.Shelf

instance (a b : Ck.Bar) : Decidable (Ck.Blt a b) := by unfold Ck.Blt; infer_instance
instance : Inhabited Ck.Bar := ⟨⟨0, 0, 0⟩⟩
instance : Inhabited Ck.Knot := ⟨⟨0, 0⟩⟩
theorem ltBars (x y : Ck.Bar) : ltOf cmpB x y = decide (Ck.Blt x y) := by
  unfold ltOf
  rw [decide_eq_decide, cmpB_lt_iff]
theorem swoBars : SWO (ltOf cmpB) where
  irrefl x := by rw [ltBars, decide_eq_false_iff_not]; exact fun h => h.irrefl
  trans x y z h1 h2 := by
    rw [ltBars, decide_eq_true_eq] at *
    exact h1.trans h2
  ntrans x y z h1 h2 := by
    rw [ltBars, decide_eq_false_iff_not] at *
    unfold Ck.Blt at *
    omega
theorem totBars (x y : Ck.Bar) (h1 : ltOf cmpB x y = false) (h2 : ltOf cmpB y x = false) : x = y := by
  rw [ltBars, decide_eq_false_iff_not] at *
  rcases Ck.Blt.tri x y with h | h | h
  · exact absurd h h1
  · exact h
  · exact absurd h h2
theorem layBars (blk off size : Nat) (w : World) : CmpLays Try.prog 51 #[] bcells 3 cmpB blk off size w := fun _ _ _ _ x y =>
  (netCompareBars x.x x.y x.s y.x y.y y.s _).mono fun e w' h => by
    obtain ⟨he, rfl⟩ := h
    exact ⟨he, 1, _, by rw [alloc_eq_grow, alloc_eq_grow, alloc_eq_grow, grow_grow, grow_grow]; rfl⟩

def leB (x y : Ck.Bar) : Bool := !(ltOf cmpB y x)
def sortBars (l : List Ck.Bar) : List Ck.Bar := l.mergeSort leB
theorem leB_iff (x y : Ck.Bar) : leB x y = true ↔ ¬ Ck.Blt y x := by simp [leB, ltBars]
theorem sortBars_perm (l : List Ck.Bar) : (sortBars l).Perm l := List.mergeSort_perm l leB
theorem sortBars_sorted (l : List Ck.Bar) : (sortBars l).Pairwise fun x y => ¬ Ck.Blt y x := by
  have := List.pairwise_mergeSort (le := leB) (fun a b c h1 h2 => by rw [leB_iff] at *; unfold Ck.Blt at *; omega) (fun a b => by rw [Bool.or_eq_true, leB_iff, leB_iff]; unfold Ck.Blt; omega) l
  exact this.imp fun {a b} h => (leB_iff a b).1 h
theorem sortBars_strict {l : List Ck.Bar} (hn : l.Nodup) : (sortBars l).Pairwise Ck.Blt := by
  have h1 := sortBars_sorted l
  have h2 : (sortBars l).Nodup := (sortBars_perm l).nodup_iff.2 hn
  exact h1.imp₂ (fun a b h k => by
    rcases Ck.Blt.tri a b with h' | h' | h'
    · exact h'
    · exact absurd h' k
    · exact absurd h' h) h2
theorem sortBars_net {l : List Ck.Bar} (h : l.Pairwise Ck.Blt) : sortBars l = l :=
  List.Perm.eq_of_pairwise (le := fun a b => ¬ Ck.Blt b a) (fun a b _ _ h1 h2 => by
    rcases Ck.Blt.tri a b with h' | h' | h'
    · exact absurd h' h2
    · exact h'
    · exact absurd h' h1) (sortBars_sorted l) (h.imp fun {a b} h k => (h.trans k).irrefl) (sortBars_perm l)

theorem netSortBars (base : Nat) (v : Value) (l : List Ck.Bar) (w : World) (hl : l.length ≤ 100000) (hB : base ≤ w.heap.size) (h : w.ownsRow base 50 3 v l.length (bcellsL l)) :
    Calls Try.prog 69 #[v, .func (.func 51) #[] #[]] w fun e w' => e = .returned (.tuple #[]) ∧ w'.ownsRow base 50 3 v l.length (bcellsL (sortBars l)) ∧ Below base w w' := by
  have eg : ∀ args w, (callFunc 51 args).run Try.prog w = .ok (.enter 51 args) w := enters_of Try.func51 (by kernel_rfl) rfl
  rcases h.2 with ⟨rfl, hz⟩ | ⟨g, cap, cur, rfl, hbase, hgb, r1, r2, r3, r4⟩
  · have hl0 : l = [] := List.eq_nil_of_length_eq_zero hz
    subst hl0
    have hc := AnyF.slices_SortFunc_none Try.sortB none 0 (.func (.func 51) #[] #[]) w
    change Calls Try.prog 69 _ _ _ at hc
    exact hc.mono fun e w' ⟨he, hw⟩ => ⟨he, by rw [hw]; exact ⟨by simp [sortBars, bcellsL], .inl ⟨rfl, rfl⟩⟩, by rw [hw]; exact Below.refl _ _⟩
  · have hH := holdsK_of_row bcells 3 (fun _ => rfl) l hgb (r4.trans rfl)
    have hgl : g < w.heap.size := (Array.getElem?_eq_some_iff.1 hgb).1
    have hc := AnyQ.slices_SortFunc_total Try.sortB 3 Try.isAgg50 Try.sizeOf50 bcells (fun _ => rfl) (fun x v hv => by simp [bcells] at hv; rcases hv with rfl | rfl | rfl <;> rfl) cmpB swoBars 51 #[] g 0 cap l.toArray w eg (layBars g 0 _ w) hH hgl (by simp; omega) totBars
    change Calls Try.prog 69 _ _ _ at hc
    rw [List.size_toArray] at hc
    refine hc.mono fun e w' ⟨he, n, os, hw⟩ => ?_
    have hs : (l.toArray.toList.mergeSort fun x y => !(ltOf cmpB) y x) = sortBars l := rfl
    rw [hs] at hw
    have hp := (sortBars_perm l).length_eq
    obtain ⟨q1, q2⟩ := sorted_owns bcells 3 (fun _ => rfl) (m := n) (os := os) (sortBars l) hbase hgb (by rw [hp]; exact r1) r2 r3
    rw [hp] at q1
    rw [hw]
    exact ⟨he, q1, q2 hB⟩
end Go.Proofs.Ytkplpmhdmlkjhaa

/- The contract of moved, by a shift's closure. -/
namespace Go.Proofs.Ytkplpmhdmlkjhaa
open Go.RowKit

theorem made_row (w : World) (base n : Nat) (hb : base ≤ w.heap.size) (hn : n ≤ 4096) (cs : Array Value) (hcs : cs.size = n * 3) (t : TypeId) : (w.alloc (.cells cs t)).ownsRow base t 3 (.slice (some ⟨w.heap.size, 0, none⟩) 0 n) 0 [] :=
  ⟨by simp, .inr ⟨_, _, _, rfl, hb, heap_alloc_new _ _, Nat.zero_le _, by unfold maxLen; omega, hcs, by simp⟩⟩
def zeros3 (n : Nat) : Array Value := madeCells (Value.agg #[.int .i64 0, .int .i64 0, .int .i64 0]).cells (n * 3)

def K5 (W : World) (g g0 : Nat) (a b c d e : Value) (w0 : World) : Prop := w0.cell? ⟨g, 0, none⟩ = some a ∧ w0.cell? ⟨g, 1, none⟩ = some b ∧ w0.cell? ⟨g, 2, none⟩ = some c ∧ w0.cell? ⟨g0, 0, none⟩ = some d ∧ w0.cell? ⟨g0, 1, none⟩ = some e ∧ g < w0.heap.size ∧ g0 < w0.heap.size ∧ Below g W w0
theorem carry5 {W w0 w1 : World} {g g0 : Nat} {a b c d e : Value} (hb : Below w0.heap.size w0 w1) (h : K5 W g g0 a b c d e w0) : K5 W g g0 a b c d e w1 :=
  ⟨(hb.cell (p := ⟨g, _, none⟩) h.2.2.2.2.2.1).trans h.1, (hb.cell (p := ⟨g, _, none⟩) h.2.2.2.2.2.1).trans h.2.1, (hb.cell (p := ⟨g, _, none⟩) h.2.2.2.2.2.1).trans h.2.2.1, (hb.cell (p := ⟨g0, _, none⟩) h.2.2.2.2.2.2.1).trans h.2.2.2.1, (hb.cell (p := ⟨g0, _, none⟩) h.2.2.2.2.2.2.1).trans h.2.2.2.2.1, Nat.lt_of_lt_of_le h.2.2.2.2.2.1 hb.size, Nat.lt_of_lt_of_le h.2.2.2.2.2.2.1 hb.size, h.2.2.2.2.2.2.2.trans (hb.mono (Nat.le_of_lt h.2.2.2.2.2.1))⟩
theorem K5.below {W w0 : World} {g g0 : Nat} {a b c d e : Value} (h : K5 W g g0 a b c d e w0) : Below g W w0 := h.2.2.2.2.2.2.2

theorem mov_row {w10 : World} {base : Nat} {v : Value} {l : List Ck.Bar} {k : Nat} {dx dy : Int} (hlt : k < l.length) (h : w10.ownsRow base 50 3 v (k + 1) (bcellsL ((l.take k).map (Ck.Bar.shift dx dy)) ++ [.int .i64 (l[k].x + dx), .int .i64 (l[k].y + dy), .int .i64 l[k].s])) :
    Hid (w10.ownsRow base 50 3 v (k + 1) (bcellsL ((l.take (k + 1)).map (Ck.Bar.shift dx dy)))) := by
  rw [List.take_succ_eq_append_getElem hlt, List.map_append, bcellsL, List.flatMap_append, ← bcellsL]
  exact h
theorem mov_below {wr w9 w10 : World} {o : Obj} {base : Nat} {row : Option Nat} (hb : Below wr.heap.size wr w9) (hg : (w9.alloc o).grownBy w10 row) (hrow : ∀ k, row = some k → base ≤ k) (hbz : base ≤ wr.heap.size) : Below base wr w10 :=
  (((hb.mono hbz).alloc (Nat.le_trans hbz hb.size) _)).grown hg (by have := hb.size; simp; omega) hrow

def MovPost (l : List Ck.Bar) (dx dy : Int) (w : World) (e : Ending) (w' : World) : Prop :=
  ∃ v, e = .returned v ∧ w'.ownsRow w.heap.size 50 3 v l.length (bcellsL (sortBars (l.map (Ck.Bar.shift dx dy)))) ∧ Below w.heap.size w w'

set_option maxHeartbeats 4000000 in
set_option maxRecDepth 100000 in
theorem netMoved (A : Option Addr) (c g0 : Nat) (l : List Ck.Bar) (dx dy : Int) (w : World) (hl : l.length ≤ 4096) (hok : ∀ x ∈ l, Ck.okBar x) (h : RB w w.heap.size A l) (k1 : -500000 ≤ dx) (k2 : dx ≤ 500000) (k3 : -500000 ≤ dy) (k4 : dy ≤ 500000)
    (hg : g0 < w.heap.size) (c0 : w.cell? ⟨g0, 0, none⟩ = some (.int .i64 dx)) (c1 : w.cell? ⟨g0, 1, none⟩ = some (.int .i64 dy)) :
    Calls Try.prog 47 #[.slice A l.length c, .func (.func 48) #[] #[.pointer (some ⟨g0, 0, none⟩)]] w (MovPost l dx dy w) := by
  obtain ⟨ib, hib, hb0, hb01, hb02⟩ := info_parts Try.info50
  have hmk : ∀ W : World, (Instr.makeSlice 22 (.int .i64 0) (.int .i64 (l.length : Int))).run Try.prog W = .ok (.slice (some ⟨W.heap.size, 0, none⟩) 0 l.length) (W.alloc (.cells (zeros3 l.length) 50)) := fun W => by
    have := run_make (P := Try.prog) W 22 50 ib _ Try.underlying22 hib hb0 .i64 .i64 0 (l.length : Int) (by omega) (by omega) (by rw [hb02]; omega) (by omega)
    rw [hb01, Int.toNat_natCast] at this
    exact this
  have HIB := Lib.hid hib
  have HB0 := Lib.hid hb0
  have HB1 := Lib.hid hb01
  have HB2 := Lib.hid hb02
  have HR := Lib.hid h
  have hl' : (l.length : Int) ≤ 4096 := by omega
  clear hib hb0 hb01 hb02 h
  go_enter Try.func47, Try.ntmps47
  go_wp2_with fail
  go_loopw [5, 7, 13] (fun v _ i wi => ∃ k : Nat, k ≤ l.length ∧ i = .int .i64 k ∧ Hid (wi.ownsRow w.heap.size 50 3 v k (bcellsL ((l.take k).map (Ck.Bar.shift dx dy)))) ∧ Below w.heap.size w wi) (fun _ _ i _ => l.length - (intOf i).toNat)
  case atStart => exact ⟨0, Nat.zero_le _, rfl, made_row _ _ _ (Nat.le_refl _) hl _ (by rw [zeros3, size_madeCells]) _, (Below.refl _ _).alloc (Nat.le_refl _) _⟩
  case round =>
    obtain ⟨k, hk, rfl, hown, hb⟩ := hrel
    by_cases hlt : k < l.length
    · obtain ⟨b, off, rfl, hB, hc⟩ := HR.out.below hb (by omega)
      obtain ⟨d0, d1, d2⟩ := hc k hlt
      have hbz := hb.size
      obtain ⟨⟨⟨hx1, hx2⟩, ⟨hy1, hy2⟩, _⟩, hs, _⟩ := hok _ (List.getElem_mem hlt)
      replace hx1 : -100000 ≤ l[k].x := hx1
      replace hx2 : l[k].x ≤ 100000 := hx2
      replace hy1 : -100000 ≤ l[k].y := hy1
      replace hy2 : l[k].y ≤ 100000 := hy2
      have hs1 : -1 ≤ l[k].s := by omega
      have hs2 : l[k].s ≤ 1 := by omega
      have q0 := (hb.cell (p := ⟨g0, 0, none⟩) hg).trans c0
      have q1 := (hb.cell (p := ⟨g0, 1, none⟩) hg).trans c1
      clear hc hs
      go_wp2_with fail
      obtain ⟨w1, hw1, e0, e1, e2, hb1, hz1⟩ := box3 wr (.int .i64 l[k].x) (.int .i64 l[k].y) (.int .i64 l[k].s) 50
      rw [← hw1]
      clear hw1 d0 d1 d2
      replace q0 := (hb1.cell (p := ⟨g0, 0, none⟩) (by show g0 < _; omega)).trans q0
      replace q1 := (hb1.cell (p := ⟨g0, 1, none⟩) (by show g0 < _; omega)).trans q1
      have hk0 : K5 wr wr.heap.size g0 (.int .i64 l[k].x) (.int .i64 l[k].y) (.int .i64 l[k].s) (.int .i64 dx) (.int .i64 dy) w1.drew := ⟨e0, e1, e2, q0, q1, hz1, by show g0 < w1.heap.size; omega, below_drew hb1⟩
      go_region_law (first
        | (go_simp; go_at_call 64; refine (netLower _ _ _ _).mono ?_; rintro e w9 ⟨rfl, hb9⟩; have hk9 := carry5 hb9 (by assumption); obtain ⟨_, _, _, _, _, _, _, _⟩ := id hk9)
        | (go_simp; go_at_call 67; refine (netUpper _ _ _ _ hx1 hx2 hy1 hy2 hs1 hs2).mono ?_; rintro e w9 ⟨rfl, hb9⟩; have hk9 := carry5 hb9 (by assumption); obtain ⟨_, _, _, _, _, _, _, _⟩ := id hk9)
        | (go_simp; go_at_call 48; refine (shiftClosure _ _ dx dy g0 _ (by omega) (by omega) (by omega) (by omega) (by omega) (by omega) (by omega) (by omega) (by assumption) (by assumption) (by assumption)).mono ?_; rintro e w9 ⟨rfl, hb9⟩; have hk9 := carry5 hb9 (by assumption); obtain ⟨_, _, _, _, _, _, _, _⟩ := id hk9)
        | (go_simp; go_at_call 68; refine (netBetweenUp _ _ _ _ _ (by omega) (by omega) (by omega) (by omega) (by omega)).mono ?_; rintro e w9 ⟨rfl, hb9⟩; have hk9 := carry5 hb9 (by assumption); obtain ⟨_, _, _, _, _, _, _, _⟩ := id hk9; rw [show l[k].x + l[k].s + dx - (l[k].x + dx) = l[k].s from by omega])
        | (refine step_append_lies _ rfl (.tmp 17) (.tmp 27) 22 rfl w.heap.size 50 ib (.agg #[.int .i64 0, .int .i64 0, .int .i64 0]) 3 24 Try.underlying22 HIB.out HB0.out HB1.out HB2.out rfl (by decide) u5 k (bcellsL ((l.take k).map (Ck.Bar.shift dx dy))) (by simp [Act.eval, Act.put]) (by exact (ownsRow_below hown.out (K5.below (by assumption))).alloc _) _ 1 1 [.int .i64 (l[k].x + dx), .int .i64 (l[k].y + dy), .int .i64 l[k].s] (by first | (simp [Act.eval, Act.put]; done) | (simp [Act.eval, Act.put]; rfl)) rfl (by exact three_new _ _ _ _ _) (by intro u hu; simp at hu; rcases hu with rfl | rfl | rfl <;> rfl) (by decide) (by unfold maxLen; omega) (by omega) (by simp; omega) _ rfl ?_; intro gx cap w10 hown10 hgrow10 _ _))
      all_goals
        have hrow := mov_row (dx := dx) (dy := dy) hlt hown10
        have hbel := hb.trans (mov_below (K5.below (by assumption)) hgrow10 (ownsRow_base hown.out) hbz)
        clear hgrow10 hown10
        go_wp2
        go_roundw
        case rel => exact ⟨k + 1, by omega, by go_num, hrow, hbel⟩
        case measure => simp [intOf]; omega
    · obtain rfl : k = l.length := by omega
      have hrow := hown.out
      rw [List.take_length] at hrow
      have hlm : (l.map (Ck.Bar.shift dx dy)).length = l.length := List.length_map ..
      rw [← hlm] at hrow
      have hbz := hb.size
      go_wp2_with fail
      refine (netSortBars w.heap.size _ (l.map (Ck.Bar.shift dx dy)) _ (by omega) hbz hrow).mono ?_
      rintro e w2 ⟨rfl, hrow2, hb2⟩
      rw [hlm] at hrow2
      have HO := Lib.hid hrow2
      clear hrow hrow2
      go_wp2
      go_ret
      exact ⟨_, rfl, HO.out, hb.trans hb2⟩
end Go.Proofs.Ytkplpmhdmlkjhaa

/- Contracts of shiftedBy and Shift at near nets. -/
namespace Go.Proofs.Ytkplpmhdmlkjhaa
open Go.RowKit

set_option maxHeartbeats 1000000 in
theorem netShiftedBy (A : Option Addr) (c : Nat) (l : List Ck.Bar) (dx dy : Int) (w : World) (hl : l.length ≤ 4096) (hok : ∀ x ∈ l, Ck.okBar x) (h : RB w w.heap.size A l) (k1 : -500000 ≤ dx) (k2 : dx ≤ 500000) (k3 : -500000 ≤ dy) (k4 : dy ≤ 500000) :
    Calls Try.prog 26 #[.slice A l.length c, .agg #[.int .i64 dx, .int .i64 dy]] w (MovPost l dx dy w) := by
  obtain ⟨w1, hw1, e0, e1, hb1, hz1⟩ := box2 w (.int .i64 dx) (.int .i64 dy) 61
  have HR := Lib.hid h
  have HO := Lib.hid hok
  have HW := Lib.hid hw1
  clear h hok hw1
  go_enter Try.func26, Try.ntmps26
  go_wp2_with fail
  rw [← HW.out]
  refine (netMoved A c w.heap.size l dx dy w1 hl HO.out ((HR.out.below hb1).more hb1.size) k1 k2 k3 k4 hz1 e0 e1).mono ?_
  rintro e w2 ⟨v, rfl, hrow, hb2⟩
  have HV := Lib.hid (ownsRow_mono hrow hb1.size)
  clear hrow
  go_wp2
  go_ret
  exact ⟨v, rfl, HV.out, hb1.trans (hb2.mono hb1.size)⟩

theorem keepS {W w1 w2 : World} {g : Nat} {x y : Value} (h : w1.cell? ⟨g, 0, none⟩ = some x ∧ w1.cell? ⟨g, 1, none⟩ = some y ∧ Below g W w1 ∧ g < w1.heap.size) (hb : Below w1.heap.size w1 w2) :
    w2.cell? ⟨g, 0, none⟩ = some x ∧ w2.cell? ⟨g, 1, none⟩ = some y ∧ Below g W w2 ∧ g < w2.heap.size := by
  obtain ⟨h0, h1, h3, h4⟩ := h
  exact ⟨(hb.cell (p := ⟨g, 0, none⟩) h4).trans h0, (hb.cell (p := ⟨g, 1, none⟩) h4).trans h1, h3.trans (hb.mono (by omega)), by have := hb.size; omega⟩
theorem sId {W w : World} {g : Nat} {x y : Value} (h : w.cell? ⟨g, 0, none⟩ = some x ∧ w.cell? ⟨g, 1, none⟩ = some y ∧ Below g W w ∧ g < w.heap.size) : w.cell? ⟨g, 0, none⟩ = some x ∧ w.cell? ⟨g, 1, none⟩ = some y ∧ Below g W w ∧ g < w.heap.size := h
theorem checkS {W w : World} {g : Nat} {x y : Value} (A : Option Addr) (c : Nat) (l : List Ck.Bar) (hl : l.length ≤ 4096) (hcap : l.length ≤ c) (hcm : c ≤ maxLen) (HR : Hid (RB W W.heap.size A l)) (hg : W.heap.size ≤ g) (HE : Hid (netE l = 0))
    (h : w.cell? ⟨g, 0, none⟩ = some x ∧ w.cell? ⟨g, 1, none⟩ = some y ∧ Below g W w ∧ g < w.heap.size) : Calls Try.prog 23 #[.slice A l.length c] w fun e w' => e = .returned (.int .i64 0) ∧ Below w.heap.size w w' :=
  (netCheckNet A c l w hl hcap hcm ((HR.out.below (h.2.2.1.mono hg)).more (by have := h.2.2.1.size; have := h.2.2.2; omega))).mono fun e w' ⟨he, hb⟩ => ⟨by rw [he, HE.out], hb⟩

set_option maxHeartbeats 2000000 in
set_option maxRecDepth 100000 in
theorem netShift (A : Option Addr) (c : Nat) (l : List Ck.Bar) (w : World) (hl : l.length ≤ 4096) (hcap : l.length ≤ c) (hcm : c ≤ maxLen) (hN : Ck.Net l) (hn : Near l) (h : RB w w.heap.size A l) :
    Calls Try.prog 7 #[.slice A l.length c, .agg #[.int .i64 1000, .int .i64 1000]] w fun e w' => ∃ v, e = .returned (.tuple #[v, .int .i64 0]) ∧ w'.ownsRow w.heap.size 50 3 v (farL l).length (bcellsL (farL l)) ∧ Below w.heap.size w w' := by
  obtain ⟨w1, hw1, e0, e1, hb1, hz1⟩ := box2 w (.int .i64 1000) (.int .i64 1000) 30
  have HR := Lib.hid h
  have HN := Lib.hid hN
  have HF := Lib.hid (farL_net hN hn)
  have HE := Lib.hid ((netE_zero l).2 ⟨hl, hN⟩)
  have HK := Lib.hid (show knotE 1000 1000 = 0 by decide)
  have HS := Lib.hid (sortBars_net (farL_net hN hn).2)
  have HL := Lib.hid (show (farL l).length = l.length by rw [farL, List.length_map])
  have HW := Lib.hid hw1
  clear h hN hn hw1
  go_enter Try.func7, Try.ntmps7
  go_wp2_with fail
  rw [← HW.out]
  go_region_held3 (fun w' => w'.cell? ⟨w.heap.size, 0, none⟩ = some (.int .i64 1000) ∧ w'.cell? ⟨w.heap.size, 1, none⟩ = some (.int .i64 1000) ∧ Below w.heap.size w w' ∧ w.heap.size < w'.heap.size)
    (first | exact ⟨e0, e1, below_drew hb1, hz1⟩ | exact keepS (by assumption) (by assumption) | exact keepS (by assumption) ((Below.refl _ _).alloc (Nat.le_refl _) _) | assumption | go_keep)
    (first
      | (go_at_call 23; refine (checkS A c l hl hcap hcm HR (Nat.le_refl _) HE (by assumption)).mono ?_; rintro e w' ⟨rfl, hbq⟩)
      | (go_at_call 24; refine (netCheckKnot _ _ _).mono ?_; rintro e w' ⟨rfl, hbq⟩; rw [HK.out])
      | (go_at_call 22; refine (netFirst2 _ _ 0 0 25 _ (by exact heap_alloc_new _ _)).mono ?_; rintro e w' ⟨rfl, rfl⟩; rw [show firstE [0, 0] = 0 from rfl]))
  obtain ⟨c0, c1, hbW, hzW⟩ := sId (by assumption)
  go_wp2_with fail
  refine (netShiftedBy A c l 1000 1000 _ hl HN.out.1 ((HR.out.below hbW).more hbW.size) (by omega) (by omega) (by omega) (by omega)).mono ?_
  rintro e w3 ⟨v, rfl, hrow, hb3⟩
  have hrow' := ownsRow_mono hrow hbW.size
  have hbT := hbW.trans (hb3.mono hbW.size)
  rw [show l.map (Ck.Bar.shift 1000 1000) = farL l from rfl, HS.out] at hrow'
  obtain ⟨a, cv, rfl, hcv, hcm2⟩ := own_slice hrow'
  have hrow2 := hrow'
  rw [← HL.out] at hrow2 hcv
  have HO := Lib.hid hrow2
  have hRB := RB.of_own hrow2
  have HRB := Lib.hid hRB
  have hlen : (farL l).length ≤ 4096 := by rw [HL.out]; exact hl
  have HLen := Lib.hid hlen
  clear hrow hrow' hrow2 hRB hlen
  go_wp2_with fail
  rw [← HL.out]
  refine (netWithin a cv (farL l) _ HLen.out hcv hcm2 HF.out HRB.out).mono ?_
  rintro e w4 ⟨rfl, hb4⟩
  go_wp2
  go_ret2
  exact ⟨_, rfl, ownsRow_below HO.out (hb4.mono (Nat.le_refl _)), hbT.trans (hb4.mono hbT.size)⟩
end Go.Proofs.Ytkplpmhdmlkjhaa

/- Contracts of the reference's Bars; equality of counts. -/
namespace Go.Proofs.Ytkplpmhdmlkjhaa
open Go.RowKit

def meshL4 (x y : Int) : List Ck.Bar := [⟨x, y - 1, -1⟩, ⟨x, y - 1, 1⟩, ⟨x - 1, y, 1⟩, ⟨x + 1, y, -1⟩]
theorem four_row (w : World) (base : Nat) (hb : base ≤ w.heap.size) (t : TypeId) (l : List Ck.Bar) (hl : l.length = 4) : (w.alloc (.cells (bcellsL l).toArray t)).ownsRow base t 3 (.slice (some ⟨w.heap.size, 0, none⟩) 4 4) l.length (bcellsL l) :=
  ⟨by rw [bcellsL_length], .inr ⟨w.heap.size, 4, _, by rw [hl], hb, heap_alloc_new _ _, by omega, by unfold maxLen; omega, by simp [bcellsL_length, hl], by rw [List.take_of_length_le (by simp [bcellsL_length])]⟩⟩

theorem four_row2 (w : World) (o : Obj) (base : Nat) (hb : base ≤ w.heap.size) (t : TypeId) (l : List Ck.Bar) (hl : l.length = 4) : ((w.alloc o).alloc (.cells (bcellsL l).toArray t)).ownsRow base t 3 (.slice (some ⟨w.heap.size + 1, 0, none⟩) 4 4) l.length (bcellsL l) := by
  have := four_row (w.alloc o) base (by simp; omega) t l hl
  rwa [World.size_alloc] at this

set_option maxHeartbeats 1000000 in
set_option maxRecDepth 100000 in
theorem refBars (x y : Int) (w : World) (h1 : -1000 ≤ x) (h2 : x ≤ 1000) (h3 : -1000 ≤ y) (h4 : y ≤ 1000) :
    Calls Try.prog 20 #[.agg #[.int .i64 x, .int .i64 y]] w (OwnPost (meshL4 x y) w) := by
  go_enter Try.func20, Try.ntmps20
  go_wp2_with fail
  go_ret
  exact ⟨_, rfl, four_row2 w _ w.heap.size (Nat.le_refl _) _ (meshL4 x y) rfl, ((Below.refl _ _).alloc (Nat.le_refl _) _).alloc (by simp) _⟩

theorem eqCounts (a b c d e a' b' c' d' e' : Int) (r : Bool) (hr : decide (a = a' ∧ b = b' ∧ c = c' ∧ d = d' ∧ e = e') = r) (w : World) :
    (Op.equalIn 10000 33 (.agg #[.int .i64 a, .int .i64 b, .int .i64 c, .int .i64 d, .int .i64 e]) (.agg #[.int .i64 a', .int .i64 b', .int .i64 c', .int .i64 d', .int .i64 e'])).run Try.prog w = .ok r w := by
  have u3 := Try.underlying3
  have a3 := Try.isAgg3
  have z3 := Try.sizeOf3
  have hS : Try.prog.underlying 33 = some (.struct (Try.prog.fieldsOf 33)) := by kernel_rfl
  have hp : Try.prog.stoodInHeld 33 = false := by kernel_rfl
  subst hr
  rw [show (10000 : Nat) = 9999 + 1 from rfl, run_equalIn_struct w 9999 33 _ _ hS hp]
  simp only [Program.fieldsOf, Try.underlying33]
  go_simp
  by_cases h1 : a = a' <;> by_cases h2 : b = b' <;> by_cases h3 : c = c' <;> by_cases h4 : d = d' <;> by_cases h5 : e = e' <;> simp [h1, h2, h3, h4, h5]
theorem guardCounts : Try.prog.eqGuardType Try.prog.depth 33 = false := by kernel_rfl
end Go.Proofs.Ytkplpmhdmlkjhaa

/- The contract of corkMesh: the fixed example holds. -/
namespace Go.Proofs.Ytkplpmhdmlkjhaa
open Go.RowKit Ck

def oneL : List Bar := meshL4 1 2
def twoL : List Bar := meshL4 3 2
def bothL : List Bar := [⟨1, 1, -1⟩, ⟨1, 1, 1⟩, ⟨3, 1, -1⟩, ⟨3, 1, 1⟩, ⟨0, 2, 1⟩, ⟨2, 2, -1⟩, ⟨2, 2, 1⟩, ⟨4, 2, -1⟩]
theorem oneL_eq : oneL = [⟨1, 1, -1⟩, ⟨1, 1, 1⟩, ⟨0, 2, 1⟩, ⟨2, 2, -1⟩] := by decide
theorem twoL_eq : twoL = [⟨3, 1, -1⟩, ⟨3, 1, 1⟩, ⟨2, 2, 1⟩, ⟨4, 2, -1⟩] := by decide
theorem one_net : Net oneL := ((netE_zero _).1 (by decide)).2
theorem two_net : Net twoL := ((netE_zero _).1 (by decide)).2
theorem both_merge : mergeU oneL twoL = bothL := by
  rw [oneL_eq, twoL_eq]
  simp [mergeU, cmpB, firstE, cmpE, bothL]
theorem one_nK : nK oneL = 4 := by decide
theorem one_nM : nM oneL = 1 := by decide
theorem both_nK : nK bothL = 7 := by decide
theorem both_nM : nM bothL = 2 := by decide
theorem lohi {l : List Bar} {b : Bar} (h : b ∈ l) {k m : Knot} (hk : k = b.lo) (hm : m = b.hi) : Conn l k m := Conn.one h (.inl ⟨hk, hm⟩)
theorem hilo {l : List Bar} {b : Bar} (h : b ∈ l) {k m : Knot} (hk : k = b.hi) (hm : m = b.lo) : Conn l k m := Conn.one h (.inr ⟨hk, hm⟩)
theorem one_parts : PartsIs oneL 1 := by
  have c1 : Conn oneL ⟨1, 1⟩ ⟨0, 2⟩ := lohi (b := ⟨1, 1, -1⟩) (by decide) (by decide) (by decide)
  have c2 : Conn oneL ⟨1, 1⟩ ⟨2, 2⟩ := lohi (b := ⟨1, 1, 1⟩) (by decide) (by decide) (by decide)
  unfold PartsIs
  refine CntIs.fresh (n := 0) (by simp) ?_
  refine CntIs.old ⟨⟨1, 1⟩, by decide, .refl _⟩ ?_
  refine CntIs.old ⟨⟨1, 1⟩, by decide, c1⟩ ?_
  refine CntIs.old ⟨⟨1, 1⟩, by decide, c2⟩ ?_
  exact .nil _
theorem both_parts : PartsIs bothL 1 := by
  have c1 : Conn bothL ⟨1, 1⟩ ⟨0, 2⟩ := lohi (b := ⟨1, 1, -1⟩) (by decide) (by decide) (by decide)
  have c2 : Conn bothL ⟨1, 1⟩ ⟨2, 2⟩ := lohi (b := ⟨1, 1, 1⟩) (by decide) (by decide) (by decide)
  have c3 : Conn bothL ⟨2, 2⟩ ⟨3, 1⟩ := hilo (b := ⟨3, 1, -1⟩) (by decide) (by decide) (by decide)
  have c4 : Conn bothL ⟨3, 1⟩ ⟨4, 2⟩ := lohi (b := ⟨3, 1, 1⟩) (by decide) (by decide) (by decide)
  unfold PartsIs
  refine CntIs.fresh (n := 0) (by simp) ?_
  refine CntIs.old ⟨⟨1, 1⟩, by decide, .refl _⟩ ?_
  refine CntIs.old ⟨⟨1, 1⟩, by decide, c2.trans c3⟩ ?_
  refine CntIs.old ⟨⟨1, 1⟩, by decide, c2.trans c3⟩ ?_
  refine CntIs.old ⟨⟨1, 1⟩, by decide, c1⟩ ?_
  refine CntIs.old ⟨⟨1, 1⟩, by decide, c2⟩ ?_
  refine CntIs.old ⟨⟨1, 1⟩, by decide, c2⟩ ?_
  refine CntIs.old ⟨⟨1, 1⟩, by decide, (c2.trans c3).trans c4⟩ ?_
  exact .nil _
theorem countOne (A : Option Addr) (c : Nat) (w : World) (hc : 4 ≤ c) (hcm : c ≤ maxLen) (h : RB w w.heap.size A oneL) :
    Calls Try.prog 21 #[.slice A 4 c] w fun e w' => e = .returned (.tuple #[.agg #[.int .i64 4, .int .i64 4, .int .i64 1, .int .i64 1, .int .i64 0], .int .i64 0]) ∧ Below w.heap.size w w' :=
  (netCount A c oneL w (by decide) hc hcm one_net h).mono fun e w' ⟨p, hp, he, hb⟩ => by
    obtain rfl : p = 1 := CntIs.det hp one_parts
    rw [one_nK, one_nM] at he
    exact ⟨he, hb⟩
theorem countBoth (A : Option Addr) (c : Nat) (w : World) (hc : 8 ≤ c) (hcm : c ≤ maxLen) (h : RB w w.heap.size A bothL) :
    Calls Try.prog 21 #[.slice A 8 c] w fun e w' => e = .returned (.tuple #[.agg #[.int .i64 7, .int .i64 8, .int .i64 2, .int .i64 1, .int .i64 0], .int .i64 0]) ∧ Below w.heap.size w w' :=
  (netCount A c bothL w (by decide) hc hcm (by
    have := mergeU_net one_net two_net
    rwa [both_merge] at this) h).mono fun e w' ⟨p, hp, he, hb⟩ => by
    obtain rfl : p = 1 := CntIs.det hp both_parts
    rw [both_nK, both_nM] at he
    exact ⟨he, hb⟩
theorem ownMesh {w w1 : World} {l : List Bar} {v : Value} (hl : l.length = 4) (h : w1.ownsRow w.heap.size 50 3 v l.length (bcellsL l)) : ∃ a c, v = .slice a 4 c ∧ 4 ≤ c ∧ c ≤ maxLen ∧ RB w1 w1.heap.size a l := by
  obtain ⟨a, c, rfl, h1, h2⟩ := own_slice h
  exact ⟨a, c, by rw [hl], by omega, h2, RB.of_own h⟩

set_option maxHeartbeats 4000000 in
set_option maxRecDepth 100000 in
theorem corkMesh (w : World) : Calls Try.prog 6 #[] w fun e w' => e = .returned (.bool true) ∧ Below w.heap.size w w' := by
  have ex0 : ∀ (a b : Value) (w : World), (Instr.extract (.tuple #[a, b]) 0).run Try.prog w = .ok a w := fun _ _ _ => by kernel_rfl
  have ex1 : ∀ (a b : Value) (w : World), (Instr.extract (.tuple #[a, b]) 1).run Try.prog w = .ok b w := fun _ _ _ => by kernel_rfl
  go_enter Try.func6, Try.ntmps6
  go_wp2_with fail
  refine (refBars 1 2 _ (by omega) (by omega) (by omega) (by omega)).mono ?_
  rintro e w1 ⟨v, rfl, hrow, hb1⟩
  obtain ⟨a1, c1, rfl, _, _, hR1⟩ := ownMesh rfl hrow
  clear hrow
  go_wp2_with fail
  refine (refSortedUp a1 c1 oneL _ (by decide) one_net.2 hR1).mono ?_
  rintro e w2 ⟨v, rfl, hrow, hb2⟩
  obtain ⟨a2, c2, rfl, hc2, hm2, hR2⟩ := ownMesh rfl hrow
  have hq2 := hb1.trans (hb2.mono hb1.size)
  have H2 := Lib.hid hR2
  clear hrow hR1 hR2
  go_wp2_with fail
  refine (refBars 3 2 _ (by omega) (by omega) (by omega) (by omega)).mono ?_
  rintro e w3 ⟨v, rfl, hrow, hb3⟩
  obtain ⟨a3, c3, rfl, _, _, hR3⟩ := ownMesh rfl hrow
  have hq3 := hq2.trans (hb3.mono hq2.size)
  clear hrow
  go_wp2_with fail
  refine (refSortedUp a3 c3 twoL _ (by decide) two_net.2 hR3).mono ?_
  rintro e w4 ⟨v, rfl, hrow, hb4⟩
  obtain ⟨a4, c4, rfl, hc4, hm4, hR4⟩ := ownMesh rfl hrow
  have hq4 := hq3.trans (hb4.mono hq3.size)
  have hb24 := hb3.trans (hb4.mono hb3.size)
  have H4 := Lib.hid hR4
  clear hrow hR3 hR4
  go_wp2_with fail
  refine (countOne a2 c2 _ hc2 hm2 ((H2.out.below hb24).more hb24.size)).mono ?_
  rintro e w5 ⟨rfl, hb5⟩
  have hq5 := hq4.trans (hb5.mono hq4.size)
  obtain ⟨w6, hw6⟩ : ∃ w6, w6 = w5.alloc (.cells #[.int .i64 4, .int .i64 4, .int .i64 1, .int .i64 1, .int .i64 0] 33) := ⟨_, rfl⟩
  have hk6 : w6.heap[w5.heap.size]? = some (.cells #[.int .i64 4, .int .i64 4, .int .i64 1, .int .i64 1, .int .i64 0] 33 (0, 0)) := by rw [hw6]; exact heap_alloc_new _ _
  have hb6 : Below w5.heap.size w5 w6 := by rw [hw6]; exact (Below.refl _ _).alloc (Nat.le_refl _) _
  have hz6 : w5.heap.size < w6.heap.size := by rw [hw6]; simp
  have hq6 := hq5.trans (hb6.mono hq5.size)
  have hb46 := hb5.trans (hb6.mono hb5.size)
  have hb26 := hb24.trans (hb46.mono hb24.size)
  have HW6 := Lib.hid hw6
  have HK6 := Lib.hid hk6
  clear hw6 hk6
  go_wp2_with fail
  rw [← HW6.out]
  refine (netUnion a2 a4 c2 c4 oneL twoL _ (by decide) (by decide) hc2 hm2 hc4 hm4 one_net two_net ((H2.out.below hb26).more hb26.size) ((H4.out.below hb46).more hb46.size) (by rw [both_merge]; decide)).mono ?_
  rintro e w7 ⟨v, rfl, hrow, hb7⟩
  rw [both_merge] at hrow
  obtain ⟨a7, c7, rfl, hc7, hm7⟩ := own_slice hrow
  have H7 := Lib.hid (RB.of_own hrow)
  have hq7 := hq6.trans (hb7.mono hq6.size)
  clear hrow
  go_wp2_with fail
  refine (countBoth a7 c7 _ hc7 hm7 H7.out).mono ?_
  rintro e w8 ⟨rfl, hb8⟩
  have hq8 := hq7.trans (hb8.mono hq7.size)
  have hb68 := hb7.trans (hb8.mono hb7.size)
  obtain ⟨r0, r1, r2, r3, r4, rf⟩ := five_of_block ((hb68.block _ hz6).trans HK6.out)
  have hz8 : w5.heap.size < w8.heap.size := by have := hb68.size; omega
  have hq1 := eqCounts 4 4 1 1 0 4 4 1 1 0 true (by decide)
  have hq2' := eqCounts 7 8 2 1 0 7 8 2 1 0 true (by decide)
  have hgd := guardCounts
  go_wp2
  go_ret
  exact ⟨rfl, hq8.alloc hq8.size _⟩
end Go.Proofs.Ytkplpmhdmlkjhaa

/- Wrappers of the contracts of corkCopy, Union and corkCount. -/
namespace Go.Proofs.Ytkplpmhdmlkjhaa
open Go.RowKit Ck

/-- The slice is of the call's own, or reads so. -/
def OKS (w : World) (a : Option Addr) (c : Nat) (l : List Bar) : Prop := l.length ≤ c ∧ c ≤ maxLen ∧ (a = none → c = 0) ∧ RB w w.heap.size a l
theorem OKS.below {w w' : World} {a : Option Addr} {c : Nat} {l : List Bar} (h : OKS w a c l) (hb : Below w.heap.size w w') : OKS w' a c l := ⟨h.1, h.2.1, h.2.2.1, (h.2.2.2.below hb).more hb.size⟩
theorem own_oks {w : World} {base : Nat} {v : Value} {l : List Bar} (h : w.ownsRow base 50 3 v l.length (bcellsL l)) : ∃ a c, v = .slice a l.length c ∧ OKS w a c l := by
  rcases h.2 with ⟨rfl, hz⟩ | ⟨g, cap, cur, rfl, _, _, h1, h2, _⟩
  · have : l = [] := List.eq_nil_of_length_eq_zero hz
    subst this
    exact ⟨none, 0, rfl, Nat.zero_le _, by unfold maxLen; omega, fun _ => rfl, RB.nil _ _ _⟩
  · exact ⟨_, _, rfl, h1, h2, (fun e => by cases e), RB.of_own h⟩
def SlicePost (l : List Bar) (w : World) (e : Ending) (w' : World) : Prop := ∃ a c, e = .returned (.slice a l.length c) ∧ OKS w' a c l ∧ Below w.heap.size w w'
def PairPost (l : List Bar) (w : World) (e : Ending) (w' : World) : Prop := ∃ a c, e = .returned (.tuple #[.slice a l.length c, .int .i64 0]) ∧ OKS w' a c l ∧ Below w.heap.size w w'
theorem copyS (A : Option Addr) (c : Nat) (l : List Bar) (w : World) (hl : l.length ≤ 4096) (hA : A = none → c = 0) (h : RB w w.heap.size A l) :
    Calls Try.prog 8 #[.slice A l.length c] w (SlicePost l w) :=
  (corkCopyAny A c l w hl hA h).mono fun e w' ⟨v, he, hrow, hb⟩ => by
    obtain ⟨a, c', rfl, hok⟩ := own_oks hrow
    exact ⟨a, c', he, hok, hb⟩
theorem unionS (A A' : Option Addr) (c c' : Nat) (l l' u : List Bar) (w : World) (hu : mergeU l l' = u) (hl : l.length ≤ 2000) (hl' : l'.length ≤ 2000) (hN : Net l) (hN' : Net l') (h : OKS w A c l) (h' : OKS w A' c' l') :
    Calls Try.prog 9 #[.slice A l.length c, .slice A' l'.length c'] w (PairPost u w) :=
  (netUnion A A' c c' l l' w (by omega) (by omega) h.1 h.2.1 h'.1 h'.2.1 hN hN' h.2.2.2 h'.2.2.2 (by have := mergeU_length l l'; omega)).mono fun e w' ⟨v, he, hrow, hb⟩ => by
    subst hu
    obtain ⟨a, c', rfl, hok⟩ := own_oks hrow
    exact ⟨a, c', he, hok, hb⟩
theorem CntIs.le {l : List Bar} : ∀ {r : List Bar} {seen : List Knot} {n : Nat}, CntIs l seen r n → n ≤ r.length
  | [], _, _, .nil _ => Nat.le_refl _
  | _ :: _, _, _, .old _ h => Nat.le_succ_of_le (CntIs.le h)
  | _ :: _, _, _, .fresh _ h => Nat.succ_le_succ (CntIs.le h)
def CF (l : List Bar) (x0 x1 x2 x3 x4 : Int) : Prop := ∃ p : Nat, PartsIs l p ∧ x0 = (nK l : Nat) ∧ x1 = (l.length : Nat) ∧ x2 = (nM l : Nat) ∧ x3 = (p : Nat) ∧ x4 = (l.length : Int) - (nK l : Nat) + p - (nM l : Nat)
def bd (x : Int) : Prop := -10000 ≤ x ∧ x ≤ 10000
def CPost (l : List Bar) (w : World) (e : Ending) (w' : World) : Prop :=
  ∃ x0 x1 x2 x3 x4 : Int, e = .returned (.tuple #[.agg #[.int .i64 x0, .int .i64 x1, .int .i64 x2, .int .i64 x3, .int .i64 x4], .bool true]) ∧ CF l x0 x1 x2 x3 x4 ∧ (bd x0 ∧ bd x1 ∧ bd x2 ∧ bd x3 ∧ bd x4) ∧ Below w.heap.size w w'
theorem countC (A : Option Addr) (c : Nat) (l : List Bar) (w : World) (hl : l.length ≤ 200) (hA : A = none → c = 0) (hN : Net l) (h : RB w w.heap.size A l) : Calls Try.prog 10 #[.slice A l.length c] w (CPost l w) :=
  (corkCount A c l w (by omega) hA hN h).mono fun e w' ⟨p, hp, he, hb⟩ => by
    have h1 := nK_le l
    have h2 : nM l ≤ l.length := List.countP_le_length
    have h3 : p ≤ l.length := CntIs.le hp
    exact ⟨_, _, _, _, _, he, ⟨p, hp, rfl, rfl, rfl, rfl, rfl⟩, ⟨by unfold bd; omega, by unfold bd; omega, by unfold bd; omega, by unfold bd; omega, by unfold bd; omega⟩, hb⟩
theorem countS (A : Option Addr) (c : Nat) (l : List Bar) (w : World) (hl : l.length ≤ 4096) (hA : A = none → c = 0) (hN : Net l) (h : RB w w.heap.size A l) : Calls Try.prog 10 #[.slice A l.length c] w (CorkPost l w) := corkCount A c l w hl hA hN h
end Go.Proofs.Ytkplpmhdmlkjhaa

/- compareKnots, the library's sort at knots, SortedFunc, Knots. -/
namespace Go.Proofs.Ytkplpmhdmlkjhaa
open Go.RowKit Go.Sort Go.Shelf

theorem box22' (w : World) (a b c d : Value) (t t' : TypeId) : ∃ w1, w1 = (w.alloc (.cells #[a, b] t)).alloc (.cells #[c, d] t') ∧ w1.cell? ⟨w.heap.size, 0, none⟩ = some a ∧ w1.cell? ⟨w.heap.size, 1, none⟩ = some b ∧
    w1.cell? ⟨w.heap.size + 1, 0, none⟩ = some c ∧ w1.cell? ⟨w.heap.size + 1, 1, none⟩ = some d := by
  obtain ⟨w0, rfl, h0, h1, _, hz⟩ := box2 w a b t
  have hs : (w.alloc (.cells #[a, b] t)).heap.size = w.heap.size + 1 := by simp
  obtain ⟨w1, rfl, k0, k1, hb, _⟩ := box2 (w.alloc (.cells #[a, b] t)) c d t'
  rw [hs] at k0 k1
  exact ⟨_, rfl, (hb.cell (p := ⟨_, _, none⟩) hz).trans h0, (hb.cell (p := ⟨_, _, none⟩) hz).trans h1, k0, k1⟩
def cmpK (a b : Ck.Knot) : Int := firstE [cmpE a.y b.y, cmpE a.x b.x]
set_option maxHeartbeats 1000000 in
set_option maxRecDepth 100000 in
theorem netCompareKnots (x y x' y' : Int) (w : World) :
    Calls Try.prog 32 #[.agg #[.int .i64 x, .int .i64 y], .agg #[.int .i64 x', .int .i64 y']] w fun e w' => e = .returned (.int .i64 (cmpK ⟨x, y⟩ ⟨x', y'⟩)) ∧
      w' = (((w.alloc (.cells #[.int .i64 x, .int .i64 y] 30)).alloc (.cells #[.int .i64 x', .int .i64 y'] 30)).alloc (.cells #[.int .i64 (cmpE y y'), .int .i64 (cmpE x x')] 3)).drew := by
  obtain ⟨w1, hw1, c0, c1, d0, d1⟩ := box22' w (.int .i64 x) (.int .i64 y) (.int .i64 x') (.int .i64 y') 30 30
  rw [← hw1]
  have HW := Lib.hid hw1
  clear hw1
  go_enter Try.func32, Try.ntmps32
  go_wp2_with fail
  rw [← HW.out]
  refine wp_region_still_tail 10 (by kernel_rfl) (by kernel_rfl) ?_
  simp only [List.take_succ_cons, List.take_zero, List.drop_succ_cons, List.drop_zero]
  repeat (first | still_step | still_call (Calls.mono (cmpCompare _ _ _) fun _ _ h => ⟨h.1, h.2.symm⟩))
  refine wpStill_nil ?_
  change wpList _ _ _ _ _ w1.drew
  go_wp2_with fail
  refine (cmpOr2 _ _ (cmpE y y') (cmpE x x') 3 _ (by exact heap_alloc_new _ _)).mono ?_
  rintro e w2 ⟨rfl, rfl⟩
  go_wp2
  go_ret
  exact ⟨rfl, rfl⟩

def Klt (a b : Ck.Knot) : Prop := a.y < b.y ∨ a.y = b.y ∧ a.x < b.x
instance (a b : Ck.Knot) : Decidable (Klt a b) := by unfold Klt; infer_instance
theorem ltKnots (a b : Ck.Knot) : ltOf cmpK a b = decide (Klt a b) := by
  unfold ltOf
  rw [decide_eq_decide]
  unfold cmpK Klt firstE cmpE
  simp only [firstE]
  repeat' split
  all_goals omega
theorem Klt.tri (a b : Ck.Knot) : Klt a b ∨ a = b ∨ Klt b a := by
  obtain ⟨x, y⟩ := a
  obtain ⟨x', y'⟩ := b
  simp only [Klt, Ck.Knot.mk.injEq]
  omega
theorem swoKnots : SWO (ltOf cmpK) where
  irrefl x := by rw [ltKnots, decide_eq_false_iff_not]; unfold Klt; omega
  trans x y z h1 h2 := by
    rw [ltKnots, decide_eq_true_eq] at *
    unfold Klt at *; omega
  ntrans x y z h1 h2 := by
    rw [ltKnots, decide_eq_false_iff_not] at *
    unfold Klt at *; omega
theorem totKnots (x y : Ck.Knot) (h1 : ltOf cmpK x y = false) (h2 : ltOf cmpK y x = false) : x = y := by
  rw [ltKnots, decide_eq_false_iff_not] at *
  rcases Klt.tri x y with h | h | h
  · exact absurd h h1
  · exact h
  · exact absurd h h2
theorem layKnots (blk off size : Nat) (w : World) : CmpLays Try.prog 32 #[] kcells 2 cmpK blk off size w := fun _ _ _ _ x y =>
  (netCompareKnots x.x x.y y.x y.y _).mono fun e w' h => by
    obtain ⟨he, rfl⟩ := h
    exact ⟨he, 1, _, by rw [alloc_eq_grow, alloc_eq_grow, alloc_eq_grow, grow_grow, grow_grow]; rfl⟩
def sortKnots (l : List Ck.Knot) : List Ck.Knot := l.mergeSort fun x y => !(ltOf cmpK) y x
theorem sortKnots_perm (l : List Ck.Knot) : (sortKnots l).Perm l := List.mergeSort_perm l _

theorem netSortKnots (base : Nat) (v : Value) (l : List Ck.Knot) (w : World) (hl : l.length ≤ 100000) (hB : base ≤ w.heap.size) (h : w.ownsRow base 30 2 v l.length (kcellsL l)) :
    Calls Try.prog 53 #[v, .func (.func 32) #[] #[]] w fun e w' => e = .returned (.tuple #[]) ∧ w'.ownsRow base 30 2 v l.length (kcellsL (sortKnots l)) ∧ Below base w w' := by
  have eg : ∀ args w, (callFunc 32 args).run Try.prog w = .ok (.enter 32 args) w := enters_of Try.func32 (by kernel_rfl) rfl
  rcases h.2 with ⟨rfl, hz⟩ | ⟨g, cap, cur, rfl, hbase, hgb, r1, r2, r3, r4⟩
  · have hl0 : l = [] := List.eq_nil_of_length_eq_zero hz
    subst hl0
    have hc := AnyF.slices_SortFunc_none Try.sortK none 0 (.func (.func 32) #[] #[]) w
    change Calls Try.prog 53 _ _ _ at hc
    exact hc.mono fun e w' ⟨he, hw⟩ => ⟨he, by rw [hw]; exact ⟨by simp [sortKnots, kcellsL], .inl ⟨rfl, rfl⟩⟩, by rw [hw]; exact Below.refl _ _⟩
  · have hH := holdsK_of_row kcells 2 (fun _ => rfl) l hgb (r4.trans rfl)
    have hgl : g < w.heap.size := (Array.getElem?_eq_some_iff.1 hgb).1
    have hc := AnyQ.slices_SortFunc_total Try.sortK 2 Try.isAgg30 Try.sizeOf30 kcells (fun _ => rfl) (fun x v hv => by simp [kcells] at hv; rcases hv with rfl | rfl <;> rfl) cmpK swoKnots 32 #[] g 0 cap l.toArray w eg (layKnots g 0 _ w) hH hgl (by simp; omega) totKnots
    change Calls Try.prog 53 _ _ _ at hc
    rw [List.size_toArray] at hc
    refine hc.mono fun e w' ⟨he, n, os, hw⟩ => ?_
    have hs : (l.toArray.toList.mergeSort fun x y => !(ltOf cmpK) y x) = sortKnots l := rfl
    rw [hs] at hw
    have hp := (sortKnots_perm l).length_eq
    obtain ⟨q1, q2⟩ := sorted_owns kcells 2 (fun _ => rfl) (m := n) (os := os) (sortKnots l) hbase hgb (by rw [hp]; exact r1) r2 r3
    rw [hp] at q1
    rw [hw]
    exact ⟨he, q1, q2 hB⟩

/-- SortedFunc of whatever iterator. -/
theorem netSortedFunc (g : Nat) (lb : Array Value) (eg : ∀ args w, (callFunc g args).run Try.prog w = .ok (.enter g args) w) (S Sp : List Ck.Knot → Prop) (N : Nat) (hN : N ≤ 100000) (hS : ∀ ss, S ss → ss.length ≤ 100000) (w : World) (hseq : SeqStopsK Fence.wide 1 Try.prog g lb knotArr KeepsWalks S Sp N w) :
    Calls Try.prog 29 #[.func (.func g) #[] lb, .func (.func 32) #[] #[]] w fun e w' => ∃ (v : Value) (ss : List Ck.Knot), e = .returned v ∧ S ss ∧ w'.ownsRow w.heap.size 30 2 v ss.length (kcellsL (sortKnots ss)) ∧ Below w.heap.size w w' := by
  have hcol := callsIn_wide.1 (collect_in Fence.wide 3 trivial trivial rfl (by omega) g lb trivial eg S Sp N hN w hseq)
  go_enter Try.func29, Try.ntmps29
  go_wp2_with fail
  refine hcol.mono ?_
  rintro e w1 ⟨v, ss, rfl, hSs, hrow, hb1⟩
  go_wp2_with fail
  refine (netSortKnots w.heap.size v ss _ (hS ss hSs) hb1.size hrow).mono ?_
  rintro e w2 ⟨rfl, hrow2, hb2⟩
  go_wp2
  go_ret
  exact ⟨v, ss, rfl, hSs, hrow2, hb1.trans hb2⟩
end Go.Proofs.Ytkplpmhdmlkjhaa

/- The contract of Knots at a valid net. -/
namespace Go.Proofs.Ytkplpmhdmlkjhaa
open Go.RowKit Go.Sort Go.Shelf

def KnotsPost (l : List Ck.Bar) (w : World) (e : Ending) (w' : World) : Prop :=
  ∃ (v : Value) (ks : List Ck.Knot), e = .returned (.tuple #[v, .int .i64 0]) ∧ ks.Nodup ∧ (∀ k, k ∈ ks ↔ k ∈ Ck.ends l) ∧ w'.ownsRow w.heap.size 30 2 v ks.length (kcellsL ks) ∧ Below w.heap.size w w'
theorem degs_mem (l : List Ck.Bar) (k : Ck.Knot) : k ∈ (degsL (Ck.ends l)).map (·.1) ↔ k ∈ Ck.ends l := by rw [degsL, degs_keys]; simp

set_option maxHeartbeats 2000000 in
set_option maxRecDepth 100000 in
theorem netKnots (A : Option Addr) (c : Nat) (l : List Ck.Bar) (w : World) (hl : l.length ≤ 4096) (hcap : l.length ≤ c) (hcm : c ≤ maxLen) (hN : Ck.Net l) (h : RB w w.heap.size A l) :
    Calls Try.prog 11 #[.slice A l.length c] w (KnotsPost l w) := by
  have HR := Lib.hid h
  have HN := Lib.hid hN
  have HE := Lib.hid ((netE_zero l).2 ⟨hl, hN⟩)
  have hnk := nK_le l
  clear h hN
  go_enter Try.func11, Try.ntmps11
  go_wp2_with fail
  refine (netCheckNet A c l _ hl hcap hcm HR.out).mono ?_
  rintro e w1 ⟨rfl, hb1⟩
  rw [HE.out]
  go_wp2_with fail
  refine (netDegrees A c l _ hl HN.out.1 ((HR.out.below hb1).more hb1.size)).mono ?_
  rintro e w2 ⟨b, rfl, hbz, hm2, hb2⟩
  have hc2 := hb1.trans (hb2.mono hb1.size)
  have hdl := degs_length hm2
  have hbl := hm2.lt
  have HM := Lib.hid hm2
  clear hm2
  go_wp2_with fail
  refine (keys_any (some b) _).mono ?_
  rintro e w3 ⟨rfl, rfl⟩
  have bM := Boxed.new w2 68 (.map (some b))
  have hb3 : Below w2.heap.size w2 (w2.alloc (.cells #[.map (some b)] 68)) := (Below.refl _ _).alloc (Nat.le_refl _) _
  have hM3 : MIs (w2.alloc (.cells #[.map (some b)] 68)) b (degsL (Ck.ends l)) := HM.out.below hb3 hbl
  have hc3 := hc2.trans (hb3.mono hc2.size)
  have hsz3 : w2.heap.size < (w2.alloc (.cells #[.map (some b)] 68)).heap.size := by simp
  obtain ⟨W3, hW3⟩ : ∃ W3, W3 = w2.alloc (.cells #[.map (some b)] 68) := ⟨_, rfl⟩
  rw [← hW3] at bM hM3 hc3 hsz3
  have HW3 := Lib.hid hW3
  clear hW3 hb3
  have hseq := keys_stops Fence.wide 1 trivial rfl (Nat.le_refl _) w2.heap.size b (degsL (Ck.ends l)) W3 hsz3 bM.cell hM3
  have HDL := Lib.hid hdl
  clear hdl hM3
  go_wp2_with fail
  rw [← HW3.out]
  refine (netSortedFunc _ _ (enters_of Try.func54 (by kernel_rfl) rfl) _ _ _ (by rw [HDL.out]; omega) (fun ss hs => by
    have h1 : ss.length ≤ (degsL (Ck.ends l)).length := by
      have := hs.1.length_le_of_subset (l₂ := (degsL (Ck.ends l)).map (·.1)) (fun x hx => (hs.2 x).1 hx)
      rwa [List.length_map] at this
    rw [HDL.out] at h1; omega) _ hseq).mono ?_
  rintro e w4 ⟨v, ss, rfl, hS, hrow, hb4⟩
  have HO := Lib.hid (ownsRow_mono hrow hc3.size)
  have HS := Lib.hid hS
  clear hrow hS hseq
  go_wp2
  go_ret2
  refine ⟨v, sortKnots ss, rfl, (sortKnots_perm ss).nodup_iff.2 HS.out.1, fun k => ?_, ?_, hc3.trans (hb4.mono hc3.size)⟩
  · rw [(sortKnots_perm ss).mem_iff, HS.out.2 k, degs_mem]
  · rw [(sortKnots_perm ss).length_eq]; exact HO.out
end Go.Proofs.Ytkplpmhdmlkjhaa

/- Wrappers of the contracts for TopCorkApart. -/
namespace Go.Proofs.Ytkplpmhdmlkjhaa
open Go.RowKit Ck

theorem shiftS (A : Option Addr) (c : Nat) (l : List Bar) (w : World) (hl : l.length ≤ 4096) (hN : Net l) (hn : Near l) (h : OKS w A c l) :
    Calls Try.prog 7 #[.slice A l.length c, .agg #[.int .i64 1000, .int .i64 1000]] w (PairPost (farL l) w) :=
  (netShift A c l w hl h.1 h.2.1 hN hn h.2.2.2).mono fun e w' ⟨v, he, hrow, hb⟩ => by
    obtain ⟨a, c', rfl, hok⟩ := own_oks hrow
    exact ⟨a, c', he, hok, hb⟩
theorem CF.sums {l l' : List Bar} (hn : Near l) (hn' : Near l') {x0 x1 x2 x3 x4 y0 y1 y2 y3 y4 z0 z1 z2 z3 z4 : Int} (hx : CF l x0 x1 x2 x3 x4) (hy : CF l' y0 y1 y2 y3 y4) (hz : CF (l ++ farL l') z0 z1 z2 z3 z4) :
    z0 = x0 + y0 ∧ z1 = x1 + y1 ∧ z2 = x2 + y2 ∧ z3 = x3 + y3 ∧ z4 = x4 + y4 := by
  obtain ⟨p, hp, rfl, rfl, rfl, rfl, rfl⟩ := hx
  obtain ⟨q, hq, rfl, rfl, rfl, rfl, rfl⟩ := hy
  obtain ⟨r, hr, rfl, rfl, rfl, rfl, rfl⟩ := hz
  obtain ⟨h1, h2, h3, h4⟩ := apart_sums hn hn' hp hq hr
  omega
theorem kcellsL_at (l : List Knot) : ∀ (i : Nat) (h : i < l.length), (kcellsL l)[i * 2]? = some (.int .i64 l[i].x) ∧ (kcellsL l)[i * 2 + 1]? = some (.int .i64 l[i].y) := by
  induction l with
  | nil => intro i h; simp at h
  | cons a r ih =>
    intro i h
    have e : kcellsL (a :: r) = [.int .i64 a.x, .int .i64 a.y] ++ kcellsL r := by simp [kcellsL]
    rw [e]
    cases i with
    | zero => exact ⟨rfl, rfl⟩
    | succ i =>
      have := ih i (by simpa using h)
      rw [show (i + 1) * 2 = i * 2 + 2 from by omega]
      simpa using this
theorem own_rk {w : World} {base : Nat} {v : Value} {l : List Knot} (h : w.ownsRow base 30 2 v l.length (kcellsL l)) : ∃ a c, v = .slice a l.length c ∧ RK w w.heap.size a l := by
  rcases h.2 with ⟨rfl, hz⟩ | ⟨g, cap, cur, rfl, _, hgb, h1, h2, _⟩
  · have : l = [] := List.eq_nil_of_length_eq_zero hz
    subst this
    exact ⟨none, 0, rfl, fun hl => by simp at hl⟩
  · refine ⟨_, _, rfl, fun hl => ⟨g, 0, rfl, (Array.getElem?_eq_some_iff.1 hgb).1, fun i hi => ?_⟩⟩
    have hc := h.cells (g := g) rfl
    obtain ⟨k0, k1⟩ := kcellsL_at l i hi
    have q0 := hc _ _ k0
    have q1 := hc _ _ k1
    rw [add0] at q0 q1
    simp only [Nat.zero_add]
    exact ⟨q0, q1⟩
def KPost (l : List Bar) (w : World) (e : Ending) (w' : World) : Prop :=
  ∃ a c ks, e = .returned (.tuple #[.slice a (List.length ks) c, .int .i64 0]) ∧ List.Nodup ks ∧ (∀ k, k ∈ ks ↔ k ∈ ends l) ∧ RK w' w'.heap.size a ks ∧ Below w.heap.size w w'
theorem knotsS (A : Option Addr) (c : Nat) (l : List Bar) (w : World) (hl : l.length ≤ 4096) (hN : Net l) (h : OKS w A c l) : Calls Try.prog 11 #[.slice A l.length c] w (KPost l w) :=
  (netKnots A c l w hl h.1 h.2.1 hN h.2.2.2).mono fun e w' ⟨v, ks, he, hn, hm, hrow, hb⟩ => by
    obtain ⟨a, c', rfl, hk⟩ := own_rk hrow
    exact ⟨a, c', ks, he, hn, hm, hk, hb⟩
theorem knots_len {l : List Bar} {ks : List Knot} (hn : ks.Nodup) (hm : ∀ k, k ∈ ks ↔ k ∈ ends l) : ks.length ≤ 2 * l.length := by
  rw [nK_eq hn hm]; exact nK_le l

def corkF (l : List Bar) : Bool := decide (l.length ≤ 20) && corkB l
theorem corkNetAny (A : Option Addr) (c : Nat) (l : List Bar) (w : World) (hm : l.length ≤ maxLen) (h : RB w w.heap.size A l) :
    Calls Try.prog 5 #[.slice A l.length c, .int .i64 20] w fun e w' => e = .returned (.bool (corkF l)) ∧ Below w.heap.size w w' := by
  by_cases hl : l.length ≤ 20
  · exact (corkNetShort A c l w hl h).mono fun e w' ⟨he, hb⟩ => ⟨by rw [he]; simp [corkF, hl], hb⟩
  · exact (corkNetLong A c l.length w (by omega) hm).mono fun e w' ⟨he, hb⟩ => ⟨by rw [he]; simp [corkF, hl], hb ▸ Below.refl _ _⟩
theorem corkF_true {l : List Bar} (h : corkF l = true) : l.length ≤ 20 ∧ Net l ∧ Near l := by
  simp only [corkF, corkB, Bool.and_eq_true, decide_eq_true_eq, List.all_eq_true] at h
  refine ⟨h.1, ((netE_zero l).1 h.2.1).2, fun b hb => ?_⟩
  have := h.2.2 b hb
  simpa [nearB] using this
end Go.Proofs.Ytkplpmhdmlkjhaa

/- The walk of TopCorkApart. -/
namespace Go.Proofs.Ytkplpmhdmlkjhaa
open Go.RowKit Ck

def YesPost (w : World) (e : Ending) (w' : World) : Prop := e = .returned (.bool true) ∧ Below w.heap.size w w'

set_option maxHeartbeats 4000000 in
set_option maxRecDepth 100000 in
theorem apartNo (A A' : Option Addr) (c c' : Nat) (l l' : List Bar) (w : World) (hm : l.length ≤ maxLen) (hm' : l'.length ≤ maxLen) (h : RB w w.heap.size A l) (h' : RB w w.heap.size A' l') (hno : corkF l = false ∨ corkF l = true ∧ corkF l' = false) :
    Calls Try.prog 3 #[.slice A l.length c, .slice A' l'.length c'] w (YesPost w) := by
  have HR := Lib.hid h
  have HR' := Lib.hid h'
  clear h h'
  rcases hno with h1 | ⟨h1, h2⟩
  · have H1 := Lib.hid h1
    clear h1
    go_enter Try.func3, Try.ntmps3
    go_wp2_with fail
    refine (corkNetAny A c l _ hm HR.out).mono ?_
    rintro e w1 ⟨rfl, hb1⟩
    rw [H1.out]
    go_wp2_with fail
    refine (corkMesh _).mono ?_
    rintro e w2 ⟨rfl, hb2⟩
    go_wp2
    go_ret
    exact ⟨rfl, hb1.trans (hb2.mono hb1.size)⟩
  · have H1 := Lib.hid h1
    have H2 := Lib.hid h2
    clear h1 h2
    go_enter Try.func3, Try.ntmps3
    go_wp2_with fail
    refine (corkNetAny A c l _ hm HR.out).mono ?_
    rintro e w1 ⟨rfl, hb1⟩
    rw [H1.out]
    go_wp2_with fail
    refine (corkNetAny A' c' l' _ hm' ((HR'.out.below hb1).more hb1.size)).mono ?_
    rintro e w2 ⟨rfl, hb2⟩
    rw [H2.out]
    have hq2 := hb1.trans (hb2.mono hb1.size)
    go_wp2_with fail
    refine (corkMesh _).mono ?_
    rintro e w3 ⟨rfl, hb3⟩
    go_wp2
    go_ret
    exact ⟨rfl, hq2.trans (hb3.mono hq2.size)⟩

def cntK (ks' : List Knot) (l : List Knot) : Nat := l.countP fun p => decide (p ∈ ks')
theorem cntK_le (ks' ks : List Knot) (j : Nat) : cntK ks' (ks.take j) ≤ ks.length := Nat.le_trans List.countP_le_length (by rw [List.length_take]; omega)
theorem cntK_in {ks' ks : List Knot} {j : Nat} (hlt : j < ks.length) (h : ks[j] ∈ ks') : cntK ks' (ks.take (j + 1)) = cntK ks' (ks.take j) + 1 := by
  rw [List.take_succ_eq_append_getElem hlt, cntK, cntK, List.countP_append]; simp [h]
theorem cntK_out {ks' ks : List Knot} {j : Nat} (hlt : j < ks.length) (h : ks[j] ∉ ks') : cntK ks' (ks.take (j + 1)) = cntK ks' (ks.take j) := by
  rw [List.take_succ_eq_append_getElem hlt, cntK, cntK, List.countP_append]; simp [h]
theorem ends_merge {l l' : List Bar} {k : Knot} (h : k ∈ ends l) : k ∈ ends (mergeU l l') := by
  obtain ⟨b, hb, e⟩ := mem_ends.1 h
  exact mem_ends.2 ⟨b, (mergeU_mem b l l').2 (.inl hb), e⟩
theorem boxF (w : World) (a b c d e : Value) (t : TypeId) : ∃ w1, w1 = w.alloc (.cells #[a, b, c, d, e] t) ∧ w1.heap[w.heap.size]? = some (.cells #[a, b, c, d, e] t (0, 0)) ∧ Below w.heap.size w w1 ∧ w.heap.size < w1.heap.size :=
  ⟨_, rfl, heap_alloc_new _ _, (Below.refl _ _).alloc (Nat.le_refl _) _, by simp⟩

set_option maxHeartbeats 8000000 in
set_option maxRecDepth 100000 in
theorem apartYes (A A' : Option Addr) (c c' : Nat) (l l' : List Bar) (w : World) (hA : A = none → c = 0) (hA' : A' = none → c' = 0) (h : RB w w.heap.size A l) (h' : RB w w.heap.size A' l') (h1 : corkF l = true) (h2 : corkF l' = true) :
    Calls Try.prog 3 #[.slice A l.length c, .slice A' l'.length c'] w (YesPost w) := by
  have ex0 : ∀ (a b : Value) (w : World), (Instr.extract (.tuple #[a, b]) 0).run Try.prog w = .ok a w := fun _ _ _ => by kernel_rfl
  have ex1 : ∀ (a b : Value) (w : World), (Instr.extract (.tuple #[a, b]) 1).run Try.prog w = .ok b w := fun _ _ _ => by kernel_rfl
  obtain ⟨hl, hN, hn⟩ := corkF_true h1
  obtain ⟨hl', hN', hn'⟩ := corkF_true h2
  have hm : l.length ≤ maxLen := by unfold maxLen; omega
  have hm' : l'.length ≤ maxLen := by unfold maxLen; omega
  have HR := Lib.hid h
  have HR' := Lib.hid h'
  have H1 := Lib.hid h1
  have H2 := Lib.hid h2
  have HN := Lib.hid hN
  have HN' := Lib.hid hN'
  have Hn := Lib.hid hn
  have Hn' := Lib.hid hn'
  have hfl : (farL l').length ≤ 20 := by rw [farL, List.length_map]; exact hl'
  have HFN := Lib.hid (farL_net hN' hn')
  obtain ⟨u, hu⟩ : ∃ u, u = l ++ farL l' := ⟨_, rfl⟩
  have HU := Lib.hid hu
  have HM := Lib.hid ((mergeU_append l (farL l') (near_far hn hn')).trans hu.symm)
  have HUN := Lib.hid (by have := mergeU_net hN (farL_net hN' hn'); rwa [mergeU_append l (farL l') (near_far hn hn'), ← hu] at this : Net u)
  have hul : u.length ≤ 40 := by rw [hu, List.length_append]; omega
  obtain ⟨t, ht⟩ : ∃ t, mergeU l l' = t := ⟨_, rfl⟩
  have HT := Lib.hid ht
  have HTN := Lib.hid (ht ▸ mergeU_net hN hN' : Net t)
  have htl : t.length ≤ 40 := by have := mergeU_length l l'; rw [ht] at this; omega
  clear hu ht
  clear h h' h1 h2 hN hN' hn hn'
  go_enter Try.func3, Try.ntmps3
  go_wp2_with fail
  refine (corkNetAny A c l _ hm HR.out).mono ?_
  rintro e w1 ⟨rfl, hb1⟩
  rw [H1.out]
  go_wp2_with fail
  refine (corkNetAny A' c' l' _ hm' ((HR'.out.below hb1).more hb1.size)).mono ?_
  rintro e w2 ⟨rfl, hb2⟩
  rw [H2.out]
  have q2 := hb1.trans (hb2.mono hb1.size)
  -- far
  go_wp2_with fail
  refine (copyS A' c' l' _ (by omega) hA' ((HR'.out.below q2).more q2.size)).mono ?_
  rintro e w3 ⟨a3, c3, rfl, hk3, hb3⟩
  have q3 := q2.trans (hb3.mono q2.size)
  go_wp2_with fail
  refine (shiftS a3 c3 l' _ (by omega) HN'.out Hn'.out hk3).mono ?_
  rintro e w4 ⟨a4, c4, rfl, hk4, hb4⟩
  have q4 := q3.trans (hb4.mono q3.size)
  have K4 := Lib.hid hk4
  clear hk3 hk4
  -- u
  go_wp2_with fail
  refine (copyS A c l _ (by omega) hA ((HR.out.below q4).more q4.size)).mono ?_
  rintro e w5 ⟨a5, c5, rfl, hk5, hb5⟩
  have q5 := q4.trans (hb5.mono q4.size)
  have K5' := Lib.hid hk5
  clear hk5
  go_wp2_with fail
  refine (copyS a4 c4 (farL l') _ (by omega) (K4.out.below hb5).2.2.1 (K4.out.below hb5).2.2.2).mono ?_
  rintro e w6 ⟨a6, c6, rfl, hk6, hb6⟩
  have q6 := q5.trans (hb6.mono q5.size)
  have K6 := Lib.hid hk6
  clear hk6
  go_wp2_with fail
  refine (unionS a5 a6 c5 c6 l (farL l') u _ HM.out (by omega) (by omega) HN.out HFN.out (K5'.out.below hb6) K6.out).mono ?_
  rintro e w7 ⟨a7, c7, rfl, hk7, hb7⟩
  have q7 := q6.trans (hb7.mono q6.size)
  have K7 := Lib.hid hk7
  clear hk7
  -- the counts
  go_wp2_with fail
  refine (countC A c l _ (by omega) hA HN.out ((HR.out.below q7).more q7.size)).mono ?_
  rintro e w8 ⟨x0, x1, x2, x3, x4, rfl, hx, ⟨⟨p0, p1⟩, ⟨p2, p3⟩, ⟨p4, p5⟩, ⟨p6, p7⟩, ⟨p8, p9⟩⟩, hb8⟩
  have HX := Lib.hid hx
  clear hx
  obtain ⟨wx, hwx, kx, bx, zx⟩ := boxF w8 (.int .i64 x0) (.int .i64 x1) (.int .i64 x2) (.int .i64 x3) (.int .i64 x4) 33
  have q8 := (q7.trans (hb8.mono q7.size)).trans (bx.mono (q7.trans (hb8.mono q7.size)).size)
  have b78 := hb8.trans (bx.mono hb8.size)
  have HWX := Lib.hid hwx
  have KX := Lib.hid kx
  clear hwx kx
  go_wp2_with fail
  rw [← HWX.out]
  refine (countC A' c' l' _ (by omega) hA' HN'.out ((HR'.out.below q8).more q8.size)).mono ?_
  rintro e w9 ⟨y0, y1, y2, y3, y4, rfl, hy, ⟨⟨r0, r1⟩, ⟨r2, r3⟩, ⟨r4, r5⟩, ⟨r6, r7⟩, ⟨r8, r9⟩⟩, hb9⟩
  have HY := Lib.hid hy
  clear hy
  obtain ⟨wy, hwy, ky, by', zy⟩ := boxF w9 (.int .i64 y0) (.int .i64 y1) (.int .i64 y2) (.int .i64 y3) (.int .i64 y4) 33
  have b89 := hb9.trans (by'.mono hb9.size)
  have q9 := q8.trans (b89.mono q8.size)
  have b79 := b78.trans (b89.mono b78.size)
  have HWY := Lib.hid hwy
  have KY := Lib.hid ky
  clear hwy ky
  go_wp2_with fail
  rw [← HWY.out]
  refine (countC a7 c7 u _ (by omega) (K7.out.below b79).2.2.1 HUN.out (K7.out.below b79).2.2.2).mono ?_
  rintro e w10 ⟨z0, z1, z2, z3, z4, rfl, hz, ⟨⟨s0, s1⟩, ⟨s2, s3⟩, ⟨s4, s5⟩, ⟨s6, s7⟩, ⟨s8, s9⟩⟩, hb10⟩
  obtain ⟨e0, e1, e2, e3, e4⟩ := CF.sums Hn.out Hn'.out HX.out HY.out (HU.out ▸ hz)
  clear hz
  obtain ⟨wz, hwz, kz, bz, zz⟩ := boxF w10 (.int .i64 z0) (.int .i64 z1) (.int .i64 z2) (.int .i64 z3) (.int .i64 z4) 33
  have b910 := hb10.trans (bz.mono hb10.size)
  have q10 := q9.trans (b910.mono q9.size)
  have hqz := eqCounts z0 z1 z2 z3 z4 (x0 + y0) (x1 + y1) (x2 + y2) (x3 + y3) (x4 + y4) true (by rw [decide_eq_true_eq]; exact ⟨e0, e1, e2, e3, e4⟩)
  have hgd := guardCounts
  obtain ⟨f0, f1, f2, f3, f4, ff⟩ := five_of_block kz
  obtain ⟨g0, g1, g2, g3, g4, gf⟩ := five_of_block ((b910.block _ zy).trans KY.out)
  obtain ⟨i0, i1, i2, i3, i4, ifr⟩ := five_of_block (((b89.trans (b910.mono b89.size)).block _ zx).trans KX.out)
  have hsx : w8.heap.size < wz.heap.size := by have := (b89.trans (b910.mono b89.size)).size; omega
  have hsy : w9.heap.size < wz.heap.size := by have := b910.size; omega
  have HWZ := Lib.hid hwz
  clear hwz kz e0 e1 e2 e3 e4 ff gf ifr
  go_wp2_with (rw [← HWZ.out])
  have Q := Lib.hid q10
  clear f0 f1 f2 f3 f4 g0 g1 g2 g3 g4 i0 i1 i2 i3 i4 hqz hgd hsx hsy p0 p1 p2 p3 p4 p5 p6 p7 p8 p9 r0 r1 r2 r3 r4 r5 r6 r7 r8 r9 s0 s1 s2 s3 s4 s5 s6 s7 s8 s9
  refine (copyS A c l _ (by omega) hA ((HR.out.below q10).more q10.size)).mono ?_
  rintro e w11 ⟨a11, c11, rfl, hk11, hb11⟩
  have q11 := q10.trans (hb11.mono q10.size)
  go_wp2_with fail
  refine (knotsS a11 c11 l _ (by omega) HN.out hk11).mono ?_
  rintro e w12 ⟨a12, c12, ks, rfl, hn12, hm12, hr12, hb12⟩
  have q12 := q11.trans (hb12.mono q11.size)
  have hkl := knots_len hn12 hm12
  have N1 := Lib.hid hn12
  have M1 := Lib.hid hm12
  have R1 := Lib.hid hr12
  clear hk11 hn12 hm12 hr12
  go_wp2_with fail
  refine (copyS A' c' l' _ (by omega) hA' ((HR'.out.below q12).more q12.size)).mono ?_
  rintro e w13 ⟨a13, c13, rfl, hk13, hb13⟩
  have q13 := q12.trans (hb13.mono q12.size)
  go_wp2_with fail
  refine (knotsS a13 c13 l' _ (by omega) HN'.out hk13).mono ?_
  rintro e w14 ⟨a14, c14, ks', rfl, hn14, hm14, hr14, hb14⟩
  have q14 := q13.trans (hb14.mono q13.size)
  have b1214 := hb13.trans (hb14.mono hb13.size)
  have hkl' := knots_len hn14 hm14
  have N2 := Lib.hid hn14
  have M2 := Lib.hid hm14
  have R2 := Lib.hid hr14
  clear hk13 hn14 hm14 hr14
  go_wp2_with fail
  refine (copyS A c l _ (by omega) hA ((HR.out.below q14).more q14.size)).mono ?_
  rintro e w15 ⟨a15, c15, rfl, hk15, hb15⟩
  have q15 := q14.trans (hb15.mono q14.size)
  have K15 := Lib.hid hk15
  clear hk15
  go_wp2_with fail
  refine (copyS A' c' l' _ (by omega) hA' ((HR'.out.below q15).more q15.size)).mono ?_
  rintro e w16 ⟨a16, c16, rfl, hk16, hb16⟩
  have q16 := q15.trans (hb16.mono q15.size)
  have K16 := Lib.hid hk16
  clear hk16
  go_wp2_with fail
  refine (unionS a15 a16 c15 c16 l l' t _ HT.out (by omega) (by omega) HN.out HN'.out (K15.out.below hb16) K16.out).mono ?_
  rintro e w17 ⟨a17, c17, rfl, hk17, hb17⟩
  have q17 := q16.trans (hb17.mono q16.size)
  have K17 := Lib.hid hk17
  clear hk17
  go_wp2_with fail
  refine (copyS a17 c17 t _ (by omega) K17.out.2.2.1 K17.out.2.2.2).mono ?_
  rintro e w18 ⟨a18, c18, rfl, hk18, hb18⟩
  have q18 := q17.trans (hb18.mono q17.size)
  go_wp2_with fail
  refine (knotsS a18 c18 t _ (by omega) HTN.out hk18).mono ?_
  rintro e w19 ⟨a19, c19, ms, rfl, hn19, hm19, hr19, hb19⟩
  have q19 := q18.trans (hb19.mono q18.size)
  have b1419 := (hb15.trans (hb16.mono hb15.size)).trans ((hb17.trans ((hb18.trans (hb19.mono hb18.size)).mono hb17.size)).mono (hb15.trans (hb16.mono hb15.size)).size)
  have b1219 := b1214.trans (b1419.mono b1214.size)
  have hkl'' := knots_len hn19 hm19
  have SUM := Lib.hid (knots_union N1.out N2.out hn19 M1.out M2.out hm19 (fun x => by rw [← HT.out]; exact mergeU_mem x l l'))
  have M3 := Lib.hid hm19
  have R3 := Lib.hid hr19
  have R1' := Lib.hid ((R1.out.below b1219).more b1219.size)
  have R2' := Lib.hid ((R2.out.below b1419).more b1419.size)
  have hn40 : ¬ ((40 : Int) < (ks.length : Int)) := by omega
  have hn41 : ¬ ((40 : Int) < (ks'.length : Int)) := by omega
  have hk40 : (ks.length : Int) ≤ 40 := by omega
  have hk41 : (ks'.length : Int) ≤ 40 := by omega
  have hk42 : (ms.length : Int) ≤ 80 := by omega
  clear hk18 hn19 hm19 hr19
  go_wp2_with fail
  go_loopw [23, 157] (fun n i wi => ∃ j : Nat, j ≤ ks.length ∧ i = .int .i64 j ∧ n = .int .i64 (cntK ks' (ks.take j) : Nat) ∧ Below w19.heap.size w19 wi) (fun _ i _ => ks.length - (intOf i).toNat)
  case atStart => exact ⟨0, Nat.zero_le _, rfl, rfl, Below.refl _ _⟩
  case round =>
    obtain ⟨j, hj, rfl, rfl, hb⟩ := hrel
    have hbz := hb.size
    have hcb := cntK_le ks' ks j
    by_cases hlt : j < ks.length
    · obtain ⟨b, off, rfl, hB, hc⟩ := R1'.out.below hb (by omega)
      obtain ⟨d0, d1⟩ := hc j hlt
      obtain ⟨w20, hw20, v0, v1, hb20, hz20⟩ := box2 wr (.int .i64 ks[j].x) (.int .i64 ks[j].y) 30
      have HW20 := Lib.hid hw20
      have bt := hb.trans (hb20.mono hbz)
      have HIN := Lib.hid (show decide (ks[j] ∈ ms) = true by
        rw [decide_eq_true_eq]
        exact (M3.out _).2 (HT.out ▸ ends_merge (M1.out _ |>.1 (List.getElem_mem hlt))))
      clear hc hw20
      by_cases hin : ks[j] ∈ ks'
      · have HC := Lib.hid (cntK_in hlt hin)
        have HD := Lib.hid (show decide (ks[j] ∈ ks') = true by simpa using hin)
        clear hin
        go_wp2_with fail
        rw [← HW20.out]
        refine (refHasKnot a14 c14 ks' ks[j] _ (by omega) ((R2'.out.below bt).more bt.size)).mono ?_
        rintro e w21 ⟨rfl, hb21⟩
        rw [HD.out]
        have bt1 := bt.trans (hb21.mono bt.size)
        have v0' := (hb21.cell (p := ⟨wr.heap.size, 0, none⟩) hz20).trans v0
        have v1' := (hb21.cell (p := ⟨wr.heap.size, 1, none⟩) hz20).trans v1
        go_wp2_with fail
        refine (refHasKnot a19 c19 ms ks[j] _ (by omega) ((R3.out.below bt1).more bt1.size)).mono ?_
        rintro e w22 ⟨rfl, hb22⟩
        rw [HIN.out]
        go_wp2
        go_roundw
        case rel => exact ⟨j + 1, by omega, by go_num, by rw [HC.out]; go_num, bt1.trans (hb22.mono bt1.size)⟩
        case measure => simp [intOf]; omega
      · have HC := Lib.hid (cntK_out hlt hin)
        have HD := Lib.hid (show decide (ks[j] ∈ ks') = false by simpa using hin)
        clear hin
        go_wp2_with fail
        rw [← HW20.out]
        refine (refHasKnot a14 c14 ks' ks[j] _ (by omega) ((R2'.out.below bt).more bt.size)).mono ?_
        rintro e w21 ⟨rfl, hb21⟩
        rw [HD.out]
        have bt1 := bt.trans (hb21.mono bt.size)
        have v0' := (hb21.cell (p := ⟨wr.heap.size, 0, none⟩) hz20).trans v0
        have v1' := (hb21.cell (p := ⟨wr.heap.size, 1, none⟩) hz20).trans v1
        go_wp2_with fail
        refine (refHasKnot a19 c19 ms ks[j] _ (by omega) ((R3.out.below bt1).more bt1.size)).mono ?_
        rintro e w22 ⟨rfl, hb22⟩
        rw [HIN.out]
        go_wp2
        go_roundw
        case rel => exact ⟨j + 1, by omega, by go_num, by rw [HC.out], bt1.trans (hb22.mono bt1.size)⟩
        case measure => simp [intOf]; omega
    · obtain rfl : j = ks.length := by omega
      have hsum : (ms.length : Int) = (ks.length : Int) + (ks'.length : Int) - (cntK ks' (ks.take ks.length) : Nat) := by
        have := SUM.out
        rw [List.take_length]
        unfold cntK
        omega
      generalize (cntK ks' (ks.take ks.length) : Nat) = cc at hsum hcb ⊢
      have heq : ((ms.length : Int) == (ks.length : Int) + (ks'.length : Int) - (cc : Int)) = true := by rw [beq_iff_eq]; exact hsum
      have hcc : (cc : Int) ≤ 40 := by omega
      have HSM := Lib.hid hsum
      clear hsum
      go_wp2_with fail
      refine (Calls.mono (corkMesh _) ?_)
      rintro e w23 ⟨rfl, hb23⟩
      have qf := Q.out
      go_wp2
      go_ret
      exact ⟨rfl, (q19.trans (hb.mono q19.size)).trans (hb23.mono (by have := q19.size; omega))⟩
end Go.Proofs.Ytkplpmhdmlkjhaa

namespace Go.Proofs.Ytkplpmhdmlkjhaa
open Go.ChangeShapes Go.WideShapes Go.ChangeAt Go.RowKit

theorem topApart (A A' : Option Addr) (c c' : Nat) (l l' : List Ck.Bar) (w : World) (hA : A = none → c = 0) (hA' : A' = none → c' = 0) (hm : l.length ≤ maxLen) (hm' : l'.length ≤ maxLen) (h : RB w w.heap.size A l) (h' : RB w w.heap.size A' l') :
    Calls Try.prog 3 #[.slice A l.length c, .slice A' l'.length c'] w (YesPost w) := by
  cases h1 : corkF l
  · exact apartNo A A' c c' l l' w hm hm' h h' (.inl h1)
  · cases h2 : corkF l'
    · exact apartNo A A' c c' l l' w hm hm' h h' (.inr ⟨h1, h2⟩)
    · exact apartYes A A' c c' l l' w hA hA' h h' h1 h2

theorem Try.own : ownKnob Try.prog.godebug = none := by kernel_rfl
theorem Try.laidOut : laidOutB Try.prog = true := by kernel_rfl

set_option maxRecDepth 100000 in
theorem apart_lifted (os : Os) (started : os.Started) (H : Type) (enc : TypeId × Value → H) :
    ReturnsInHanded {} Try.checked os 3 .any (Rows.topCorkApartSpec.pre6 enc Try.prog Try.f3 Rows.topCorkApartRow.domain false) (Rows.topCorkApartSpec.post enc Try.prog Try.f3 false true false false) := by
  refine returnsInHanded_of_change (C := Try.checked) Try.own started (by kernel_rfl) Try.func3
    (ChangeSpec.witness6 (enc := enc) (C := Try.checked) false ⟨#[], #[.slice none 0 0, .slice none 0 0], []⟩ 8 (by kernel_rfl) (by kernel_rfl) (by kernel_rfl) (by kernel_rfl)) ?_
  intro W base args ds gs before hval0 hW _ _
  have hval : ∀ (j : Nat) t v, Try.f3.params[j]? = some t → args[j]? = some v → Value.okWide Try.prog W .any base t v := hval0
  have hW' := hW
  obtain ⟨p, q, hA0, hV, rfl, _, _⟩ := hW
  have hA : DataW.TrodAll enc Try.prog W 0 (fun _ => true) true Try.f3.params.toList args.toList ds p := hA0
  rw [Try.params3] at hA hval
  obtain ⟨v0, v1, d0, d1, p0, p1, rfl, rfl, rfl, h0, h1⟩ := trodAll_two hA
  obtain ⟨rfl, rfl⟩ := trodVars_none hV
  clear hA0 hval0
  simp only [List.append_nil] at hW'
  have hlt : ∀ x ∈ p0 ++ p1, x.block < W.heap.size := fun x hx => by simpa using hW'.lt x hx
  obtain ⟨A, c, l, rfl, hAn, hlc, hcm, hR⟩ := open_bars (hval 0 22 v0 rfl rfl) h0 (fun x hx => hlt x (List.mem_append_left _ hx))
  obtain ⟨A', c', l', rfl, hAn', hlc', hcm', hR'⟩ := open_bars (hval 1 22 v1 rfl rfl) h1 (fun x hx => hlt x (List.mem_append_right _ hx))
  have harg0 : ∀ (W' : World), Below W.heap.size W W' → DataW.Trod enc Try.prog W' 0 (fun b => decide (b < W.heap.size)) true 22 (.slice A l.length c) d0 p0 :=
    fun W' hn => Below.trod Try.laidOut (by kernel_rfl) (of_decide_eq_true (by kernel_rfl)) h0 hn (fun x hx => hlt x (List.mem_append_left _ hx))
  have harg1 : ∀ (W' : World), Below W.heap.size W W' → DataW.Trod enc Try.prog W' 0 (fun b => decide (b < W.heap.size)) true 22 (.slice A' l'.length c') d1 p1 :=
    fun W' hn => Below.trod Try.laidOut (by kernel_rfl) (of_decide_eq_true (by kernel_rfl)) h1 hn (fun x hx => hlt x (List.mem_append_right _ hx))
  refine (topApart A A' c c' l l' W hAn hAn' (Nat.le_trans hlc hcm) (Nat.le_trans hlc' hcm') hR hR').mono fun e W' ⟨he, hb⟩ => ?_
  subst he
  refine ⟨_, rfl, _, _, _, [], p0 ++ p1, [], hW', ?_, trodAll_mk2 (harg0 W' hb) (harg1 W' hb), rfl, hb.frame _, fun h => by cases h⟩
  exact trodAll_mk1 (shut_bool Try.underlying4 true)

theorem x_holds : Rows.TopCorkApartSaid :=
  OpenClaim.holds_of_wide 3 Try.f3 rfl rfl rfl rfl rfl rfl rfl ⟨rfl, rfl, rfl, rfl, rfl⟩ rfl rfl rfl rfl rfl (by kernel_rfl) Try.func3 (by kernel_rfl)
    (of_decide_eq_true (by kernel_rfl)) (by unfold Func.isWrapper; first | (rw [if_pos (by decide +kernel)]; kernel_rfl) | (rw [if_neg (by decide +kernel)]; exact ⟨rfl, rfl⟩))
    (fun os started H enc _ => apart_lifted os started H enc)
#print axioms x_holds
end Go.Proofs.Ytkplpmhdmlkjhaa
