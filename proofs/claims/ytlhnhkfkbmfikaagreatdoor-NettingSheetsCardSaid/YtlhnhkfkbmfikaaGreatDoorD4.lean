/- Helpers, part 4. -/
import Derived.Test.YtlhnhkfkbmfikaaGreatDoorD3
import Derived.Sort.OwnSorted
import Derived.Shelf.SlSortCmp.InsertionK
import Derived.Shelf.SlSortCmp.NoneTotal
import Derived.Laws.AppendOwnNone
import Derived.Deep.RegionHeld3
import Derived.Test.YtlhnhkfkbmfikaaGreatDoorRows
import Derived.Shelf.Strings.BuilderK
import Derived.BigQuiet
/- A row of the call's own with elements of k cells, before and behind the library's sort. -/
namespace Go.Proofs.YtlhnhkfkbmfikaaGreatDoor
open Go.RowKit Go.Sort

variable {α : Type} [Inhabited α]
theorem flat_at (enc : α → List Value) (k : Nat) (hk : ∀ x, (enc x).length = k) : ∀ (ss : List α) (t : Nat), t < ss.length * k → (ss.flatMap enc)[t]? = some ((enc (ss[t / k]!))[t % k]!)
  | [], t, h => by simp at h
  | a :: r, t, h => by
    have k0 : 0 < k := by
      rcases Nat.eq_zero_or_pos k with h0 | h0
      · subst h0; simp at h
      · exact h0
    rw [List.flatMap_cons]
    by_cases ht : t < k
    · rw [List.getElem?_append_left (by rw [hk]; exact ht), Nat.div_eq_of_lt ht, Nat.mod_eq_of_lt ht]
      have : t < (enc a).length := by rw [hk]; exact ht
      simp [this]
    · have h1 : t - k < r.length * k := by
        have : (a :: r).length * k = r.length * k + k := by rw [List.length_cons, Nat.add_mul, Nat.one_mul]
        omega
      have e1 : t / k = (t - k) / k + 1 := by
        have e := Nat.add_div_right (t - k) k0
        rwa [Nat.sub_add_cancel (by omega)] at e
      have e2 : t % k = (t - k) % k := by
        have e := Nat.add_mod_right (t - k) k
        rw [Nat.sub_add_cancel (by omega)] at e
        exact e
      rw [List.getElem?_append_right (by rw [hk]; omega), hk, flat_at enc k hk r (t - k) h1, e1, e2]
      simp
omit [Inhabited α] in
theorem flat_length (enc : α → List Value) (k : Nat) (hk : ∀ x, (enc x).length = k) : ∀ (ss : List α), (ss.flatMap enc).length = ss.length * k
  | [] => by simp
  | a :: r => by rw [List.flatMap_cons, List.length_append, hk, flat_length enc k hk r, List.length_cons, Nat.add_mul, Nat.one_mul]; omega
theorem flatK_list (enc : α → List Value) (k : Nat) (hk : ∀ x, (enc x).length = k) (ss : List α) : flatK enc k ss.toArray = (ss.flatMap enc).toArray := by
  refine ext_get! (by simp [flat_length enc k hk]) fun t ht => ?_
  have ht' : t < ss.length * k := by simpa using ht
  rw [get_flatK enc k _ t (by simpa using ht')]
  have h := flat_at enc k hk ss t ht'
  rw [getElem!_pos _ t (by simpa [flat_length enc k hk] using ht')]
  rw [List.getElem?_eq_getElem (by rw [flat_length enc k hk]; exact ht'), Option.some.injEq] at h
  rw [List.getElem_toArray, h]
  simp
theorem holdsK_of_row (enc : α → List Value) (k : Nat) (hk : ∀ x, (enc x).length = k) {w : World} {g : Nat} {cur : Array Value} {e : TypeId} (ss : List α) (hb : w.heap[g]? = some (.cells cur e (0, 0))) (ht : cur.toList.take (ss.length * k) = ss.flatMap enc) :
    HoldsK enc k w g 0 ss.toArray := by
  unfold HoldsK
  rw [flatK_list enc k hk]
  intro j hj
  have hj' : j < ss.length * k := by simpa [flat_length enc k hk] using hj
  refine ⟨?_, by simp [World.frozen?, hb]⟩
  have h1 : (cur.toList.take (ss.length * k))[j]? = (ss.flatMap enc)[j]? := by rw [ht]
  rw [List.getElem?_take_of_lt hj', flat_at enc k hk ss j hj'] at h1
  have h2 := flat_at enc k hk ss j hj'
  have h3 : (ss.flatMap enc).toArray[j]! = (enc ss[j / k]!)[j % k]! := by
    rw [getElem!_pos _ j hj, List.getElem_toArray]
    rw [List.getElem?_eq_getElem (by rw [flat_length enc k hk]; exact hj'), Option.some.injEq] at h2
    exact h2
  rw [h3]
  simp only [World.cell?, hb, Nat.zero_add, id]
  simp only [Option.isSome_none, Bool.false_eq_true, if_false]
  rw [← Array.getElem?_toList, h1]
theorem take_put (cur : Array Value) (ts : List Value) (h : ts.length ≤ cur.size) : (putCells id 0 ts.toArray cur).toList.take ts.length = ts := by
  apply List.ext_getElem?
  intro j
  by_cases hj : j < ts.length
  · rw [List.getElem?_take_of_lt hj, Array.getElem?_toList]
    simp [putCells, hj, show j < cur.size by omega]
  · rw [List.getElem?_take_eq_none (by omega), List.getElem?_eq_none (by omega)]
theorem sorted_heap {w : World} {g m : Nat} {os : Array Obj} {cur : Array Value} {e : TypeId} {fr : Nat × Nat} (F : Array Value) (hb : w.heap[g]? = some (.cells cur e fr)) :
    (grow (putRow id (Sort.ahead w m) g 0 F) os).heap[g]? = some (.cells (putCells id 0 F cur) e fr) := by
  have hg : g < w.heap.size := (Array.getElem?_eq_some_iff.1 hb).1
  rw [heap_grow_old _ _ (by simpa using hg)]
  simp [putRow, mapBlock, Sort.ahead, Array.getElem?_modify, hb, onCells]
theorem sorted_grown {w : World} {g m : Nat} {os : Array Obj} (F : Array Value) : w.grownBy (grow (putRow id (Sort.ahead w m) g 0 F) os) (some g) := by
  refine ⟨rfl, rfl, rfl, by simp, fun k hk hne => ?_⟩
  rw [heap_grow_old _ _ (by simpa using hk)]
  have : g ≠ k := fun e => hne (by rw [e])
  simp [putRow, mapBlock, Sort.ahead, Array.getElem?_modify, this]
/-- Behind the sort the same slice owns the cells of the permuted elements. -/
theorem sorted_owns (enc : α → List Value) (k : Nat) (hk : ∀ x, (enc x).length = k) {w : World} {base g cap m : Nat} {e : TypeId} {os : Array Obj} {cur : Array Value} (ss : List α) (hbase : base ≤ g) (hb : w.heap[g]? = some (.cells cur e (0, 0)))
    (h1 : ss.length ≤ cap) (h2 : cap ≤ maxLen) (h3 : cur.size = cap * k) :
    (sortWorldK enc k w g 0 m ss.toArray os).ownsRow base e k (.slice (some ⟨g, 0, none⟩) ss.length cap) ss.length (ss.flatMap enc) ∧ (base ≤ w.heap.size → Below base w (sortWorldK enc k w g 0 m ss.toArray os)) := by
  unfold sortWorldK putRowK
  rw [flatK_list enc k hk]
  refine ⟨⟨flat_length enc k hk ss, .inr ⟨g, cap, _, rfl, hbase, sorted_heap _ hb, h1, h2, by simp [putCells, h3], ?_⟩⟩, fun hB => (Below.refl _ _).grown (sorted_grown _) hB (fun j e => by cases e; exact hbase)⟩
  have hle : (ss.flatMap enc).length ≤ cur.size := by rw [flat_length enc k hk, h3]; exact Nat.mul_le_mul_right k h1
  have := take_put cur (ss.flatMap enc) hle
  rwa [flat_length enc k hk] at this
end Go.Proofs.YtlhnhkfkbmfikaaGreatDoor

/- The library's sort at bars by compareBars. -/
namespace Go.Proofs.YtlhnhkfkbmfikaaGreatDoor
open Go.RowKit Go.Sort Go.Shelf

instance (a b : Ck.Bar) : Decidable (Ck.Blt a b) := by unfold Ck.Blt; infer_instance
instance : Inhabited Ck.Bar := ⟨⟨0, 0, 0⟩⟩
instance : Inhabited Ck.Knot := ⟨⟨0, 0⟩⟩
theorem ltBars (x y : Ck.Bar) : ltOf cmpB x y = decide (Ck.Blt x y) := by
  unfold ltOf
  rw [decide_eq_decide, cmpB_lt_iff]
theorem swoBars : SWO (ltOf cmpB) where
  irrefl x := by rw [ltBars, decide_eq_false_iff_not]; exact fun h => h.irrefl
  trans x y z h1 h2 := by
    rw [ltBars, decide_eq_true_eq] at *
    exact h1.trans h2
  ntrans x y z h1 h2 := by
    rw [ltBars, decide_eq_false_iff_not] at *
    unfold Ck.Blt at *
    omega
theorem totBars (x y : Ck.Bar) (h1 : ltOf cmpB x y = false) (h2 : ltOf cmpB y x = false) : x = y := by
  rw [ltBars, decide_eq_false_iff_not] at *
  rcases Ck.Blt.tri x y with h | h | h
  · exact absurd h h1
  · exact h
  · exact absurd h h2
theorem layBars (blk off size : Nat) (w : World) : CmpLays Tryz.prog 97 #[] bcells 3 cmpB blk off size w := fun _ _ _ _ x y =>
  (netCompareBars x.x x.y x.s y.x y.y y.s _).mono fun e w' h => by
    obtain ⟨he, rfl⟩ := h
    exact ⟨he, 1, _, by rw [alloc_eq_grow, alloc_eq_grow, alloc_eq_grow, grow_grow, grow_grow]; rfl⟩

def leB (x y : Ck.Bar) : Bool := !(ltOf cmpB y x)
def sortBars (l : List Ck.Bar) : List Ck.Bar := l.mergeSort leB
theorem leB_iff (x y : Ck.Bar) : leB x y = true ↔ ¬ Ck.Blt y x := by simp [leB, ltBars]
theorem sortBars_perm (l : List Ck.Bar) : (sortBars l).Perm l := List.mergeSort_perm l leB
theorem sortBars_sorted (l : List Ck.Bar) : (sortBars l).Pairwise fun x y => ¬ Ck.Blt y x := by
  have := List.pairwise_mergeSort (le := leB) (fun a b c h1 h2 => by rw [leB_iff] at *; unfold Ck.Blt at *; omega) (fun a b => by rw [Bool.or_eq_true, leB_iff, leB_iff]; unfold Ck.Blt; omega) l
  exact this.imp fun {a b} h => (leB_iff a b).1 h
theorem sortBars_strict {l : List Ck.Bar} (hn : l.Nodup) : (sortBars l).Pairwise Ck.Blt := by
  have h1 := sortBars_sorted l
  have h2 : (sortBars l).Nodup := (sortBars_perm l).nodup_iff.2 hn
  exact h1.imp₂ (fun a b h k => by
    rcases Ck.Blt.tri a b with h' | h' | h'
    · exact h'
    · exact absurd h' k
    · exact absurd h' h) h2
theorem sortBars_net {l : List Ck.Bar} (h : l.Pairwise Ck.Blt) : sortBars l = l :=
  List.Perm.eq_of_pairwise (le := fun a b => ¬ Ck.Blt b a) (fun a b _ _ h1 h2 => by
    rcases Ck.Blt.tri a b with h' | h' | h'
    · exact absurd h' h2
    · exact h'
    · exact absurd h' h1) (sortBars_sorted l) (h.imp fun {a b} h k => (h.trans k).irrefl) (sortBars_perm l)

theorem netSortBars (base : Nat) (v : Value) (l : List Ck.Bar) (w : World) (hl : l.length ≤ 100000) (hB : base ≤ w.heap.size) (h : w.ownsRow base 65 3 v l.length (bcellsL l)) :
    Calls Tryz.prog 101 #[v, .func (.func 97) #[] #[]] w fun e w' => e = .returned (.tuple #[]) ∧ w'.ownsRow base 65 3 v l.length (bcellsL (sortBars l)) ∧ Below base w w' := by
  have eg : ∀ args w, (callFunc 97 args).run Tryz.prog w = .ok (.enter 97 args) w := enters_of Tryz.func97 (by kernel_rfl) rfl
  rcases h.2 with ⟨rfl, hz⟩ | ⟨g, cap, cur, rfl, hbase, hgb, r1, r2, r3, r4⟩
  · have hl0 : l = [] := List.eq_nil_of_length_eq_zero hz
    subst hl0
    have hc := AnyF.slices_SortFunc_none Tryz.sortB none 0 (.func (.func 97) #[] #[]) w
    change Calls Tryz.prog 101 _ _ _ at hc
    exact hc.mono fun e w' ⟨he, hw⟩ => ⟨he, by rw [hw]; exact ⟨by simp [sortBars, bcellsL], .inl ⟨rfl, rfl⟩⟩, by rw [hw]; exact Below.refl _ _⟩
  · have hH := holdsK_of_row bcells 3 (fun _ => rfl) l hgb (r4.trans rfl)
    have hgl : g < w.heap.size := (Array.getElem?_eq_some_iff.1 hgb).1
    have hc := AnyQ.slices_SortFunc_total Tryz.sortB 3 Tryz.isAgg65 Tryz.sizeOf65 bcells (fun _ => rfl) (fun x v hv => by simp [bcells] at hv; rcases hv with rfl | rfl | rfl <;> rfl) cmpB swoBars 97 #[] g 0 cap l.toArray w eg (layBars g 0 _ w) hH hgl (by simp; omega) totBars
    change Calls Tryz.prog 101 _ _ _ at hc
    rw [List.size_toArray] at hc
    refine hc.mono fun e w' ⟨he, n, os, hw⟩ => ?_
    have hs : (l.toArray.toList.mergeSort fun x y => !(ltOf cmpB) y x) = sortBars l := rfl
    rw [hs] at hw
    have hp := (sortBars_perm l).length_eq
    obtain ⟨q1, q2⟩ := sorted_owns bcells 3 (fun _ => rfl) (m := n) (os := os) (sortBars l) hbase hgb (by rw [hp]; exact r1) r2 r3
    rw [hp] at q1
    rw [hw]
    exact ⟨he, q1, q2 hB⟩
end Go.Proofs.YtlhnhkfkbmfikaaGreatDoor

/- The contract of moved, by a shift's closure. -/
namespace Go.Proofs.YtlhnhkfkbmfikaaGreatDoor
open Go.RowKit

theorem made_row (w : World) (base n : Nat) (hb : base ≤ w.heap.size) (hn : n ≤ 4096) (cs : Array Value) (hcs : cs.size = n * 3) (t : TypeId) : (w.alloc (.cells cs t)).ownsRow base t 3 (.slice (some ⟨w.heap.size, 0, none⟩) 0 n) 0 [] :=
  ⟨by simp, .inr ⟨_, _, _, rfl, hb, heap_alloc_new _ _, Nat.zero_le _, by unfold maxLen; omega, hcs, by simp⟩⟩
def zeros3 (n : Nat) : Array Value := madeCells (Value.agg #[.int .i64 0, .int .i64 0, .int .i64 0]).cells (n * 3)

def K5 (W : World) (g g0 : Nat) (a b c d e : Value) (w0 : World) : Prop := w0.cell? ⟨g, 0, none⟩ = some a ∧ w0.cell? ⟨g, 1, none⟩ = some b ∧ w0.cell? ⟨g, 2, none⟩ = some c ∧ w0.cell? ⟨g0, 0, none⟩ = some d ∧ w0.cell? ⟨g0, 1, none⟩ = some e ∧ g < w0.heap.size ∧ g0 < w0.heap.size ∧ Below g W w0
theorem carry5 {W w0 w1 : World} {g g0 : Nat} {a b c d e : Value} (hb : Below w0.heap.size w0 w1) (h : K5 W g g0 a b c d e w0) : K5 W g g0 a b c d e w1 :=
  ⟨(hb.cell (p := ⟨g, _, none⟩) h.2.2.2.2.2.1).trans h.1, (hb.cell (p := ⟨g, _, none⟩) h.2.2.2.2.2.1).trans h.2.1, (hb.cell (p := ⟨g, _, none⟩) h.2.2.2.2.2.1).trans h.2.2.1, (hb.cell (p := ⟨g0, _, none⟩) h.2.2.2.2.2.2.1).trans h.2.2.2.1, (hb.cell (p := ⟨g0, _, none⟩) h.2.2.2.2.2.2.1).trans h.2.2.2.2.1, Nat.lt_of_lt_of_le h.2.2.2.2.2.1 hb.size, Nat.lt_of_lt_of_le h.2.2.2.2.2.2.1 hb.size, h.2.2.2.2.2.2.2.trans (hb.mono (Nat.le_of_lt h.2.2.2.2.2.1))⟩
theorem K5.below {W w0 : World} {g g0 : Nat} {a b c d e : Value} (h : K5 W g g0 a b c d e w0) : Below g W w0 := h.2.2.2.2.2.2.2

theorem mov_row {w10 : World} {base : Nat} {v : Value} {l : List Ck.Bar} {k : Nat} {dx dy : Int} (hlt : k < l.length) (h : w10.ownsRow base 65 3 v (k + 1) (bcellsL ((l.take k).map (Ck.Bar.shift dx dy)) ++ [.int .i64 (l[k].x + dx), .int .i64 (l[k].y + dy), .int .i64 l[k].s])) :
    Hid (w10.ownsRow base 65 3 v (k + 1) (bcellsL ((l.take (k + 1)).map (Ck.Bar.shift dx dy)))) := by
  rw [List.take_succ_eq_append_getElem hlt, List.map_append, bcellsL, List.flatMap_append, ← bcellsL]
  exact h
theorem mov_below {wr w9 w10 : World} {o : Obj} {base : Nat} {row : Option Nat} (hb : Below wr.heap.size wr w9) (hg : (w9.alloc o).grownBy w10 row) (hrow : ∀ k, row = some k → base ≤ k) (hbz : base ≤ wr.heap.size) : Below base wr w10 :=
  (((hb.mono hbz).alloc (Nat.le_trans hbz hb.size) _)).grown hg (by have := hb.size; simp; omega) hrow

def MovPost (l : List Ck.Bar) (dx dy : Int) (w : World) (e : Ending) (w' : World) : Prop :=
  ∃ v, e = .returned v ∧ w'.ownsRow w.heap.size 65 3 v l.length (bcellsL (sortBars (l.map (Ck.Bar.shift dx dy)))) ∧ Below w.heap.size w w'

set_option maxHeartbeats 4000000 in
set_option maxRecDepth 100000 in
theorem netMoved (A : Option Addr) (c g0 : Nat) (l : List Ck.Bar) (dx dy : Int) (w : World) (hl : l.length ≤ 4096) (hok : ∀ x ∈ l, Ck.okBar x) (h : RB w w.heap.size A l) (k1 : -500000 ≤ dx) (k2 : dx ≤ 500000) (k3 : -500000 ≤ dy) (k4 : dy ≤ 500000)
    (hg : g0 < w.heap.size) (c0 : w.cell? ⟨g0, 0, none⟩ = some (.int .i64 dx)) (c1 : w.cell? ⟨g0, 1, none⟩ = some (.int .i64 dy)) :
    Calls Tryz.prog 65 #[.slice A l.length c, .func (.func 120) #[] #[.pointer (some ⟨g0, 0, none⟩)]] w (MovPost l dx dy w) := by
  obtain ⟨ib, hib, hb0, hb01, hb02⟩ := info_parts Tryz.info65
  have hmk : ∀ W : World, (Instr.makeSlice 35 (.int .i64 0) (.int .i64 (l.length : Int))).run Tryz.prog W = .ok (.slice (some ⟨W.heap.size, 0, none⟩) 0 l.length) (W.alloc (.cells (zeros3 l.length) 65)) := fun W => by
    have := run_make (P := Tryz.prog) W 35 65 ib _ Tryz.underlying35 hib hb0 .i64 .i64 0 (l.length : Int) (by omega) (by omega) (by rw [hb02]; omega) (by omega)
    rw [hb01, Int.toNat_natCast] at this
    exact this
  have HIB := Lib.hid hib
  have HB0 := Lib.hid hb0
  have HB1 := Lib.hid hb01
  have HB2 := Lib.hid hb02
  have HR := Lib.hid h
  have hl' : (l.length : Int) ≤ 4096 := by omega
  clear hib hb0 hb01 hb02 h
  go_enter Tryz.func65, Tryz.ntmps65
  go_wp2_with fail
  go_loopw [5, 7, 13] (fun v _ i wi => ∃ k : Nat, k ≤ l.length ∧ i = .int .i64 k ∧ Hid (wi.ownsRow w.heap.size 65 3 v k (bcellsL ((l.take k).map (Ck.Bar.shift dx dy)))) ∧ Below w.heap.size w wi) (fun _ _ i _ => l.length - (intOf i).toNat)
  case atStart => exact ⟨0, Nat.zero_le _, rfl, made_row _ _ _ (Nat.le_refl _) hl _ (by rw [zeros3, size_madeCells]) _, (Below.refl _ _).alloc (Nat.le_refl _) _⟩
  case round =>
    obtain ⟨k, hk, rfl, hown, hb⟩ := hrel
    by_cases hlt : k < l.length
    · obtain ⟨b, off, rfl, hB, hc⟩ := HR.out.below hb (by omega)
      obtain ⟨d0, d1, d2⟩ := hc k hlt
      have hbz := hb.size
      obtain ⟨⟨⟨hx1, hx2⟩, ⟨hy1, hy2⟩, _⟩, hs, _⟩ := hok _ (List.getElem_mem hlt)
      replace hx1 : -100000 ≤ l[k].x := hx1
      replace hx2 : l[k].x ≤ 100000 := hx2
      replace hy1 : -100000 ≤ l[k].y := hy1
      replace hy2 : l[k].y ≤ 100000 := hy2
      have hs1 : -1 ≤ l[k].s := by omega
      have hs2 : l[k].s ≤ 1 := by omega
      have q0 := (hb.cell (p := ⟨g0, 0, none⟩) hg).trans c0
      have q1 := (hb.cell (p := ⟨g0, 1, none⟩) hg).trans c1
      clear hc hs
      go_wp2_with fail
      obtain ⟨w1, hw1, e0, e1, e2, hb1, hz1⟩ := box3 wr (.int .i64 l[k].x) (.int .i64 l[k].y) (.int .i64 l[k].s) 65
      rw [← hw1]
      clear hw1 d0 d1 d2
      replace q0 := (hb1.cell (p := ⟨g0, 0, none⟩) (by show g0 < _; omega)).trans q0
      replace q1 := (hb1.cell (p := ⟨g0, 1, none⟩) (by show g0 < _; omega)).trans q1
      have hk0 : K5 wr wr.heap.size g0 (.int .i64 l[k].x) (.int .i64 l[k].y) (.int .i64 l[k].s) (.int .i64 dx) (.int .i64 dy) w1.drew := ⟨e0, e1, e2, q0, q1, hz1, by show g0 < w1.heap.size; omega, below_drew hb1⟩
      go_region_law (first
        | (go_simp; go_at_call 92; refine (netLower _ _ _ _).mono ?_; rintro e w9 ⟨rfl, hb9⟩; have hk9 := carry5 hb9 (by assumption); obtain ⟨_, _, _, _, _, _, _, _⟩ := id hk9)
        | (go_simp; go_at_call 95; refine (netUpper _ _ _ _ hx1 hx2 hy1 hy2 hs1 hs2).mono ?_; rintro e w9 ⟨rfl, hb9⟩; have hk9 := carry5 hb9 (by assumption); obtain ⟨_, _, _, _, _, _, _, _⟩ := id hk9)
        | (go_simp; go_at_call 120; refine (shiftClosure _ _ dx dy g0 _ (by omega) (by omega) (by omega) (by omega) (by omega) (by omega) (by omega) (by omega) (by assumption) (by assumption) (by assumption)).mono ?_; rintro e w9 ⟨rfl, hb9⟩; have hk9 := carry5 hb9 (by assumption); obtain ⟨_, _, _, _, _, _, _, _⟩ := id hk9)
        | (go_simp; go_at_call 100; refine (netBetweenUp _ _ _ _ _ (by omega) (by omega) (by omega) (by omega) (by omega)).mono ?_; rintro e w9 ⟨rfl, hb9⟩; have hk9 := carry5 hb9 (by assumption); obtain ⟨_, _, _, _, _, _, _, _⟩ := id hk9; rw [show l[k].x + l[k].s + dx - (l[k].x + dx) = l[k].s from by omega])
        | (refine step_append_lies _ rfl (.tmp 17) (.tmp 27) 35 rfl w.heap.size 65 ib (.agg #[.int .i64 0, .int .i64 0, .int .i64 0]) 3 24 Tryz.underlying35 HIB.out HB0.out HB1.out HB2.out rfl (by decide) u5 k (bcellsL ((l.take k).map (Ck.Bar.shift dx dy))) (by simp [Act.eval]) (by exact (ownsRow_below hown.out (K5.below (by assumption))).alloc _) _ 1 1 [.int .i64 (l[k].x + dx), .int .i64 (l[k].y + dy), .int .i64 l[k].s] (by first | (simp [Act.eval]; done) | (simp [Act.eval]; rfl)) rfl (by exact three_new _ _ _ _ _) (by intro u hu; simp at hu; rcases hu with rfl | rfl | rfl <;> rfl) (by decide) (by unfold maxLen; omega) (by omega) (by simp; omega) _ rfl ?_; intro gx cap w10 hown10 hgrow10 _ _))
      all_goals
        have hrow := mov_row (dx := dx) (dy := dy) hlt hown10
        have hbel := hb.trans (mov_below (K5.below (by assumption)) hgrow10 (ownsRow_base hown.out) hbz)
        clear hgrow10 hown10
        go_wp2
        go_roundw
        case rel => exact ⟨k + 1, by omega, by go_num, hrow, hbel⟩
        case measure => simp [intOf]; omega
    · obtain rfl : k = l.length := by omega
      have hrow := hown.out
      rw [List.take_length] at hrow
      have hlm : (l.map (Ck.Bar.shift dx dy)).length = l.length := List.length_map ..
      rw [← hlm] at hrow
      have hbz := hb.size
      go_wp2_with fail
      refine (netSortBars w.heap.size _ (l.map (Ck.Bar.shift dx dy)) _ (by omega) hbz hrow).mono ?_
      rintro e w2 ⟨rfl, hrow2, hb2⟩
      rw [hlm] at hrow2
      have HO := Lib.hid hrow2
      clear hrow hrow2
      go_wp2
      go_ret
      exact ⟨_, rfl, HO.out, hb.trans hb2⟩
end Go.Proofs.YtlhnhkfkbmfikaaGreatDoor

/- Edges of tapers: plain mathematics of the bars that a word follows. -/
namespace Go.Proofs.YtlhnhkfkbmfikaaGreatDoor
open Ck

def dxL (c : UInt8) : Int := if c = 84 then 2 else if c = 66 then 1 else 0
def dyL (c : UInt8) : Int := if c = 78 then 2 else if c = 66 then 1 else 0
def isL (c : UInt8) : Prop := c = 78 ∨ c = 66 ∨ c = 84
def stepK (σ : Int) (k : Knot) (c : UInt8) : Knot := ⟨k.x + σ * dxL c, k.y + dyL c⟩
def barsP (σ : Int) : Knot → List UInt8 → List Bar
  | _, [] => []
  | k, c :: r => if c = 66 then ⟨k.x, k.y, σ⟩ :: barsP σ (stepK σ k c) r else barsP σ (stepK σ k c) r
/-- Does the word begin with a bar? -/
def headB : List UInt8 → Bool
  | 66 :: _ => true
  | _ => false
/-- The runs of bars, counted at their ends. -/
def endsR : List UInt8 → Nat
  | [] => 0
  | c :: r => (if c = 66 then (if headB r = true then 0 else 1) else 0) + endsR r
def barsN (l : List UInt8) : Nat := l.countP fun c => decide (c = 66)

theorem dyL_nonneg (c : UInt8) : 0 ≤ dyL c := by unfold dyL; split <;> (try split) <;> omega
theorem step_y (σ : Int) (k : Knot) (c : UInt8) : (stepK σ k c).y = k.y + dyL c := rfl
theorem step_B (σ : Int) (k : Knot) : stepK σ k 66 = ⟨k.x + σ, k.y + 1⟩ := by simp [stepK, dxL, dyL]
theorem barsP_cons (σ : Int) (k : Knot) (c : UInt8) (r : List UInt8) : barsP σ k (c :: r) = if c = 66 then ⟨k.x, k.y, σ⟩ :: barsP σ (stepK σ k c) r else barsP σ (stepK σ k c) r := rfl
theorem barsP_ge {σ : Int} : ∀ {l : List UInt8} {k : Knot} {b : Bar}, b ∈ barsP σ k l → k.y ≤ b.y ∧ b.s = σ
  | [], _, _, h => by simp [barsP] at h
  | c :: r, k, b, h => by
    have hd := dyL_nonneg c
    rw [barsP_cons] at h
    split at h
    · rcases List.mem_cons.1 h with rfl | h
      · exact ⟨Int.le_refl _, rfl⟩
      · have := barsP_ge h
        rw [step_y] at this
        exact ⟨by omega, this.2⟩
    · have := barsP_ge h
      rw [step_y] at this
      exact ⟨by omega, this.2⟩
theorem barsP_pair {σ : Int} : ∀ (l : List UInt8) (k : Knot), (barsP σ k l).Pairwise fun a b => a.y < b.y
  | [], _ => by simp [barsP]
  | c :: r, k => by
    rw [barsP_cons]
    split
    · rename_i h
      subst h
      refine List.pairwise_cons.2 ⟨fun b hb => ?_, barsP_pair r _⟩
      have := (barsP_ge hb).1
      rw [step_B] at this
      simp only at this ⊢
      omega
    · exact barsP_pair r _
theorem barsP_length {σ : Int} : ∀ (l : List UInt8) (k : Knot), (barsP σ k l).length = barsN l
  | [], _ => rfl
  | c :: r, k => by
    rw [barsP_cons, barsN, List.countP_cons]
    split
    · rename_i h
      simp [h, barsP_length r, barsN]
    · rename_i h
      simp [h, barsP_length r, barsN]
/-- The height of a knot along the way: each letter adds 2. -/
theorem ends_far {σ : Int} (hσ : σ = 1 ∨ σ = -1) : ∀ {l : List UInt8} {k e : Knot}, (∀ c ∈ l, isL c) → e ∈ ends (barsP σ k l) → σ * k.x + k.y ≤ σ * e.x + e.y
  | [], _, _, _, h => by simp [barsP, ends] at h
  | c :: r, k, e, hl, h => by
    have hc := hl c (by simp)
    have hr : ∀ c ∈ r, isL c := fun c' h' => hl c' (by simp [h'])
    have hs : σ * (stepK σ k c).x + (stepK σ k c).y = σ * k.x + k.y + 2 := by
      rcases hc with rfl | rfl | rfl <;> rcases hσ with rfl | rfl <;> simp [stepK, dxL, dyL] <;> omega
    rw [barsP_cons] at h
    split at h
    · rename_i h66
      rw [mem_ends] at h
      obtain ⟨b, hb, he⟩ := h
      rcases List.mem_cons.1 hb with rfl | hb
      · rcases he with rfl | rfl
        · exact Int.le_refl _
        · rcases hσ with rfl | rfl <;> simp [Bar.hi] <;> omega
      · have := ends_far hσ hr (mem_ends.2 ⟨b, hb, he⟩)
        omega
    · have := ends_far hσ hr h
      omega
theorem start_end {σ : Int} (hσ : σ = 1 ∨ σ = -1) {l : List UInt8} {k : Knot} (hl : ∀ c ∈ l, isL c) : k ∈ ends (barsP σ k l) ↔ headB l = true := by
  match l with
  | [] => simp [barsP, ends, headB]
  | c :: r =>
    have hr : ∀ c ∈ r, isL c := fun c' h' => hl c' (by simp [h'])
    have hs : σ * (stepK σ k c).x + (stepK σ k c).y = σ * k.x + k.y + 2 := by
      rcases hl c (by simp) with rfl | rfl | rfl <;> rcases hσ with rfl | rfl <;> simp [stepK, dxL, dyL] <;> omega
    by_cases h66 : c = 66
    · subst h66
      refine ⟨fun _ => rfl, fun _ => mem_ends.2 ⟨⟨k.x, k.y, σ⟩, by rw [barsP_cons]; simp, .inl rfl⟩⟩
    · have hh : headB (c :: r) = false := by
        unfold headB
        split
        · rename_i h; cases h; exact absurd rfl h66
        · rfl
      rw [hh, barsP_cons, if_neg h66]
      refine ⟨fun h => ?_, fun h => by cases h⟩
      have := ends_far hσ hr h
      omega
/-- Knots and parts of an edge. -/
theorem barsP_parts {σ : Int} (hσ : σ = 1 ∨ σ = -1) : ∀ {l : List UInt8} {k : Knot}, (∀ c ∈ l, isL c) → PartsIs (barsP σ k l) (endsR l) ∧ nK (barsP σ k l) = barsN l + endsR l
  | [], k, _ => ⟨.nil _, by simp [barsP, nK, ends, nub, barsN, endsR]⟩
  | c :: r, k, hl => by
    have hr : ∀ c ∈ r, isL c := fun c' h' => hl c' (by simp [h'])
    obtain ⟨ih1, ih2⟩ := barsP_parts hσ (l := r) (k := stepK σ k c) hr
    by_cases h66 : c = 66
    · subst h66
      rw [barsP_cons, if_pos rfl]
      have hm : ∀ x, x ∈ (⟨k.x, k.y, σ⟩ :: barsP σ (stepK σ k 66) r : List Bar) ↔ x = (⟨k.x, k.y, σ⟩ : Bar) ∨ x ∈ barsP σ (stepK σ k 66) r := fun x => List.mem_cons
      obtain ⟨p', hp'⟩ := CntIs.total (l := ⟨k.x, k.y, σ⟩ :: barsP σ (stepK σ k 66) r) (⟨k.x, k.y, σ⟩ :: barsP σ (stepK σ k 66) r) []
      have hlo : (⟨k.x, k.y, σ⟩ : Bar).lo ∉ ends (barsP σ (stepK σ k 66) r) := fun h => by
        have := ends_far hσ hr h
        rw [step_B] at this
        rcases hσ with rfl | rfl <;> simp [Bar.lo] at this <;> omega
      have hhi : (⟨k.x, k.y, σ⟩ : Bar).hi ∈ ends (barsP σ (stepK σ k 66) r) ↔ headB r = true := by
        rw [← start_end hσ (k := stepK σ k 66) hr, step_B]
        exact Iff.rfl
      have hk := nK_more hm
      rw [if_neg hlo] at hk
      have he : endsR (66 :: r) = (if headB r = true then 0 else 1) + endsR r := by simp [endsR]
      have hn : barsN (66 :: r) = barsN r + 1 := by simp [barsN]
      rcases rank_more hm ih1 hp' with h | ⟨_, h⟩
      · exact absurd h.1 hlo
      · by_cases hb : headB r = true
        · rw [if_pos (hhi.2 hb)] at hk
          rw [if_pos hb] at he
          have : p' = endsR (66 :: r) := by omega
          subst this
          exact ⟨hp', by omega⟩
        · rw [if_neg (fun h' => hb (hhi.1 h'))] at hk
          rw [if_neg hb] at he
          have : p' = endsR (66 :: r) := by omega
          subst this
          exact ⟨hp', by omega⟩
    · have he : endsR (c :: r) = endsR r := by simp [endsR, h66]
      have hn : barsN (c :: r) = barsN r := by simp [barsN, h66]
      rw [barsP_cons, if_neg h66, he, hn]
      exact ⟨ih1, ih2⟩
theorem barsP_meshes {σ : Int} (l : List UInt8) (k : Knot) : nM (barsP σ k l) = 0 := by
  rw [nM, List.countP_eq_zero]
  intro b hb h
  simp only [isMesh, Bool.and_eq_true, decide_eq_true_eq] at h
  have h1 := (barsP_ge hb).2
  have h2 := (barsP_ge h.2.1).2
  simp only at h2
  omega
/-- The runs of bars, counted at their beginnings; the letter before them is known. -/
def startsR : UInt8 → List UInt8 → Nat
  | _, [] => 0
  | a, c :: r => (if c = 66 ∧ a ≠ 66 then 1 else 0) + startsR c r
theorem starts_ends : ∀ (l : List UInt8) (a : UInt8), startsR a l + (if a = 66 ∧ headB l = true then 1 else 0) = endsR l
  | [], a => by simp [startsR, endsR, headB]
  | c :: r, a => by
    have ih := starts_ends r c
    have hh : headB (c :: r) = decide (c = 66) := by
      by_cases h : c = 66
      · subst h; rfl
      · unfold headB
        split
        · rename_i h'; cases h'; exact absurd rfl h
        · simp [h]
    rw [startsR, endsR, hh]
    by_cases h1 : c = 66 <;> by_cases h2 : a = 66 <;> by_cases h3 : headB r = true <;> simp [h1, h2, h3] at ih ⊢ <;> omega
/-- Mirrored and shifted edges. -/
def mirB (b : Bar) : Bar := ⟨-b.x, b.y, -b.s⟩
theorem barsP_mirror (σ : Int) : ∀ (l : List UInt8) (k : Knot), barsP (-σ) ⟨-k.x, k.y⟩ l = (barsP σ k l).map mirB
  | [], _ => rfl
  | c :: r, k => by
    have hs : stepK (-σ) ⟨-k.x, k.y⟩ c = ⟨-(stepK σ k c).x, (stepK σ k c).y⟩ := by
      simp only [stepK, Int.neg_mul, Int.neg_add]
    rw [barsP_cons, barsP_cons, hs, barsP_mirror σ r]
    split <;> simp [mirB]
def shB (dx dy : Int) (b : Bar) : Bar := ⟨b.x + dx, b.y + dy, b.s⟩
theorem barsP_shift (σ dx dy : Int) : ∀ (l : List UInt8) (k : Knot), barsP σ ⟨k.x + dx, k.y + dy⟩ l = (barsP σ k l).map (shB dx dy)
  | [], _ => rfl
  | c :: r, k => by
    have hs : stepK σ ⟨k.x + dx, k.y + dy⟩ c = ⟨(stepK σ k c).x + dx, (stepK σ k c).y + dy⟩ := by
      simp only [stepK, Knot.mk.injEq]
      omega
    rw [barsP_cons, barsP_cons, hs, barsP_shift σ dx dy r]
    split <;> simp [shB]
theorem barsP_lt {σ : Int} (l : List UInt8) (k : Knot) : (barsP σ k l).Pairwise Blt := (barsP_pair l k).imp fun h => .inl h
/-- How far a word leads. -/
theorem barsP_near {σ : Int} (hσ : σ = 1 ∨ σ = -1) : ∀ {l : List UInt8} {k : Knot} {b : Bar}, b ∈ barsP σ k l → k.x - 2 * (l.length : Int) ≤ b.x ∧ b.x ≤ k.x + 2 * (l.length : Int) ∧ b.y ≤ k.y + 2 * (l.length : Int) ∧ (((k.x + k.y) % 2 = 0 → (∀ c ∈ l, isL c) → (b.x + b.y) % 2 = 0))
  | [], _, _, h => by simp [barsP] at h
  | c :: r, k, b, h => by
    have hd : 0 ≤ dxL c ∧ dxL c ≤ 2 ∧ 0 ≤ dyL c ∧ dyL c ≤ 2 ∧ (isL c → dxL c + dyL c = 2) := by
      refine ⟨?_, ?_, ?_, ?_, fun h => ?_⟩
      · unfold dxL; split <;> (try split) <;> omega
      · unfold dxL; split <;> (try split) <;> omega
      · unfold dyL; split <;> (try split) <;> omega
      · unfold dyL; split <;> (try split) <;> omega
      · rcases h with rfl | rfl | rfl <;> simp [dxL, dyL]
    have hx : (stepK σ k c).x = k.x + σ * dxL c := rfl
    have hrec : b ∈ barsP σ (stepK σ k c) r → k.x - 2 * ((c :: r).length : Int) ≤ b.x ∧ b.x ≤ k.x + 2 * ((c :: r).length : Int) ∧ b.y ≤ k.y + 2 * ((c :: r).length : Int) ∧ (((k.x + k.y) % 2 = 0 → (∀ c' ∈ c :: r, isL c') → (b.x + b.y) % 2 = 0)) := fun hb => by
      obtain ⟨h1, h2, h3, h4⟩ := barsP_near hσ hb
      rw [hx] at h1 h2
      rw [step_y] at h3
      simp only [List.length_cons]
      refine ⟨?_, ?_, ?_, fun he hl => h4 ?_ fun c' h' => hl c' (by simp [h'])⟩
      · rcases hσ with rfl | rfl <;> omega
      · rcases hσ with rfl | rfl <;> omega
      · omega
      · have := hd.2.2.2.2 (hl c (by simp))
        rw [hx, step_y]
        rcases hσ with rfl | rfl <;> omega
    rw [barsP_cons] at h
    split at h
    · rcases List.mem_cons.1 h with rfl | h
      · simp only [List.length_cons]
        exact ⟨by omega, by omega, by omega, fun he _ => he⟩
      · exact hrec h
    · exact hrec h
end Go.Proofs.YtlhnhkfkbmfikaaGreatDoor

/- Turned by a quarter: moved of netting by turned. -/
namespace Go.Proofs.YtlhnhkfkbmfikaaGreatDoor
open Go.RowKit

/-- A bar, turned by a quarter. -/
def turnB (b : Ck.Bar) : Ck.Bar := if b.s = 1 then ⟨-b.y, b.x, -1⟩ else ⟨-b.y - 1, b.x - 1, 1⟩
set_option maxHeartbeats 1000000 in
set_option maxRecDepth 100000 in
theorem netTurnedP (x y : Int) (w : World) (h1 : -1000000 ≤ y) (h2 : y ≤ 1000000) :
    Calls Tryz.prog 99 #[.agg #[.int .i64 x, .int .i64 y]] w fun e w' => e = .returned (.agg #[.int .i64 (-y), .int .i64 x]) ∧ Below w.heap.size w w' := by
  go_enter Tryz.func99, Tryz.ntmps99
  go_wp2
  exact bodyPost_ret (v := .agg #[.int .i64 (-y), .int .i64 x]) (by simp [results, Tryz.results99, go_sem]) rfl ⟨rfl, ((Below.refl _ _).alloc (Nat.le_refl _) _).alloc (by simp) _⟩
set_option maxHeartbeats 1000000 in
set_option maxRecDepth 100000 in
theorem netBetweenDown (x y a b : Int) (w : World) (h1 : -1000000 ≤ x) (h2 : x ≤ 1000000) (k1 : -1000000 ≤ a) (k2 : a ≤ 1000000) (hlt : b < y) :
    Calls Tryz.prog 100 #[.agg #[.int .i64 x, .int .i64 y], .agg #[.int .i64 a, .int .i64 b]] w fun e w' => e = .returned (.agg #[.int .i64 a, .int .i64 b, .int .i64 (x - a)]) ∧ Below w.heap.size w w' := by
  go_enter Tryz.func100, Tryz.ntmps100
  go_wp2
  exact bodyPost_ret (v := .agg #[.int .i64 a, .int .i64 b, .int .i64 (x - a)]) (by simp [results, Tryz.results100, go_sem]) rfl ⟨rfl, (((Below.refl _ _).alloc (Nat.le_refl _) _).alloc (by simp) _).alloc (by simp; omega) _⟩
theorem netBetweenTurn (c : Ck.Bar) (w : World) (_ : -100000 ≤ c.x) (_ : c.x ≤ 100000) (y1 : -100000 ≤ c.y) (y2 : c.y ≤ 100000) (hs : c.s = 1 ∨ c.s = -1) :
    Calls Tryz.prog 100 #[.agg #[.int .i64 (-c.y), .int .i64 c.x], .agg #[.int .i64 (-(c.y + 1)), .int .i64 (c.x + c.s)]] w fun e w' => e = .returned (.agg #[.int .i64 (turnB c).x, .int .i64 (turnB c).y, .int .i64 (turnB c).s]) ∧ Below w.heap.size w w' := by
  rcases hs with h | h
  · refine (netBetweenUp (-c.y) c.x (-(c.y + 1)) (c.x + c.s) w (by omega) (by omega) (by omega) (by omega) (by omega)).mono fun e w' ⟨he, hb⟩ => ⟨?_, hb⟩
    rw [he, turnB, if_pos h, show -(c.y + 1) - -c.y = -1 by omega]
  · refine (netBetweenDown (-c.y) c.x (-(c.y + 1)) (c.x + c.s) w (by omega) (by omega) (by omega) (by omega) (by omega)).mono fun e w' ⟨he, hb⟩ => ⟨?_, hb⟩
    rw [he, turnB, if_neg (by omega), show -c.y - -(c.y + 1) = 1 by omega, show -(c.y + 1) = -c.y - 1 by omega, show c.x + c.s = c.x - 1 by omega]
theorem turn_row {w10 : World} {base : Nat} {v : Value} {l : List Ck.Bar} {k : Nat} (hlt : k < l.length) (h : w10.ownsRow base 65 3 v (k + 1) (bcellsL ((l.take k).map (turnB)) ++ [.int .i64 (turnB l[k]).x, .int .i64 (turnB l[k]).y, .int .i64 (turnB l[k]).s])) :
    Hid (w10.ownsRow base 65 3 v (k + 1) (bcellsL ((l.take (k + 1)).map (turnB)))) := by
  rw [List.take_succ_eq_append_getElem hlt, List.map_append, bcellsL, List.flatMap_append, ← bcellsL]
  exact h
def TurnPost (l : List Ck.Bar) (w : World) (e : Ending) (w' : World) : Prop :=
  ∃ v, e = .returned v ∧ w'.ownsRow w.heap.size 65 3 v l.length (bcellsL (sortBars (l.map (turnB)))) ∧ Below w.heap.size w w'

set_option maxHeartbeats 4000000 in
set_option maxRecDepth 100000 in
theorem netMovedT (A : Option Addr) (c : Nat) (l : List Ck.Bar) (w : World) (hl : l.length ≤ 4096) (hok : ∀ x ∈ l, Ck.okBar x) (h : RB w w.heap.size A l) :
    Calls Tryz.prog 65 #[.slice A l.length c, .func (.func 99) #[] #[]] w (TurnPost l w) := by
  obtain ⟨ib, hib, hb0, hb01, hb02⟩ := info_parts Tryz.info65
  have hmk : ∀ W : World, (Instr.makeSlice 35 (.int .i64 0) (.int .i64 (l.length : Int))).run Tryz.prog W = .ok (.slice (some ⟨W.heap.size, 0, none⟩) 0 l.length) (W.alloc (.cells (zeros3 l.length) 65)) := fun W => by
    have := run_make (P := Tryz.prog) W 35 65 ib _ Tryz.underlying35 hib hb0 .i64 .i64 0 (l.length : Int) (by omega) (by omega) (by rw [hb02]; omega) (by omega)
    rw [hb01, Int.toNat_natCast] at this
    exact this
  have HIB := Lib.hid hib
  have HB0 := Lib.hid hb0
  have HB1 := Lib.hid hb01
  have HB2 := Lib.hid hb02
  have HR := Lib.hid h
  have hl' : (l.length : Int) ≤ 4096 := by omega
  clear hib hb0 hb01 hb02 h
  go_enter Tryz.func65, Tryz.ntmps65
  go_wp2_with fail
  go_loopw [5, 7, 13] (fun v _ i wi => ∃ k : Nat, k ≤ l.length ∧ i = .int .i64 k ∧ Hid (wi.ownsRow w.heap.size 65 3 v k (bcellsL ((l.take k).map (turnB)))) ∧ Below w.heap.size w wi) (fun _ _ i _ => l.length - (intOf i).toNat)
  case atStart => exact ⟨0, Nat.zero_le _, rfl, made_row _ _ _ (Nat.le_refl _) hl _ (by rw [zeros3, size_madeCells]) _, (Below.refl _ _).alloc (Nat.le_refl _) _⟩
  case round =>
    obtain ⟨k, hk, rfl, hown, hb⟩ := hrel
    by_cases hlt : k < l.length
    · obtain ⟨b, off, rfl, hB, hc⟩ := HR.out.below hb (by omega)
      obtain ⟨d0, d1, d2⟩ := hc k hlt
      have hbz := hb.size
      obtain ⟨⟨⟨hx1, hx2⟩, ⟨hy1, hy2⟩, _⟩, hs, _⟩ := hok _ (List.getElem_mem hlt)
      replace hx1 : -100000 ≤ l[k].x := hx1
      replace hx2 : l[k].x ≤ 100000 := hx2
      replace hy1 : -100000 ≤ l[k].y := hy1
      replace hy2 : l[k].y ≤ 100000 := hy2
      have hs1 : -1 ≤ l[k].s := by omega
      have hs2 : l[k].s ≤ 1 := by omega
      have hs3 : l[k].s = 1 ∨ l[k].s = -1 := by have := hs; omega
      clear hc hs
      go_wp2_with fail
      obtain ⟨w1, hw1, e0, e1, e2, hb1, hz1⟩ := box3 wr (.int .i64 l[k].x) (.int .i64 l[k].y) (.int .i64 l[k].s) 65
      rw [← hw1]
      clear hw1 d0 d1 d2
      have hk0 : K5 wr wr.heap.size wr.heap.size (.int .i64 l[k].x) (.int .i64 l[k].y) (.int .i64 l[k].s) (.int .i64 l[k].x) (.int .i64 l[k].y) w1.drew := ⟨e0, e1, e2, e0, e1, hz1, hz1, below_drew hb1⟩
      go_region_law (first
        | (go_simp; go_at_call 92; refine (netLower _ _ _ _).mono ?_; rintro e w9 ⟨rfl, hb9⟩; have hk9 := carry5 hb9 (by assumption); obtain ⟨_, _, _, _, _, _, _, _⟩ := id hk9)
        | (go_simp; go_at_call 95; refine (netUpper _ _ _ _ hx1 hx2 hy1 hy2 hs1 hs2).mono ?_; rintro e w9 ⟨rfl, hb9⟩; have hk9 := carry5 hb9 (by assumption); obtain ⟨_, _, _, _, _, _, _, _⟩ := id hk9)
        | (go_simp; go_at_call 99; refine (netTurnedP _ _ _ (by omega) (by omega)).mono ?_; rintro e w9 ⟨rfl, hb9⟩; have hk9 := carry5 hb9 (by assumption); obtain ⟨_, _, _, _, _, _, _, _⟩ := id hk9)
        | (go_simp; go_at_call 100; refine (netBetweenTurn l[k] _ hx1 hx2 hy1 hy2 hs3).mono ?_; rintro e w9 ⟨rfl, hb9⟩; have hk9 := carry5 hb9 (by assumption); obtain ⟨_, _, _, _, _, _, _, _⟩ := id hk9)
        | (refine step_append_lies _ rfl (.tmp 17) (.tmp 27) 35 rfl w.heap.size 65 ib (.agg #[.int .i64 0, .int .i64 0, .int .i64 0]) 3 24 Tryz.underlying35 HIB.out HB0.out HB1.out HB2.out rfl (by decide) u5 k (bcellsL ((l.take k).map (turnB))) (by simp [Act.eval]) (by exact (ownsRow_below hown.out (K5.below (by assumption))).alloc _) _ 1 1 [.int .i64 (turnB l[k]).x, .int .i64 (turnB l[k]).y, .int .i64 (turnB l[k]).s] (by first | (simp [Act.eval]; done) | (simp [Act.eval]; rfl)) rfl (by exact three_new _ _ _ _ _) (by intro u hu; simp at hu; rcases hu with rfl | rfl | rfl <;> rfl) (by decide) (by unfold maxLen; omega) (by omega) (by simp; omega) _ rfl ?_; intro gx cap w10 hown10 hgrow10 _ _))
      all_goals
        have hrow := turn_row hlt hown10
        have hbel := hb.trans (mov_below (K5.below (by assumption)) hgrow10 (ownsRow_base hown.out) hbz)
        clear hgrow10 hown10
        go_wp2
        go_roundw
        case rel => exact ⟨k + 1, by omega, by go_num, hrow, hbel⟩
        case measure => simp [intOf]; omega
    · obtain rfl : k = l.length := by omega
      have hrow := hown.out
      rw [List.take_length] at hrow
      have hlm : (l.map (turnB)).length = l.length := List.length_map ..
      rw [← hlm] at hrow
      have hbz := hb.size
      go_wp2_with fail
      refine (netSortBars w.heap.size _ (l.map (turnB)) _ (by omega) hbz hrow).mono ?_
      rintro e w2 ⟨rfl, hrow2, hb2⟩
      rw [hlm] at hrow2
      have HO := Lib.hid hrow2
      clear hrow hrow2
      go_wp2
      go_ret
      exact ⟨_, rfl, HO.out, hb.trans hb2⟩

end Go.Proofs.YtlhnhkfkbmfikaaGreatDoor

/- Contracts of compareHeads and merge, where all that either list has is kept. -/
namespace Go.Proofs.YtlhnhkfkbmfikaaGreatDoor
open Go.RowKit

def headsE : List Ck.Bar → List Ck.Bar → Int
  | [], _ => 1
  | _ :: _, [] => -1
  | a :: _, b :: _ => cmpB a b
theorem RB.head {w : World} {B : Nat} {A : Option Addr} {a : Ck.Bar} {r : List Ck.Bar} (h : RB w B A (a :: r)) : ∃ b off, A = some ⟨b, off, none⟩ ∧ b < B ∧ w.cell? ⟨b, off, none⟩ = some (.int .i64 a.x) ∧ w.cell? ⟨b, off + 1, none⟩ = some (.int .i64 a.y) ∧ w.cell? ⟨b, off + 2, none⟩ = some (.int .i64 a.s) ∧ RB w B (some ⟨b, off + 3, none⟩) r := by
  obtain ⟨b, off, rfl, hb, hc⟩ := h (by simp)
  have h0 := hc 0 (by simp)
  simp only [List.getElem_cons_zero, Nat.zero_mul, Nat.add_zero] at h0
  refine ⟨b, off, rfl, hb, h0.1, h0.2.1, h0.2.2, fun hl => ⟨b, off + 3, rfl, hb, fun i hi => ?_⟩⟩
  have := hc (i + 1) (by simpa using hi)
  simp only [List.getElem_cons_succ] at this
  rw [show off + (i + 1) * 3 = off + 3 + i * 3 from by omega] at this
  exact this
set_option maxHeartbeats 1000000 in
set_option maxRecDepth 100000 in
theorem netHeads (A A' : Option Addr) (c c' : Nat) (l l' : List Ck.Bar) (w : World) (hl : l.length ≤ 10000) (hl' : l'.length ≤ 10000) (h : RB w w.heap.size A l) (h' : RB w w.heap.size A' l') :
    Calls Tryz.prog 118 #[.slice A l.length c, .slice A' l'.length c', .func (.func 97) #[] #[]] w fun e w' => e = .returned (.int .i64 (headsE l l')) ∧ Below w.heap.size w w' := by
  match l, l', h, h' with
  | [], l', _, _ =>
    go_enter Tryz.func118, Tryz.ntmps118
    go_wp2
    go_ret
    exact ⟨rfl, Below.refl _ _⟩
  | a :: r, [], _, _ =>
    have h1 : ((r.length : Int) + 1 == 0) = false := by rw [beq_eq_false_iff_ne]; omega
    have h2 : (((a :: r).length : Int) == 0) = false := by rw [beq_eq_false_iff_ne]; simp only [List.length_cons]; omega
    go_enter Tryz.func118, Tryz.ntmps118
    go_wp2
    go_ret
    exact ⟨rfl, Below.refl _ _⟩
  | a :: r, a' :: r', h, h' =>
    obtain ⟨b, off, rfl, hb, c0, c1, c2, _⟩ := h.head
    obtain ⟨b', off', rfl, hb', d0, d1, d2, _⟩ := h'.head
    have h1 : ((r.length : Int) + 1 == 0) = false := by rw [beq_eq_false_iff_ne]; omega
    have h3 : ((r'.length : Int) + 1 == 0) = false := by rw [beq_eq_false_iff_ne]; omega
    have h5 : (0 : Int) < (r.length : Int) + 1 := by omega
    have h6 : (0 : Int) < (r'.length : Int) + 1 := by omega
    clear h h'
    go_enter Tryz.func118, Tryz.ntmps118
    go_wp2_with fail
    refine wp_region_still_tail 7 (by kernel_rfl) (by kernel_rfl) ?_
    simp only [List.take_succ_cons, List.take_zero, List.drop_succ_cons, List.drop_zero]
    repeat still_step
    refine wpStill_nil ?_
    change wpList _ _ _ _ _ w.drew
    go_wp2_with fail
    refine (netCompareBars_below _ _ _ _ _ _ _).mono ?_
    rintro e w2 ⟨rfl, hb2⟩
    go_wp2
    go_ret
    exact ⟨rfl, (below_drew (Below.refl _ _)).trans hb2⟩
end Go.Proofs.YtlhnhkfkbmfikaaGreatDoor

/- The contract of merge where all is kept. -/
namespace Go.Proofs.YtlhnhkfkbmfikaaGreatDoor
open Go.RowKit

def mergeU : List Ck.Bar → List Ck.Bar → List Ck.Bar
  | [], l' => l'
  | a :: r, [] => a :: r
  | a :: r, b :: r' => if cmpB a b < 0 then a :: mergeU r (b :: r') else if 0 < cmpB a b then b :: mergeU (a :: r) r' else a :: mergeU r r'
termination_by l l' => l.length + l'.length
theorem headsE_neg {ra rb : List Ck.Bar} (h : headsE ra rb < 0) : ∃ a r, ra = a :: r ∧ mergeU ra rb = a :: mergeU r rb := by
  match ra, rb, h with
  | [], _, h => simp [headsE] at h
  | a :: r, [], _ => exact ⟨a, r, rfl, by cases r <;> simp [mergeU]⟩
  | a :: r, b :: r', h =>
    have h' : cmpB a b < 0 := h
    exact ⟨a, r, rfl, by rw [mergeU, if_pos h']⟩
theorem headsE_pos {ra rb : List Ck.Bar} (h : 0 < headsE ra rb) (hne : 0 < ra.length + rb.length) : ∃ b r', rb = b :: r' ∧ mergeU ra rb = b :: mergeU ra r' := by
  match ra, rb, h with
  | [], [], _ => simp at hne
  | [], b :: r', _ => exact ⟨b, r', rfl, by simp [mergeU]⟩
  | a :: r, [], h => simp [headsE] at h
  | a :: r, b :: r', h => 
    have h' : 0 < cmpB a b := h
    exact ⟨b, r', rfl, by rw [mergeU, if_neg (by omega), if_pos h']⟩
theorem headsE_zero {ra rb : List Ck.Bar} (h : headsE ra rb = 0) : ∃ a r r', ra = a :: r ∧ rb = a :: r' ∧ mergeU ra rb = a :: mergeU r r' := by
  match ra, rb, h with
  | [], _, h => simp [headsE] at h
  | a :: r, [], h => simp [headsE] at h
  | a :: r, b :: r', h =>
    have h' : cmpB a b = 0 := h
    have e := (cmpB_zero _ _).1 h'
    subst e
    exact ⟨a, r, r', rfl, rfl, by rw [mergeU, if_neg (by omega), if_neg (by omega)]⟩

/-- A bar is stored into a variable of its own. -/
theorem put3 {w : World} {g : Nat} {a b c : Value} {t : TypeId} (h : w.heap[g]? = some (.cells #[a, b, c] t (0, 0))) (x y z : Value) :
    ∃ W, W = ((w.setCell ⟨g, 0, none⟩ x).setCell ⟨g, 1, none⟩ y).setCell ⟨g, 2, none⟩ z ∧ W.heap[g]? = some (.cells #[x, y, z] t (0, 0)) ∧ Below g w W ∧ W.heap.size = w.heap.size := by
  refine ⟨_, rfl, ?_, (((Below.refl g w).setCell (p := ⟨g, 0, none⟩) (Nat.le_refl g) _).setCell (p := ⟨g, 1, none⟩) (Nat.le_refl g) _).setCell (p := ⟨g, 2, none⟩) (Nat.le_refl g) _, by simp [World.setCell]⟩
  simp [World.setCell, Array.getElem?_modify, h, Array.setIfInBounds]
/-- What is left of a list when its first bar is taken: the slice's address stays where no room is left behind it. -/
theorem RB.cut1 {w : World} {B b off c : Nat} {r : List Ck.Bar} (h : RB w B (some ⟨b, off + 3, none⟩) r) (hc : r.length + 1 ≤ c) (A : Option Addr) (hA : c ≠ 1 → A = some ⟨b, off + 3, none⟩) : RB w B A r := fun hl => by
  rw [hA (by omega)]
  exact h hl

def MrgPost (l l' : List Ck.Bar) (w : World) (e : Ending) (w' : World) : Prop :=
  ∃ v, e = .returned v ∧ w'.ownsRow w.heap.size 65 3 v (mergeU l l').length (bcellsL (mergeU l l')) ∧ Below w.heap.size w w'
def mrgRel (l0 l0' : List Ck.Bar) (w : World) (g : Nat) (va vb vo : Value) (wi : World) : Prop :=
  ∃ A A' c c' ra rb out, g = ra.length + rb.length ∧ va = .slice A ra.length c ∧ vb = .slice A' rb.length c' ∧ ra.length ≤ c ∧ c ≤ 9223372036854775807 ∧ rb.length ≤ c' ∧ c' ≤ 9223372036854775807 ∧ RB wi w.heap.size A ra ∧ RB wi w.heap.size A' rb ∧
    mergeU l0 l0' = out ++ mergeU ra rb ∧ out.length + ra.length + rb.length ≤ l0.length + l0'.length ∧ wi.ownsRow w.heap.size 65 3 vo out.length (bcellsL out) ∧ Below w.heap.size w wi

end Go.Proofs.YtlhnhkfkbmfikaaGreatDoor

/- Contracts of merged and Union at valid nets. -/
namespace Go.Proofs.YtlhnhkfkbmfikaaGreatDoor
open Go.RowKit

def TwoPost (l l' : List Ck.Bar) (w : World) (e : Ending) (w' : World) : Prop :=
  ∃ v, e = .returned (.tuple #[v, .int .i64 0]) ∧ w'.ownsRow w.heap.size 65 3 v (mergeU l l').length (bcellsL (mergeU l l')) ∧ Below w.heap.size w w'
end Go.Proofs.YtlhnhkfkbmfikaaGreatDoor

/- Contracts of Union at valid nets with at most 4096 bars together, of the copy that the statements make, and of their count. -/
namespace Go.Proofs.YtlhnhkfkbmfikaaGreatDoor
open Go.RowKit

def CopyPost (l : List Ck.Bar) (w : World) (e : Ending) (w' : World) : Prop :=
  ∃ v, e = .returned v ∧ w'.ownsRow w.heap.size 65 3 v l.length (bcellsL l) ∧ Below w.heap.size w w'
end Go.Proofs.YtlhnhkfkbmfikaaGreatDoor

/- slices.Clone at bars, turnedBy, Turn of netting. -/
namespace Go.Proofs.YtlhnhkfkbmfikaaGreatDoor
open Go.RowKit

theorem nil_yes (w : World) : (binOp BinOp.eql 35 (.slice none 0 0) (.slice none 0 0)).run Tryz.prog w = .ok (.bool true) w := by
  first | kernel_rfl | (simp [go_sem, Tryz.underlying35]; done)
theorem nil_no (ad : Addr) (n c : Nat) (w : World) : (binOp BinOp.eql 35 (.slice (some ad) n c) (.slice none 0 0)).run Tryz.prog w = .ok (.bool false) w := by
  first | kernel_rfl | (simp [go_sem, Tryz.underlying35]; done)
set_option maxHeartbeats 2000000 in
set_option maxRecDepth 100000 in
theorem netClone (A : Option Addr) (c : Nat) (l : List Ck.Bar) (w : World) (hl : l.length ≤ 4096) (hA : A = none → c = 0) (h : RB w w.heap.size A l) :
    Calls Tryz.prog 98 #[.slice A l.length c] w (CopyPost l w) := by
  obtain ⟨ib, hib, hb0, hb01, hb02⟩ := info_parts Tryz.info65
  have ny := nil_yes
  have nn := nil_no
  rcases A with _ | ad
  · obtain rfl := hA rfl
    obtain rfl : l = [] := by
      rcases l with _ | ⟨a, r⟩
      · rfl
      · obtain ⟨b, off, e, -⟩ := h (by simp)
        cases e
    go_enter Tryz.func98, Tryz.ntmps98
    go_wp2
    go_ret
    exact ⟨_, rfl, ⟨rfl, .inl ⟨rfl, rfl⟩⟩, Below.refl _ _⟩
  · clear hA
    rcases l with _ | ⟨a, r⟩
    · clear h
      go_enter Tryz.func98, Tryz.ntmps98
      go_wp2_with (at_builtin; refine wpList_append_own _ rfl _ _ 35 rfl w.heap.size 65 ib (.agg #[.int .i64 0, .int .i64 0, .int .i64 0]) 3 24 Tryz.underlying35 hib hb0 hb01 hb02 rfl (by decide) _ _ _ rfl (by exact empty_row _ _ (Nat.le_refl _) _ _) ad 0 c [] rfl rfl ?c1 ?c2 ?c3 ?c4 ?c5 ?_)
      case c1 => intro j u h; simp at h
      case c2 => intro u h; simp at h
      case c3 => unfold maxLen; omega
      case c4 => omega
      case c5 => simp
      intro v' w4 hown4 hgrow4 _
      have HO := Lib.hid hown4
      have hq := ((Below.refl w.heap.size w).alloc (Nat.le_refl _) (.cells #[] 65)).grown hgrow4 (by simp) (ownsRow_base (empty_row w w.heap.size (Nat.le_refl _) 65 3))
      clear hown4 hgrow4
      go_wp2
      go_ret
      exact ⟨v', rfl, HO.out, hq⟩
    · have hne : 0 < (a :: r).length := by simp
      obtain ⟨L, hL⟩ : ∃ L, a :: r = L := ⟨_, rfl⟩
      rw [hL] at h hl hne ⊢
      clear hL
      obtain ⟨b, off, hbo, hB, _⟩ := id (h hne)
      injection hbo with hbo
      subst hbo
      have HR := Lib.hid h
      clear h
      go_enter Tryz.func98, Tryz.ntmps98
      go_wp2_with (at_builtin; refine wpList_append_own _ rfl _ _ 35 rfl w.heap.size 65 ib (.agg #[.int .i64 0, .int .i64 0, .int .i64 0]) 3 24 Tryz.underlying35 hib hb0 hb01 hb02 rfl (by decide) _ _ _ rfl (by exact empty_row _ _ (Nat.le_refl _) _ _) ⟨b, off, none⟩ L.length c (bcellsL L) rfl (bcellsL_length L) ?c1 (bcellsL_one L) ?c3 ?c4 ?c5 ?_)
      case c1 => exact (HR.out.below ((Below.refl _ _).alloc (Nat.le_refl _) _)).news hne
      case c3 => unfold maxLen; omega
      case c4 => omega
      case c5 => simp
      intro v' w4 hown4 hgrow4 _
      have HO := Lib.hid hown4
      have hq := ((Below.refl w.heap.size w).alloc (Nat.le_refl _) (.cells #[] 65)).grown hgrow4 (by simp) (ownsRow_base (empty_row w w.heap.size (Nat.le_refl _) 65 3))
      clear hown4 hgrow4
      go_wp2
      go_ret
      exact ⟨_, rfl, by simpa using HO.out, hq⟩
/-- Turned so many times. -/
def turnN : Nat → List Ck.Bar → List Ck.Bar
  | 0, l => l
  | n + 1, l => sortBars ((turnN n l).map turnB)
theorem turnB_ok {b : Ck.Bar} (h : Ck.okBar b) : Ck.okBar (turnB b) := by
  obtain ⟨⟨⟨h1, h2⟩, ⟨h3, h4⟩, h5⟩, hs, h6, h7⟩ := h
  simp only [Ck.Bar.lo, Ck.Bar.hi] at *
  rcases hs with hs | hs <;> simp only [Ck.inPlace, hs] at h6 h7 <;> simp [turnB, hs, Ck.okBar, Ck.okKnot, Ck.inPlace, Ck.Bar.lo, Ck.Bar.hi] <;> omega
theorem turnN_ok {l : List Ck.Bar} (h : ∀ x ∈ l, Ck.okBar x) : ∀ n, ∀ x ∈ turnN n l, Ck.okBar x
  | 0 => h
  | n + 1 => fun x hx => by
    rw [turnN, (sortBars_perm _).mem_iff, List.mem_map] at hx
    obtain ⟨y, hy, rfl⟩ := hx
    exact turnB_ok (turnN_ok h n y hy)
theorem turnN_length (l : List Ck.Bar) : ∀ n, (turnN n l).length = l.length
  | 0 => rfl
  | n + 1 => by rw [turnN, (sortBars_perm _).length_eq, List.length_map, turnN_length l n]
set_option maxHeartbeats 2000000 in
set_option maxRecDepth 100000 in
theorem netTurnedBy (A : Option Addr) (c q : Nat) (l : List Ck.Bar) (w : World) (hl : l.length ≤ 4096) (hA : A = none → c = 0) (hok : ∀ x ∈ l, Ck.okBar x) (hq : q ≤ 3) (h : RB w w.heap.size A l) :
    Calls Tryz.prog 64 #[.slice A l.length c, .int .i64 q] w (CopyPost (turnN q l) w) := by
  have HOK := Lib.hid hok
  have hqi : (q : Int) ≤ 3 := by omega
  go_enter Tryz.func64, Tryz.ntmps64
  go_wp2_with fail
  refine (netClone A c l w hl hA h).mono ?_
  rintro e w1 ⟨v1, rfl, hr1, hb1⟩
  have HR1 := Lib.hid hr1
  clear hr1 h hok hA
  go_wp2_with fail
  go_loopw [5, 9] (fun v i wr => ∃ k : Nat, k ≤ q ∧ i = .int .i64 k ∧ Hid (wr.ownsRow w.heap.size 65 3 v (turnN k l).length (bcellsL (turnN k l))) ∧ Below w.heap.size w wr) (fun _ i _ => q - (intOf i).toNat)
  case atStart => exact ⟨0, Nat.zero_le _, rfl, HR1, hb1⟩
  case round =>
    obtain ⟨k, hk, rfl, hown, hb⟩ := hrel
    by_cases hlt : k < q
    · have hki : (k : Int) < (q : Int) := by omega
      obtain ⟨a, c', rfl, hoks⟩ := own_oks hown.out
      have HS := Lib.hid hoks
      have HL := Lib.hid (turnN_length l k)
      clear hown hoks
      go_wp2_with fail
      refine (netMovedT a c' (turnN k l) _ (by rw [HL.out]; exact hl) (turnN_ok HOK.out k) HS.out.2.2.2).mono ?_
      rintro e w2 ⟨v2, rfl, hr2, hb2⟩
      have hr2' := ownsRow_mono hr2 hb.size
      have HR2 := Lib.hid (show w2.ownsRow w.heap.size 65 3 v2 (turnN (k + 1) l).length (bcellsL (turnN (k + 1) l)) by rw [turnN_length]; rw [HL.out] at hr2'; exact hr2')
      have hb3 := hb.trans (hb2.mono hb.size)
      clear hr2 hr2' hb2
      go_wp2
      go_roundw
      case rel => exact ⟨k + 1, by omega, by go_num, HR2, hb3⟩
      case measure => simp [intOf]; omega
    · obtain rfl : k = q := by omega
      go_wp2
      go_ret
      exact ⟨_, rfl, hown.out, hb⟩
set_option maxHeartbeats 2000000 in
set_option maxRecDepth 100000 in
theorem netTurn (A : Option Addr) (c : Nat) (t : Int) (l : List Ck.Bar) (w : World) (hl : l.length ≤ 4096) (hcap : l.length ≤ c) (hcm : c ≤ maxLen) (hA : A = none → c = 0) (hN : Ck.Net l) (h : RB w w.heap.size A l) :
    Calls Tryz.prog 26 #[.slice A l.length c, .int .i64 t] w fun e w' => ∃ v, e = .returned (.tuple #[v, .int .i64 0]) ∧ w'.ownsRow w.heap.size 65 3 v (turnN ((t.tmod 4 + 4).tmod 4).toNat l).length (bcellsL (turnN ((t.tmod 4 + 4).tmod 4).toNat l)) ∧ Below w.heap.size w w' := by
  have HE := Lib.hid ((netE_zero l).2 ⟨hl, hN⟩)
  have HR := Lib.hid h
  have HN := Lib.hid hN
  have HA := Lib.hid hA
  obtain ⟨r, hr⟩ : ∃ r, t.tmod 4 = r := ⟨_, rfl⟩
  have hr1 : -4 < r ∧ r < 4 := by rw [← hr]; exact ⟨by have := Int.lt_tmod_of_pos t (show (0 : Int) < 4 by decide); omega, Int.tmod_lt_of_pos t (by decide)⟩
  obtain ⟨q, hq⟩ : ∃ q : Nat, (r + 4).tmod 4 = (q : Int) := ⟨((r + 4).tmod 4).toNat, by have := Int.tmod_nonneg (a := r + 4) 4 (by omega); omega⟩
  have hq3 : q ≤ 3 := by have := Int.tmod_lt_of_pos (r + 4) (show (0 : Int) < 4 by decide); omega
  have w1' : IntKind.i64.wrap r = r := by rw [IntKind.wrap_i64]; omega
  have w2' : IntKind.i64.wrap (r + 4) = r + 4 := by rw [IntKind.wrap_i64]; omega
  have w3' : IntKind.i64.wrap (q : Int) = (q : Int) := by rw [IntKind.wrap_i64]; omega
  rw [hr, hq, Int.toNat_natCast]
  clear h hN hA
  go_enter Tryz.func26, Tryz.ntmps26
  go_wp2_with fail
  refine (netCheckNet A c l _ hl hcap hcm HR.out).mono ?_
  rintro e w1 ⟨rfl, hb1⟩
  rw [HE.out]
  go_wp2_with fail
  refine (netTurnedBy A c q l _ hl HA.out HN.out.1 hq3 ((HR.out.below hb1).more hb1.size)).mono ?_
  rintro e w2 ⟨v, rfl, hrow, hb2⟩
  have HO := Lib.hid (ownsRow_mono hrow hb1.size)
  clear hrow
  go_wp2
  go_ret2
  exact ⟨v, rfl, HO.out, hb1.trans (hb2.mono hb1.size)⟩
end Go.Proofs.YtlhnhkfkbmfikaaGreatDoor

/- Nets in order: CompareFunc at bars, compareNets, MinFunc at nets. -/
namespace Go.Proofs.YtlhnhkfkbmfikaaGreatDoor
open Go.RowKit

def cmpNets : List Ck.Bar → List Ck.Bar → Int
  | [], [] => 0
  | [], _ :: _ => -1
  | _ :: _, [] => 1
  | a :: r, b :: s => if cmpB a b = 0 then cmpNets r s else cmpB a b
set_option maxHeartbeats 4000000 in
set_option maxRecDepth 100000 in
theorem netCompareFunc (A A' : Option Addr) (c c' : Nat) (l l' : List Ck.Bar) (w : World) (hl : l.length ≤ 4096) (hl' : l'.length ≤ 4096) (h : RB w w.heap.size A l) (h' : RB w w.heap.size A' l') :
    Calls Tryz.prog 103 #[.slice A l.length c, .slice A' l'.length c', .func (.func 97) #[] #[]] w fun e w' => e = .returned (.int .i64 (cmpNets l l')) ∧ Below w.heap.size w w' := by
  have HR := Lib.hid h
  have HR' := Lib.hid h'
  obtain ⟨R, hR⟩ : ∃ R, cmpNets l l' = R := ⟨_, rfl⟩
  have H0 := Lib.hid (show cmpNets (l.drop 0) (l'.drop 0) = R from hR)
  rw [hR]
  clear h h' hR
  go_enter Tryz.func103, Tryz.ntmps103
  go_wp2_with fail
  go_loopw [7, 8, 9, 10, 13] (fun _ _ _ _ i wr => ∃ k : Nat, k ≤ l.length ∧ k ≤ l'.length ∧ i = .int .i64 k ∧ Hid (cmpNets (l.drop k) (l'.drop k) = R) ∧ Below w.heap.size w wr) (fun _ _ _ _ i _ => l.length - (intOf i).toNat)
  case atStart => exact ⟨0, Nat.zero_le _, Nat.zero_le _, rfl, H0, Below.refl _ _⟩
  case round =>
    obtain ⟨k, hk, hk', rfl, HC, hb⟩ := hrel
    have hbz := hb.size
    by_cases hlt : k < l.length
    · obtain ⟨b, off, rfl, hBb, hc⟩ := HR.out.below hb (by omega)
      obtain ⟨c0, c1, c2⟩ := hc k hlt
      have hd1 : l.drop k = l[k] :: l.drop (k + 1) := List.drop_eq_getElem_cons hlt
      obtain ⟨⟨X, Y, S⟩, hX⟩ : ∃ x, l[k] = x := ⟨_, rfl⟩
      rw [hX] at c0 c1 c2 hd1
      simp only at c0 c1 c2
      have HD1 := Lib.hid hd1
      have hkl : (k : Int) < (l.length : Int) := by omega
      have hk0 : (0 : Int) ≤ (k : Int) := by omega
      obtain ⟨w2, hw2, e0, e1, e2, hb2, hz2⟩ := box3 wr (.int .i64 X) (.int .i64 Y) (.int .i64 S) 65
      have B2 := hb.trans (hb2.mono hbz)
      clear hX hc hd1
      by_cases hlt' : k < l'.length
      · obtain ⟨b', off', rfl, hBb', hc'⟩ := HR'.out.below B2 (by omega)
        obtain ⟨d0, d1, d2⟩ := hc' k hlt'
        have hd2 : l'.drop k = l'[k] :: l'.drop (k + 1) := List.drop_eq_getElem_cons hlt'
        obtain ⟨⟨X', Y', S'⟩, hX'⟩ : ∃ x, l'[k] = x := ⟨_, rfl⟩
        rw [hX'] at d0 d1 d2 hd2
        simp only at d0 d1 d2
        have HD2 := Lib.hid hd2
        have hkl' : (k : Int) < (l'.length : Int) := by omega
        have hz2' : w2.heap.size = wr.heap.size + 1 := by rw [hw2]; simp
        obtain ⟨w3, hw3, f0, f1, f2, hb3, hz3⟩ := box3 w2 (.int .i64 X') (.int .i64 Y') (.int .i64 S') 65
        have g0 := (hb3.cell (p := ⟨wr.heap.size, 0, none⟩) hz2).trans e0
        have g1 := (hb3.cell (p := ⟨wr.heap.size, 1, none⟩) hz2).trans e1
        have g2 := (hb3.cell (p := ⟨wr.heap.size, 2, none⟩) hz2).trans e2
        have B3 := B2.trans (hb3.mono B2.size)
        have HW2 := Lib.hid hw2
        have HW3 := Lib.hid hw3
        clear hX' hc' hd2 hb2 hb3 hw2 hw3
        have HW2' := HW2.out.symm
        go_wp2_with fail
        rw [← HW3.out]
        refine (netCompareBars_below _ _ _ _ _ _ _).mono ?_
        rintro e w4 ⟨rfl, hb4⟩
        have B4 := B3.trans (hb4.mono B3.size)
        have HC2 := Lib.hid (show (if cmpB ⟨X, Y, S⟩ ⟨X', Y', S'⟩ = 0 then cmpNets (l.drop (k + 1)) (l'.drop (k + 1)) else cmpB ⟨X, Y, S⟩ ⟨X', Y', S'⟩) = R by rw [← HC.out, HD1.out, HD2.out, cmpNets])
        obtain ⟨z, hz⟩ : ∃ z, cmpB ⟨X, Y, S⟩ ⟨X', Y', S'⟩ = z := ⟨_, rfl⟩
        rw [hz] at HC2 ⊢
        clear hz hb4 f0 f1 f2 g0 g1 g2 HW2'
        by_cases h0 : z = 0
        · have hz0 : (z != 0) = false := by rw [h0]; rfl
          have HC3 := Lib.hid (show cmpNets (l.drop (k + 1)) (l'.drop (k + 1)) = R by rw [← HC2.out, if_pos h0])
          clear h0
          go_wp2
          go_roundw
          case rel => exact ⟨k + 1, by omega, by omega, by go_num, HC3, B4⟩
          case measure => simp [intOf]; omega
        · have hz0 : (z != 0) = true := by rw [bne_iff_ne]; exact h0
          have HC3 := Lib.hid (show z = R by rw [← HC2.out, if_neg h0])
          clear h0
          go_wp2
          go_ret
          exact ⟨ret_i HC3.out, B4⟩
      · have hkl' : ¬ (k : Int) < (l'.length : Int) := by omega
        have HC3 := Lib.hid (show (1 : Int) = R by rw [← HC.out, HD1.out, List.drop_of_length_le (show l'.length ≤ k by omega), cmpNets])
        have hle : (l'.length : Int) ≤ (k : Int) := by omega
        go_wp2
        go_ret
        exact ⟨ret_i HC3.out, by rw [← hw2]; exact B2⟩
    · have hkl : ¬ (k : Int) < (l.length : Int) := by omega
      by_cases hlt' : l.length < l'.length
      · have hll : (l.length : Int) < (l'.length : Int) := by omega
        have HC3 := Lib.hid (show (-1 : Int) = R by
          rw [← HC.out, List.drop_of_length_le (show l.length ≤ k by omega), List.drop_eq_getElem_cons (show k < l'.length by omega), cmpNets])
        go_wp2
        go_ret
        exact ⟨ret_i HC3.out, hb⟩
      · have hll : ¬ (l.length : Int) < (l'.length : Int) := by omega
        have HC3 := Lib.hid (show (0 : Int) = R by
          rw [← HC.out, List.drop_of_length_le (show l.length ≤ k by omega), List.drop_of_length_le (show l'.length ≤ k by omega), cmpNets])
        go_wp2
        go_ret
        exact ⟨ret_i HC3.out, hb⟩
set_option maxHeartbeats 1000000 in
set_option maxRecDepth 100000 in
theorem netCompareNets (A A' : Option Addr) (c c' : Nat) (l l' : List Ck.Bar) (w : World) (hl : l.length ≤ 4096) (hl' : l'.length ≤ 4096) (h : RB w w.heap.size A l) (h' : RB w w.heap.size A' l') :
    Calls Tryz.prog 70 #[.slice A l.length c, .slice A' l'.length c'] w fun e w' => e = .returned (.int .i64 (cmpNets l l')) ∧ Below w.heap.size w w' := by
  have H := netCompareFunc A A' c c' l l' w hl hl' h h'
  clear h h'
  go_enter Tryz.func70, Tryz.ntmps70
  go_wp2_with fail
  refine H.mono ?_
  rintro e w1 ⟨rfl, hb1⟩
  go_wp2
  go_ret
  exact ⟨rfl, hb1⟩
end Go.Proofs.YtlhnhkfkbmfikaaGreatDoor

/- MinFunc at nets. -/
namespace Go.Proofs.YtlhnhkfkbmfikaaGreatDoor
open Go.RowKit

/-- A net in memory: where, its room, its bars. -/
structure Hd where
  a : Option Addr
  c : Nat
  l : List Ck.Bar
def Hd.v (f : Hd) : Value := .slice f.a f.l.length f.c
def Hd.ok (w : World) (f : Hd) : Prop := f.l.length ≤ 4096 ∧ OKS w f.a f.c f.l
theorem Hd.ok.below {w w' : World} {f : Hd} (h : f.ok w) (hb : Below w.heap.size w w') : f.ok w' := ⟨h.1, h.2.below hb⟩
def minH (m : Hd) : List Hd → Hd
  | [] => m
  | f :: r => if cmpNets f.l m.l < 0 then minH f r else minH m r
theorem minH_mem : ∀ (r : List Hd) (m : Hd), minH m r = m ∨ minH m r ∈ r
  | [], _ => .inl rfl
  | f :: r, m => by
    rw [minH]
    split
    · rcases minH_mem r f with h | h
      · exact .inr (by rw [h]; exact List.mem_cons_self)
      · exact .inr (List.mem_cons_of_mem _ h)
    · rcases minH_mem r m with h | h
      · exact .inl h
      · exact .inr (List.mem_cons_of_mem _ h)
set_option maxHeartbeats 4000000 in
set_option maxRecDepth 100000 in
theorem netMinFunc (B : Nat) (v : Value) (f0 : Hd) (fs : List Hd) (w : World) (hn : fs.length ≤ 1000) (hok : ∀ f ∈ f0 :: fs, f.ok w) (h : w.ownsRow B 35 1 v (f0 :: fs).length ((f0 :: fs).map Hd.v)) :
    Calls Tryz.prog 69 #[v, .func (.func 70) #[] #[]] w fun e w' => e = .returned (minH f0 fs).v ∧ Below w.heap.size w w' := by
  obtain ⟨g, cap, rfl, hg1, hg2, hg3, hg4⟩ := own_form h (by simp)
  have HOK := Lib.hid hok
  have HROW := Lib.hid h
  obtain ⟨R, hR⟩ : ∃ R, minH f0 fs = R := ⟨_, rfl⟩
  obtain ⟨L, hL⟩ : ∃ L, f0 :: fs = L := ⟨_, rfl⟩
  have H0 := Lib.hid (show minH f0 (L.drop 1) = R by rw [← hL]; exact hR)
  have HM0 := Lib.hid (show f0 ∈ L by rw [← hL]; exact List.mem_cons_self)
  have HF0 := Lib.hid (show L[0]? = some f0 by rw [← hL]; rfl)
  have hLn : 0 < L.length := by rw [← hL]; simp
  have hL1 : L.length ≤ 1001 := by rw [← hL]; simp; omega
  have k0 : w.cell? ⟨g, 0, none⟩ = some f0.v := by rw [h.cellAt 0 (by simp)]; rfl
  have hlen : ¬ (L.length : Int) < 1 := by omega
  have hlen2 : (0 : Int) < (L.length : Int) := by omega
  rw [hL] at HOK HROW ⊢
  rw [hR]
  clear h hok hR hL
  go_enter Tryz.func69, Tryz.ntmps69
  go_wp2_with fail
  go_loopw [5, 6] (fun m i wr => ∃ (k : Nat) (f : Hd), 1 ≤ k ∧ k ≤ L.length ∧ i = .int .i64 k ∧ m = f.v ∧ Hid (f ∈ L) ∧ Hid (minH f (L.drop k) = R) ∧ Below w.heap.size w wr) (fun _ i _ => L.length - (intOf i).toNat)
  case atStart => exact ⟨1, f0, by omega, by omega, rfl, rfl, HM0, H0, Below.refl _ _⟩
  case round =>
    obtain ⟨k, f, hk1, hk, rfl, rfl, HM, HC, hb⟩ := hrel
    by_cases hlt : k < L.length
    · have hkl : (k : Int) < (L.length : Int) := by omega
      have hk0 : (0 : Int) ≤ (k : Int) := by omega
      have hrow := ownsRow_below HROW.out hb
      obtain ⟨f', hf'⟩ : ∃ f', L[k] = f' := ⟨_, rfl⟩
      have k1 : wr.cell? ⟨g, k, none⟩ = some f'.v := by
        rw [hrow.cellAt k (by omega), ← hf']
        simp [List.getElem?_eq_getElem hlt]
      have HF := Lib.hid ((HOK.out f HM.out).below hb)
      have HM' := Lib.hid (show f' ∈ L by rw [← hf']; exact List.getElem_mem hlt)
      have HF' := Lib.hid ((HOK.out f' HM'.out).below hb)
      have HC2 := Lib.hid (show (if cmpNets f'.l f.l < 0 then minH f' (L.drop (k + 1)) else minH f (L.drop (k + 1))) = R by rw [← HC.out, List.drop_eq_getElem_cons hlt, hf', minH])
      clear hrow hf' k0
      go_wp2_with fail
      refine (netCompareNets f'.a f.a f'.c f.c f'.l f.l _ HF'.out.1 HF.out.1 HF'.out.2.2.2.2 HF.out.2.2.2.2).mono ?_
      rintro e w3 ⟨rfl, hb3⟩
      have B3 := hb.trans (hb3.mono hb.size)
      have k3 := (hb3.cell (p := ⟨g, k, none⟩) (by have := hb.size; show g < _; omega)).trans k1
      obtain ⟨z, hz⟩ : ∃ z, cmpNets f'.l f.l = z := ⟨_, rfl⟩
      rw [hz] at HC2 ⊢
      clear hz hb3 k1
      by_cases hz0 : z < 0
      · have HC3 := Lib.hid (show minH f' (L.drop (k + 1)) = R by rw [← HC2.out, if_pos hz0])
        go_wp2
        go_roundw
        case rel => exact ⟨k + 1, f', by omega, by omega, by go_num, rfl, HM', HC3, B3⟩
        case measure => simp [intOf]; omega
      · have HC3 := Lib.hid (show minH f (L.drop (k + 1)) = R by rw [← HC2.out, if_neg hz0])
        go_wp2
        go_roundw
        case rel => exact ⟨k + 1, f, by omega, by omega, by go_num, rfl, HM, HC3, B3⟩
        case measure => simp [intOf]; omega
    · have hkl : ¬ (k : Int) < (L.length : Int) := by omega
      have HE := Lib.hid (show f = R by rw [← HC.out, List.drop_of_length_le (by omega), minH])
      go_wp2
      go_ret
      exact ⟨congrArg (fun f => Ending.returned (Hd.v f)) HE.out, hb⟩
end Go.Proofs.YtlhnhkfkbmfikaaGreatDoor

/- Contracts of shiftedBy and Shift, where the shifted bars are a net. -/
namespace Go.Proofs.YtlhnhkfkbmfikaaGreatDoor
open Go.RowKit

set_option maxHeartbeats 1000000 in
theorem netShiftedBy (A : Option Addr) (c : Nat) (l : List Ck.Bar) (dx dy : Int) (w : World) (hl : l.length ≤ 4096) (hok : ∀ x ∈ l, Ck.okBar x) (h : RB w w.heap.size A l) (k1 : -500000 ≤ dx) (k2 : dx ≤ 500000) (k3 : -500000 ≤ dy) (k4 : dy ≤ 500000) :
    Calls Tryz.prog 102 #[.slice A l.length c, .agg #[.int .i64 dx, .int .i64 dy]] w (MovPost l dx dy w) := by
  obtain ⟨w1, hw1, e0, e1, hb1, hz1⟩ := box2 w (.int .i64 dx) (.int .i64 dy) 121
  have HR := Lib.hid h
  have HO := Lib.hid hok
  have HW := Lib.hid hw1
  clear h hok hw1
  go_enter Tryz.func102, Tryz.ntmps102
  go_wp2_with fail
  rw [← HW.out]
  refine (netMoved A c w.heap.size l dx dy w1 hl HO.out ((HR.out.below hb1).more hb1.size) k1 k2 k3 k4 hz1 e0 e1).mono ?_
  rintro e w2 ⟨v, rfl, hrow, hb2⟩
  have HV := Lib.hid (ownsRow_mono hrow hb1.size)
  clear hrow
  go_wp2
  go_ret
  exact ⟨v, rfl, HV.out, hb1.trans (hb2.mono hb1.size)⟩

theorem keepS {W w1 w2 : World} {g : Nat} {x y : Value} (h : w1.cell? ⟨g, 0, none⟩ = some x ∧ w1.cell? ⟨g, 1, none⟩ = some y ∧ Below g W w1 ∧ g < w1.heap.size) (hb : Below w1.heap.size w1 w2) :
    w2.cell? ⟨g, 0, none⟩ = some x ∧ w2.cell? ⟨g, 1, none⟩ = some y ∧ Below g W w2 ∧ g < w2.heap.size := by
  obtain ⟨h0, h1, h3, h4⟩ := h
  exact ⟨(hb.cell (p := ⟨g, 0, none⟩) h4).trans h0, (hb.cell (p := ⟨g, 1, none⟩) h4).trans h1, h3.trans (hb.mono (by omega)), by have := hb.size; omega⟩
theorem sId {W w : World} {g : Nat} {x y : Value} (h : w.cell? ⟨g, 0, none⟩ = some x ∧ w.cell? ⟨g, 1, none⟩ = some y ∧ Below g W w ∧ g < w.heap.size) : w.cell? ⟨g, 0, none⟩ = some x ∧ w.cell? ⟨g, 1, none⟩ = some y ∧ Below g W w ∧ g < w.heap.size := h
theorem checkS {W w : World} {g : Nat} {x y : Value} (A : Option Addr) (c : Nat) (l : List Ck.Bar) (hl : l.length ≤ 4096) (hcap : l.length ≤ c) (hcm : c ≤ maxLen) (HR : Hid (RB W W.heap.size A l)) (hg : W.heap.size ≤ g) (HE : Hid (netE l = 0))
    (h : w.cell? ⟨g, 0, none⟩ = some x ∧ w.cell? ⟨g, 1, none⟩ = some y ∧ Below g W w ∧ g < w.heap.size) : Calls Tryz.prog 44 #[.slice A l.length c] w fun e w' => e = .returned (.int .i64 0) ∧ Below w.heap.size w w' :=
  (netCheckNet A c l w hl hcap hcm ((HR.out.below (h.2.2.1.mono hg)).more (by have := h.2.2.1.size; have := h.2.2.2; omega))).mono fun e w' ⟨he, hb⟩ => ⟨by rw [he, HE.out], hb⟩

end Go.Proofs.YtlhnhkfkbmfikaaGreatDoor

/- Mirror of netting: moved by the mirror, and a net whose mirror keeps its order. -/
namespace Go.Proofs.YtlhnhkfkbmfikaaGreatDoor
open Go.RowKit

set_option maxHeartbeats 1000000 in
set_option maxRecDepth 100000 in
theorem netMirrored (x y : Int) (w : World) (h1 : -1000000 ≤ x) (h2 : x ≤ 1000000) :
    Calls Tryz.prog 66 #[.agg #[.int .i64 x, .int .i64 y]] w fun e w' => e = .returned (.agg #[.int .i64 (-x), .int .i64 y]) ∧ Below w.heap.size w w' := by
  go_enter Tryz.func66, Tryz.ntmps66
  go_wp2
  exact bodyPost_ret (v := .agg #[.int .i64 (-x), .int .i64 y]) (by simp [results, Tryz.results66, go_sem]) rfl ⟨rfl, ((Below.refl _ _).alloc (Nat.le_refl _) _).alloc (by simp) _⟩
theorem mir_row {w10 : World} {base : Nat} {v : Value} {l : List Ck.Bar} {k : Nat} (hlt : k < l.length) (h : w10.ownsRow base 65 3 v (k + 1) (bcellsL ((l.take k).map (mirB)) ++ [.int .i64 (-l[k].x), .int .i64 l[k].y, .int .i64 (-l[k].s)])) :
    Hid (w10.ownsRow base 65 3 v (k + 1) (bcellsL ((l.take (k + 1)).map (mirB)))) := by
  rw [List.take_succ_eq_append_getElem hlt, List.map_append, bcellsL, List.flatMap_append, ← bcellsL]
  exact h
def MirPost (l : List Ck.Bar) (w : World) (e : Ending) (w' : World) : Prop :=
  ∃ v, e = .returned v ∧ w'.ownsRow w.heap.size 65 3 v l.length (bcellsL (sortBars (l.map (mirB)))) ∧ Below w.heap.size w w'

set_option maxHeartbeats 4000000 in
set_option maxRecDepth 100000 in
theorem netMovedM (A : Option Addr) (c : Nat) (l : List Ck.Bar) (w : World) (hl : l.length ≤ 4096) (hok : ∀ x ∈ l, Ck.okBar x) (h : RB w w.heap.size A l) :
    Calls Tryz.prog 65 #[.slice A l.length c, .func (.func 66) #[] #[]] w (MirPost l w) := by
  obtain ⟨ib, hib, hb0, hb01, hb02⟩ := info_parts Tryz.info65
  have hmk : ∀ W : World, (Instr.makeSlice 35 (.int .i64 0) (.int .i64 (l.length : Int))).run Tryz.prog W = .ok (.slice (some ⟨W.heap.size, 0, none⟩) 0 l.length) (W.alloc (.cells (zeros3 l.length) 65)) := fun W => by
    have := run_make (P := Tryz.prog) W 35 65 ib _ Tryz.underlying35 hib hb0 .i64 .i64 0 (l.length : Int) (by omega) (by omega) (by rw [hb02]; omega) (by omega)
    rw [hb01, Int.toNat_natCast] at this
    exact this
  have HIB := Lib.hid hib
  have HB0 := Lib.hid hb0
  have HB1 := Lib.hid hb01
  have HB2 := Lib.hid hb02
  have HR := Lib.hid h
  have hl' : (l.length : Int) ≤ 4096 := by omega
  clear hib hb0 hb01 hb02 h
  go_enter Tryz.func65, Tryz.ntmps65
  go_wp2_with fail
  go_loopw [5, 7, 13] (fun v _ i wi => ∃ k : Nat, k ≤ l.length ∧ i = .int .i64 k ∧ Hid (wi.ownsRow w.heap.size 65 3 v k (bcellsL ((l.take k).map (mirB)))) ∧ Below w.heap.size w wi) (fun _ _ i _ => l.length - (intOf i).toNat)
  case atStart => exact ⟨0, Nat.zero_le _, rfl, made_row _ _ _ (Nat.le_refl _) hl _ (by rw [zeros3, size_madeCells]) _, (Below.refl _ _).alloc (Nat.le_refl _) _⟩
  case round =>
    obtain ⟨k, hk, rfl, hown, hb⟩ := hrel
    by_cases hlt : k < l.length
    · obtain ⟨b, off, rfl, hB, hc⟩ := HR.out.below hb (by omega)
      obtain ⟨d0, d1, d2⟩ := hc k hlt
      have hbz := hb.size
      obtain ⟨⟨⟨hx1, hx2⟩, ⟨hy1, hy2⟩, _⟩, hs, _⟩ := hok _ (List.getElem_mem hlt)
      replace hx1 : -100000 ≤ l[k].x := hx1
      replace hx2 : l[k].x ≤ 100000 := hx2
      replace hy1 : -100000 ≤ l[k].y := hy1
      replace hy2 : l[k].y ≤ 100000 := hy2
      have hs1 : -1 ≤ l[k].s := by omega
      have hs2 : l[k].s ≤ 1 := by omega
      clear hc hs
      go_wp2_with fail
      obtain ⟨w1, hw1, e0, e1, e2, hb1, hz1⟩ := box3 wr (.int .i64 l[k].x) (.int .i64 l[k].y) (.int .i64 l[k].s) 65
      rw [← hw1]
      clear hw1 d0 d1 d2
      have hk0 : K5 wr wr.heap.size wr.heap.size (.int .i64 l[k].x) (.int .i64 l[k].y) (.int .i64 l[k].s) (.int .i64 l[k].x) (.int .i64 l[k].y) w1.drew := ⟨e0, e1, e2, e0, e1, hz1, hz1, below_drew hb1⟩
      go_region_law (first
        | (go_simp; go_at_call 92; refine (netLower _ _ _ _).mono ?_; rintro e w9 ⟨rfl, hb9⟩; have hk9 := carry5 hb9 (by assumption); obtain ⟨_, _, _, _, _, _, _, _⟩ := id hk9)
        | (go_simp; go_at_call 95; refine (netUpper _ _ _ _ hx1 hx2 hy1 hy2 hs1 hs2).mono ?_; rintro e w9 ⟨rfl, hb9⟩; have hk9 := carry5 hb9 (by assumption); obtain ⟨_, _, _, _, _, _, _, _⟩ := id hk9)
        | (go_simp; go_at_call 66; refine (netMirrored _ _ _ (by omega) (by omega)).mono ?_; rintro e w9 ⟨rfl, hb9⟩; have hk9 := carry5 hb9 (by assumption); obtain ⟨_, _, _, _, _, _, _, _⟩ := id hk9)
        | (go_simp; go_at_call 100; refine (netBetweenUp _ _ _ _ _ (by omega) (by omega) (by omega) (by omega) (by omega)).mono ?_; rintro e w9 ⟨rfl, hb9⟩; have hk9 := carry5 hb9 (by assumption); obtain ⟨_, _, _, _, _, _, _, _⟩ := id hk9; rw [show -(l[k].x + l[k].s) - -l[k].x = -l[k].s from by omega])
        | (refine step_append_lies _ rfl (.tmp 17) (.tmp 27) 35 rfl w.heap.size 65 ib (.agg #[.int .i64 0, .int .i64 0, .int .i64 0]) 3 24 Tryz.underlying35 HIB.out HB0.out HB1.out HB2.out rfl (by decide) u5 k (bcellsL ((l.take k).map (mirB))) (by simp [Act.eval]) (by exact (ownsRow_below hown.out (K5.below (by assumption))).alloc _) _ 1 1 [.int .i64 (-l[k].x), .int .i64 l[k].y, .int .i64 (-l[k].s)] (by first | (simp [Act.eval]; done) | (simp [Act.eval]; rfl)) rfl (by exact three_new _ _ _ _ _) (by intro u hu; simp at hu; rcases hu with rfl | rfl | rfl <;> rfl) (by decide) (by unfold maxLen; omega) (by omega) (by simp; omega) _ rfl ?_; intro gx cap w10 hown10 hgrow10 _ _))
      all_goals
        have hrow := mir_row hlt hown10
        have hbel := hb.trans (mov_below (K5.below (by assumption)) hgrow10 (ownsRow_base hown.out) hbz)
        clear hgrow10 hown10
        go_wp2
        go_roundw
        case rel => exact ⟨k + 1, by omega, by go_num, hrow, hbel⟩
        case measure => simp [intOf]; omega
    · obtain rfl : k = l.length := by omega
      have hrow := hown.out
      rw [List.take_length] at hrow
      have hlm : (l.map (mirB)).length = l.length := List.length_map ..
      rw [← hlm] at hrow
      have hbz := hb.size
      go_wp2_with fail
      refine (netSortBars w.heap.size _ (l.map (mirB)) _ (by omega) hbz hrow).mono ?_
      rintro e w2 ⟨rfl, hrow2, hb2⟩
      rw [hlm] at hrow2
      have HO := Lib.hid hrow2
      clear hrow hrow2
      go_wp2
      go_ret
      exact ⟨_, rfl, HO.out, hb.trans hb2⟩

set_option maxHeartbeats 1000000 in
set_option maxRecDepth 100000 in
/-- Mirror, where the mirrored bars stand in order. -/
theorem netMirrorUp (A : Option Addr) (c : Nat) (l : List Ck.Bar) (w : World) (hl : l.length ≤ 4096) (hcap : l.length ≤ c) (hcm : c ≤ maxLen) (hN : Ck.Net l) (hM : (l.map mirB).Pairwise Ck.Blt) (h : RB w w.heap.size A l) :
    Calls Tryz.prog 27 #[.slice A l.length c] w fun e w' => ∃ v, e = .returned (.tuple #[v, .int .i64 0]) ∧ w'.ownsRow w.heap.size 65 3 v (l.map mirB).length (bcellsL (l.map mirB)) ∧ Below w.heap.size w w' := by
  have HE := Lib.hid ((netE_zero l).2 ⟨hl, hN⟩)
  have HR := Lib.hid h
  have HN := Lib.hid hN
  have HS := Lib.hid (sortBars_net hM)
  have HL := Lib.hid (show (l.map mirB).length = l.length from List.length_map ..)
  clear h hN hM
  go_enter Tryz.func27, Tryz.ntmps27
  go_wp2_with fail
  refine (netCheckNet A c l _ hl hcap hcm HR.out).mono ?_
  rintro e w1 ⟨rfl, hb1⟩
  rw [HE.out]
  go_wp2_with fail
  refine (netMovedM A c l _ hl HN.out.1 ((HR.out.below hb1).more hb1.size)).mono ?_
  rintro e w2 ⟨v, rfl, hrow, hb2⟩
  have hrow' := ownsRow_mono hrow hb1.size
  rw [HS.out, ← HL.out] at hrow'
  have HO := Lib.hid hrow'
  clear hrow hrow'
  go_wp2
  go_ret2
  exact ⟨v, rfl, HO.out, hb1.trans (hb2.mono hb1.size)⟩
end Go.Proofs.YtlhnhkfkbmfikaaGreatDoor

/- normal of netting; what Canonical returns. -/
namespace Go.Proofs.YtlhnhkfkbmfikaaGreatDoor
open Go.RowKit

def normL : List Ck.Bar → List Ck.Bar
  | [] => []
  | a :: r => sortBars ((a :: r).map (Ck.Bar.shift (-a.x) (-a.y)))
theorem normL_length (l : List Ck.Bar) : (normL l).length = l.length := by
  cases l with
  | nil => rfl
  | cons a r => rw [normL, (sortBars_perm _).length_eq, List.length_map]
set_option maxHeartbeats 2000000 in
set_option maxRecDepth 100000 in
theorem netNormal (A : Option Addr) (c : Nat) (l : List Ck.Bar) (w : World) (hl : l.length ≤ 4096) (hok : ∀ x ∈ l, Ck.okBar x) (h : RB w w.heap.size A l) :
    Calls Tryz.prog 68 #[.slice A l.length c] w (CopyPost (normL l) w) := by
  rcases l with _ | ⟨x, r⟩
  · clear h hok
    go_enter Tryz.func68, Tryz.ntmps68
    go_wp2
    go_ret
    exact ⟨_, rfl, ⟨rfl, .inl ⟨rfl, rfl⟩⟩, Below.refl _ _⟩
  · obtain ⟨X, Y, S⟩ := x
    obtain ⟨L, hL⟩ : ∃ L, (⟨X, Y, S⟩ : Ck.Bar) :: r = L := ⟨_, rfl⟩
    have HNL := Lib.hid (show normL L = sortBars (L.map (Ck.Bar.shift (-X) (-Y))) by rw [← hL]; rfl)
    have hne : 0 < L.length := by rw [← hL]; simp
    have h0 : L[0]'hne = ⟨X, Y, S⟩ := by subst hL; rfl
    obtain ⟨⟨⟨x1, x2⟩, ⟨y1, y2⟩, -⟩, -⟩ := hok ⟨X, Y, S⟩ (by simp)
    simp only [Ck.Bar.lo] at x1 x2 y1 y2
    rw [hL] at hl hok h ⊢
    clear hL
    obtain ⟨b, off, rfl, hB, hc⟩ := id (h hne)
    obtain ⟨c0, c1, -⟩ := hc 0 hne
    rw [h0] at c0 c1
    simp only [Nat.zero_mul, Nat.add_zero] at c0 c1
    have HR := Lib.hid h
    have HOK := Lib.hid hok
    have hni : (0 : Int) < (L.length : Int) := by omega
    have hn0 : ((L.length : Int) == 0) = false := by rw [beq_eq_false_iff_ne]; omega
    have hnn : ¬ L = [] := fun e => by rw [e] at hne; simp at hne
    have w1' : IntKind.i64.wrap (-X) = -X := by rw [IntKind.wrap_i64]; omega
    have w2' : IntKind.i64.wrap (-Y) = -Y := by rw [IntKind.wrap_i64]; omega
    clear h hok hc h0
    go_enter Tryz.func68, Tryz.ntmps68
    go_wp2_with fail
    go_region_held3 (fun w' => w'.cell? ⟨b, off, none⟩ = some (.int .i64 X) ∧ w'.cell? ⟨b, off + 1, none⟩ = some (.int .i64 Y))
      (first
        | exact hq8
        | exact ⟨c0, c1⟩)
      ((go_at_call 102; refine (netShiftedBy _ c L (-X) (-Y) _ hl HOK.out (by first | exact HR.out | exact HR.out.below (below_drew (Below.refl _ _))) (by omega) (by omega) (by omega) (by omega)).mono ?_; rintro e w9 ⟨v9, rfl, hr9, hb9⟩; have hq8 := And.intro ((hb9.cell (p := ⟨b, off, none⟩) hB).trans c0) ((hb9.cell (p := ⟨b, off + 1, none⟩) hB).trans c1)))
    have HO := Lib.hid hr9
    have B9 : Below w.heap.size w w9 := (below_drew (Below.refl _ _)).trans hb9
    clear hr9 hb9 hq8
    go_wp2
    go_ret
    refine ⟨_, rfl, ?_, B9⟩
    rw [normL_length, HNL.out]
    exact HO.out
def minL (m : List Ck.Bar) : List (List Ck.Bar) → List Ck.Bar
  | [] => m
  | f :: r => if cmpNets f m < 0 then minL f r else minL m r
theorem minH_l : ∀ (r : List Hd) (m : Hd), (minH m r).l = minL m.l (r.map (·.l))
  | [], _ => rfl
  | f :: r, m => by
    rw [minH, List.map_cons, minL]
    split
    · exact minH_l r f
    · exact minH_l r m
def pickL (l : List Ck.Bar) (j : Nat) : List Ck.Bar := if j = 0 then l else sortBars (l.map mirB)
def formsL (l : List Ck.Bar) : List (List Ck.Bar) := (List.range 8).map fun n => normL (turnN (n % 4) (pickL l (n / 4)))
def canonL (l : List Ck.Bar) : List Ck.Bar := match formsL l with | [] => [] | f :: r => minL f r
theorem forms_get (l : List Ck.Bar) {j k : Nat} (hj : j < 2) (hk : k < 4) : (formsL l)[4 * j + k]? = some (normL (turnN k (pickL l j))) := by
  have h : 4 * j + k < 8 := by omega
  rw [formsL, List.getElem?_map, List.getElem?_range h, Option.map_some, show (4 * j + k) % 4 = k by omega, show (4 * j + k) / 4 = j by omega]
theorem mirB_ok {b : Ck.Bar} (h : Ck.okBar b) : Ck.okBar (mirB b) := by
  obtain ⟨⟨⟨h1, h2⟩, ⟨h3, h4⟩, h5⟩, hs, h6, h7⟩ := h
  simp only [Ck.Bar.lo, Ck.Bar.hi] at *
  rcases hs with hs | hs <;> simp only [Ck.inPlace, hs] at h6 h7 <;> simp [mirB, hs, Ck.okBar, Ck.okKnot, Ck.inPlace, Ck.Bar.lo, Ck.Bar.hi] <;> omega
theorem pickL_ok {l : List Ck.Bar} (h : ∀ x ∈ l, Ck.okBar x) (j : Nat) : ∀ x ∈ pickL l j, Ck.okBar x := by
  unfold pickL
  split
  · exact h
  · intro x hx
    rw [(sortBars_perm _).mem_iff, List.mem_map] at hx
    obtain ⟨y, hy, rfl⟩ := hx
    exact mirB_ok (h y hy)
theorem pickL_length (l : List Ck.Bar) (j : Nat) : (pickL l j).length = l.length := by
  unfold pickL
  split
  · rfl
  · rw [(sortBars_perm _).length_eq, List.length_map]
end Go.Proofs.YtlhnhkfkbmfikaaGreatDoor

/- Canonical of netting, where all forms are nets. -/
namespace Go.Proofs.YtlhnhkfkbmfikaaGreatDoor
open Go.RowKit

/-- A net of the call's own. -/
def Hd.own (B : Nat) (w : World) (f : Hd) : Prop := f.l.length ≤ 4096 ∧ w.ownsRow B 65 3 f.v f.l.length (bcellsL f.l)
theorem Hd.own.ok {B : Nat} {w : World} {f : Hd} (h : f.own B w) : f.ok w := by
  obtain ⟨a, c, e, ho⟩ := own_oks h.2
  injection e with e1 e2 e3
  exact ⟨h.1, by rw [e1, e3]; exact ho⟩
/-- The forms so far. -/
structure Forms (B : Nat) (v : Value) (ls : List (List Ck.Bar)) (w : World) : Prop where
  has : ∃ fs : List Hd, fs.map Hd.l = ls ∧ (∀ f ∈ fs, f.own B w) ∧ w.ownsRow B 35 1 v fs.length (fs.map Hd.v)
theorem Forms.below {B : Nat} {v : Value} {ls : List (List Ck.Bar)} {w w' : World} (h : Forms B v ls w) (hb : Below w.heap.size w w') : Forms B v ls w' := by
  obtain ⟨fs, h1, h2, h3⟩ := h.has
  exact ⟨fs, h1, fun f hf => ⟨(h2 f hf).1, ownsRow_below (h2 f hf).2 hb⟩, ownsRow_below h3 hb⟩
theorem row_keeps {w w' : World} {v v2 : Value} {b1 b2 e1 e2 z1 z2 n1 n2 : Nat} {xs ys : List Value} {tmp : Obj} (h : w.ownsRow b1 e1 z1 v n1 xs) (hrow : w.ownsRow b2 e2 z2 v2 n2 ys) (he : e1 ≠ e2) (hg : (w.alloc tmp).grownBy w' v2.ownBlock) : w'.ownsRow b1 e1 z1 v n1 xs := by
  refine (h.alloc _).kept hg ?_
  rcases h.2 with ⟨rfl, -⟩ | ⟨g, cap, cur, rfl, -, hgb, -⟩
  · exact .inl rfl
  · refine .inr fun e => ?_
    rcases hrow.2 with ⟨rfl, -⟩ | ⟨g2, cap2, cur2, rfl, -, hgb2, -⟩
    · simp [Value.ownBlock] at e
    · simp only [Value.ownBlock, Option.some.injEq] at e
      subst e
      rw [hgb] at hgb2
      injection hgb2 with h1
      injection h1 with _ h2 _
      exact he h2
theorem ix20 (a b : Value) (w : World) : (Instr.index 122 (.agg #[a, b]) (.int .i64 0)).run Tryz.prog w = .ok a w := by kernel_rfl
theorem ix21 (a b : Value) (w : World) : (Instr.index 122 (.agg #[a, b]) (.int .i64 1)).run Tryz.prog w = .ok b w := by kernel_rfl
set_option maxHeartbeats 8000000 in
set_option maxRecDepth 100000 in
theorem netCanonical (A : Option Addr) (c : Nat) (l : List Ck.Bar) (w : World) (hl : l.length ≤ 4096) (hcap : l.length ≤ c) (hcm : c ≤ maxLen) (hA : A = none → c = 0) (hN : Ck.Net l) (hG : ∀ j, j < 2 → ∀ q, q < 4 → Ck.Net (normL (turnN q (pickL l j)))) (h : RB w w.heap.size A l) :
    Calls Tryz.prog 28 #[.slice A l.length c] w fun e w' => ∃ a c', e = .returned (.tuple #[.slice a (canonL l).length c', .int .i64 0]) ∧ OKS w' a c' (canonL l) ∧ Below w.heap.size w w' := by
  obtain ⟨i0, hi, hz0, hz1, hz2⟩ := info_parts Tryz.info35
  have HI := Lib.hid hi
  have HZ0 := Lib.hid hz0
  have HZ1 := Lib.hid hz1
  have HZ2 := Lib.hid hz2
  have HE := Lib.hid ((netE_zero l).2 ⟨hl, hN⟩)
  have HR := Lib.hid h
  have HN := Lib.hid hN
  have HG := Lib.hid hG
  have HA := Lib.hid hA
  clear h hN hG hA hi hz0 hz1 hz2
  go_enter Tryz.func28, Tryz.ntmps28
  go_wp2_with fail
  refine (netCheckNet A c l _ hl hcap hcm HR.out).mono ?_
  rintro e w1 ⟨rfl, hb1⟩
  rw [HE.out]
  go_wp2_with fail
  refine (netMovedM A c l _ hl HN.out.1 ((HR.out.below hb1).more hb1.size)).mono ?_
  rintro e w2 ⟨v2, rfl, hr2, hb2⟩
  have B2 := hb1.trans (hb2.mono hb1.size)
  have hl2 : (pickL l 1).length = l.length := pickL_length l 1
  rw [← hl2] at hr2
  obtain ⟨A2, c2, rfl, ho2⟩ := own_oks (show w2.ownsRow w1.heap.size 65 3 v2 (pickL l 1).length (bcellsL (pickL l 1)) from hr2)
  have HO2 := Lib.hid ho2
  have HR2 := Lib.hid ((HR.out.below B2).more B2.size)
  have HPK := Lib.hid (show ∀ j : Nat, j < 2 → ∀ W, Below w2.heap.size w2 W → ∃ a c', (∀ w', (Instr.index 122 (.agg #[.slice A l.length c, .slice A2 (pickL l 1).length c2]) (.int .i64 (j : Int))).run Tryz.prog w' = .ok (.slice a (pickL l j).length c') w') ∧ (a = none → c' = 0) ∧ RB W W.heap.size a (pickL l j) by
    intro j hj W hW
    have hj' : j = 0 ∨ j = 1 := by omega
    rcases hj' with rfl | rfl
    · exact ⟨A, c, fun w' => ix20 _ _ _, HA.out, (HR2.out.below hW).more hW.size⟩
    · exact ⟨A2, c2, fun w' => ix21 _ _ _, HO2.out.2.2.1, (HO2.out.2.2.2.below hW).more hW.size⟩)
  have HL2 := Lib.hid hl2
  clear hr2 ho2 hb1 hb2 hl2
  go_wp2_with fail
  go_loopw [5, 7, 8, 9, 10, 20, 23] (fun v _ _ _ _ j _ wr => ∃ i : Nat, i ≤ 2 ∧ j = .int .i64 i ∧ Hid (Forms w2.heap.size v ((formsL l).take (4 * i)) wr) ∧ Below w2.heap.size w2 wr) (fun _ _ _ _ _ j _ _ => 2 - (intOf j).toNat)
  case atStart => exact ⟨0, by omega, rfl, Lib.hid ⟨[], rfl, by simp, ⟨rfl, .inl ⟨rfl, rfl⟩⟩⟩, Below.refl _ _⟩
  case round =>
    obtain ⟨i, hi2, rfl, HF, hb⟩ := hrel
    by_cases hlt : i < 2
    · have hil : (i : Int) < 2 := by omega
      obtain ⟨a, c', hidx, ha, -⟩ := HPK.out i hlt _ hb
      have HAA := Lib.hid ha
      have HIX := Lib.hid (show ∀ W, Below w2.heap.size w2 W → RB W W.heap.size a (pickL l i) by
        intro W hW
        obtain ⟨a', c'', hidx', -, hrb⟩ := HPK.out i hlt W hW
        have e := (hidx w).symm.trans (hidx' w)
        injection e with e _
        injection e with e _ _
        rw [e]; exact hrb)
      have hpl := pickL_length l i
      obtain ⟨m, hm⟩ : ∃ m, pickL l i = m := ⟨_, rfl⟩
      have HM := Lib.hid hm
      rw [hm] at hidx HIX hpl
      have HPL := Lib.hid hpl
      clear ha hm hpl
      go_wp2_with fail
      go_loopw [5, 8, 9, 10, 23] (fun v _ _ _ q wi => ∃ k : Nat, k ≤ 4 ∧ q = .int .i64 k ∧ Hid (Forms w2.heap.size v ((formsL l).take (4 * i + k)) wi) ∧ Below w2.heap.size w2 wi) (fun _ _ _ _ q _ => 4 - (intOf q).toNat)
      case atStart => exact ⟨0, by omega, rfl, HF, hb⟩
      case round =>
        clear HF hb
        obtain ⟨k, hk4, rfl, HF, hb⟩ := hrel
        by_cases hkt : k < 4
        · have hki : (k : Int) < 4 := by omega
          have HT := Lib.hid (show (formsL l).take (4 * i + (k + 1)) = (formsL l).take (4 * i + k) ++ [normL (turnN k m)] by
            rw [show 4 * i + (k + 1) = 4 * i + k + 1 by omega, List.take_add_one, forms_get l hlt hkt, HM.out]; rfl)
          have HGN := Lib.hid (show Ck.Net (normL (turnN k m)) by rw [← HM.out]; exact HG.out i hlt k hkt)
          have HOKm := Lib.hid (show ∀ x ∈ m, Ck.okBar x by rw [← HM.out]; exact pickL_ok HN.out.1 i)
          have HTL := Lib.hid (show (turnN k m).length ≤ 4096 by rw [turnN_length, HPL.out]; exact hl)
          have HNL := Lib.hid (show (normL (turnN k m)).length ≤ 4096 by rw [normL_length]; exact HTL.out)
          have BW := B2.trans (hb.mono B2.size)
          have HRB := Lib.hid (HIX.out _ hb)
          go_wp2_with fail
          refine (netTurnedBy a c' k m _ (by rw [HPL.out]; exact hl) HAA.out HOKm.out (by omega) HRB.out).mono ?_
          rintro e w3 ⟨v3, rfl, hr3, hb3⟩
          obtain ⟨A3, c3, rfl, ho3⟩ := own_oks hr3
          have HO3 := Lib.hid ho3
          clear hr3 ho3
          go_wp2_with fail
          refine (netNormal A3 c3 (turnN k m) _ HTL.out (turnN_ok HOKm.out k) HO3.out.2.2.2).mono ?_
          rintro e w4 ⟨v4, rfl, hr4, hb4⟩
          have C3 := hb.trans (hb3.mono hb.size)
          have hr4' := ownsRow_mono hr4 C3.size
          obtain ⟨A4, c4, rfl, ho4⟩ := own_oks hr4'
          have HO4 := Lib.hid ho4
          clear ho4 hr4
          obtain ⟨N, hNN⟩ : ∃ N, normL (turnN k m) = N := ⟨_, rfl⟩
          rw [hNN] at HT HGN HNL hr4' HO4
          have HNN := Lib.hid hNN
          rw [hNN]
          clear hNN
          go_wp2_with fail
          refine (netWithin A4 c4 N _ HNL.out HO4.out.1 HO4.out.2.1 HGN.out HO4.out.2.2.2).mono ?_
          rintro e w5 ⟨rfl, hb5⟩
          have b5 : Below wr.heap.size wr w5 := (hb3.trans (hb4.mono hb3.size)).trans (hb5.mono (Nat.le_trans hb3.size hb4.size))
          have HF5 := HF.out.below b5
          have hrow5 := ownsRow_below hr4' hb5
          have C5 := hb.trans (b5.mono hb.size)
          obtain ⟨fs, hfs, hfo, hfr⟩ := HF5.has
          have hfl : fs.length ≤ 8 := by
            have h1 : fs.length = ((formsL l).take (4 * i + k)).length := by rw [← hfs, List.length_map]
            rw [h1, List.length_take]
            exact Nat.le_trans (Nat.min_le_right _ _) (by simp [formsL])
          have HFS := Lib.hid hfs
          have HFO := Lib.hid hfo
          have HFR := Lib.hid hfr
          have HR5 := Lib.hid hrow5
          have hb5z := C5.size
          clear hb3 hb4 hb5 b5 HF HF5 hfs hfo hfr hrow5 hr4'
          go_wp2_with (at_builtin; refine wpList_append_own _ rfl _ _ 67 rfl w2.heap.size 35 i0 (.slice none 0 0) 1 24 Tryz.underlying67 HI.out HZ0.out HZ1.out HZ2.out rfl (by decide) _ _ _ rfl (HFR.out.alloc _) ⟨w5.heap.size, 0, none⟩ 1 1 [.slice A4 N.length c4] rfl rfl (one_new _ _ _) ?c2 ?c3 ?c4 ?c5 ?_)
          case c2 => intro u hu; simp at hu; subst hu; rfl
          case c3 => unfold maxLen; omega
          case c4 => omega
          case c5 => simp; omega
          intro v' w6 hown6 hgrow6 _
          have HF6 := Lib.hid (show Forms w2.heap.size v' ((formsL l).take (4 * i + (k + 1))) w6 from ⟨fs ++ [⟨A4, c4, N⟩], by rw [List.map_append, HFS.out, HT.out]; rfl, fun x hx => by
            rcases List.mem_append.1 hx with hx | hx
            · exact ⟨(HFO.out x hx).1, row_keeps (HFO.out x hx).2 HFR.out (by decide) hgrow6⟩
            · rw [List.mem_singleton] at hx
              subst hx
              exact ⟨HNL.out, row_keeps HR5.out HFR.out (by decide) hgrow6⟩, by
            rw [List.length_append, List.map_append]
            exact hown6⟩)
          have C6 : Below w2.heap.size w2 w6 := (C5.alloc hb5z _).grown hgrow6 (by simp; omega) (ownsRow_base HFR.out)
          clear hown6 hgrow6
          go_wp2
          go_roundw
          case rel => exact ⟨k + 1, by omega, by go_num, HF6, C6⟩
          case measure => simp [intOf]; omega
        · obtain rfl : k = 4 := by omega
          go_wp2
          go_roundw
          case rel => exact ⟨i + 1, by omega, by go_num, by rw [show 4 * (i + 1) = 4 * i + 4 by omega]; exact HF, hb⟩
          case measure => simp [intOf]; omega
    · obtain rfl : i = 2 := by omega
      obtain ⟨fs, hfs, hfo, hfr⟩ := HF.out.has
      rw [List.take_of_length_le (by simp [formsL])] at hfs
      rcases fs with _ | ⟨f0, fs⟩
      · have := congrArg List.length hfs
        simp [formsL] at this
      have hfl : fs.length ≤ 8 := by
        have := congrArg List.length hfs
        simp [formsL] at this
        omega
      have HCL := Lib.hid (show canonL l = (minH f0 fs).l by rw [minH_l, canonL, ← hfs]; rfl)
      have HMIN := Lib.hid (show (minH f0 fs).ok wr from (by
        rcases minH_mem fs f0 with h | h
        · rw [h]; exact (hfo f0 List.mem_cons_self).ok
        · exact (hfo _ (List.mem_cons_of_mem _ h)).ok))
      have HFO := Lib.hid (show ∀ f ∈ f0 :: fs, f.ok wr from fun f hf => (hfo f hf).ok)
      have HFR := Lib.hid hfr
      clear hfs hfo hfr HF
      go_wp2_with fail
      refine (netMinFunc w2.heap.size _ f0 fs _ (by omega) HFO.out HFR.out).mono ?_
      rintro e w3 ⟨rfl, hb3⟩
      obtain ⟨R, hR⟩ : ∃ R, minH f0 fs = R := ⟨_, rfl⟩
      have HM3 := Lib.hid (HMIN.out.below hb3)
      rw [hR] at HCL HM3 ⊢
      have B3 := (B2.trans (hb.mono B2.size)).trans (hb3.mono (B2.trans (hb.mono B2.size)).size)
      clear hR HMIN HFO HFR
      obtain ⟨Ra, Rc, Rl⟩ := R
      rw [Hd.v]
      simp only at HCL HM3 ⊢
      go_wp2
      go_ret2
      rw [HCL.out]
      exact ⟨_, _, rfl, HM3.out.2, B3⟩
end Go.Proofs.YtlhnhkfkbmfikaaGreatDoor

/- The library's strings.Builder laid at this program: WriteString, String, Len. -/
namespace Go.Proofs.YtlhnhkfkbmfikaaGreatDoor
open Go.RowKit Go.Shelf
def Tryz.bl_ren : Go.Shelf.Ren := ⟨fun | 166 => 51 | 169 => 55 | 170 => 54 | 240 => 81 | 276 => 110 | n => n, fun | 0 => 0 | 3 => 3 | 4 => 4 | 5 => 5 | 9 => 9 | 20 => 20 | 37 => 95 | 70 => 94 | 72 => 97 | 75 => 100 | 76 => 101 | 80 => 105 | 127 => 138 | 164 => 165 | 165 => 166 | n => n, fun | n => n⟩
theorem Tryz.lay166 : Go.Proofs.Lays.n166 Tryz.prog Tryz.bl_ren := {
  mixed := by kernel_rfl,
  f166 := Tryz.func51.trans (congrArg some (by kernel_rfl)),
  f240 := Tryz.func81.trans (congrArg some (by kernel_rfl)),
  f276 := Tryz.func110.trans (congrArg some (by kernel_rfl)),
  t0 := Tryz.underlying0,
  a0 := Tryz.isAgg0,
  z0 := Tryz.sizeOf0,
  v0 := Tryz.zeroValue0,
  t3 := Tryz.underlying3,
  a3 := Tryz.isAgg3,
  z3 := Tryz.sizeOf3,
  v3 := Tryz.zeroValue3,
  t4 := Tryz.underlying4,
  a4 := Tryz.isAgg4,
  z4 := Tryz.sizeOf4,
  v4 := Tryz.zeroValue4,
  t9 := Tryz.underlying9,
  a9 := Tryz.isAgg9,
  z9 := Tryz.sizeOf9,
  v9 := Tryz.zeroValue9,
  t20 := Tryz.underlying20,
  a20 := Tryz.isAgg20,
  z20 := Tryz.sizeOf20,
  v20 := Tryz.zeroValue20,
  t37 := Tryz.underlying95,
  a37 := Tryz.isAgg95,
  z37 := Tryz.sizeOf95,
  v37 := Tryz.zeroValue95,
  t70 := Tryz.underlying94,
  a70 := Tryz.isAgg94,
  z70 := Tryz.sizeOf94,
  v70 := Tryz.zeroValue94,
  t72 := Tryz.underlying97,
  a72 := Tryz.isAgg97,
  z72 := Tryz.sizeOf97,
  v72 := Tryz.zeroValue97,
  t75 := Tryz.underlying100,
  a75 := Tryz.isAgg100,
  z75 := Tryz.sizeOf100,
  v75 := Tryz.zeroValue100,
  t164 := Tryz.underlying165,
  a164 := Tryz.isAgg165,
  z164 := Tryz.sizeOf165,
  v164 := Tryz.zeroValue165 }
theorem Tryz.lay169 : Go.Proofs.Lays.n169 Tryz.prog Tryz.bl_ren := {
  mixed := by kernel_rfl,
  f169 := Tryz.func55.trans (congrArg some (by kernel_rfl)),
  t0 := Tryz.underlying0,
  a0 := Tryz.isAgg0,
  z0 := Tryz.sizeOf0,
  v0 := Tryz.zeroValue0,
  t3 := Tryz.underlying3,
  a3 := Tryz.isAgg3,
  z3 := Tryz.sizeOf3,
  v3 := Tryz.zeroValue3,
  t9 := Tryz.underlying9,
  a9 := Tryz.isAgg9,
  z9 := Tryz.sizeOf9,
  v9 := Tryz.zeroValue9,
  t37 := Tryz.underlying95,
  a37 := Tryz.isAgg95,
  z37 := Tryz.sizeOf95,
  v37 := Tryz.zeroValue95,
  t70 := Tryz.underlying94,
  a70 := Tryz.isAgg94,
  z70 := Tryz.sizeOf94,
  v70 := Tryz.zeroValue94,
  t72 := Tryz.underlying97,
  a72 := Tryz.isAgg97,
  z72 := Tryz.sizeOf97,
  v72 := Tryz.zeroValue97,
  t127 := Tryz.underlying138,
  a127 := Tryz.isAgg138,
  z127 := Tryz.sizeOf138,
  v127 := Tryz.zeroValue138 }
theorem Tryz.lay170 : Go.Proofs.Lays.n170 Tryz.prog Tryz.bl_ren := {
  mixed := by kernel_rfl,
  f170 := Tryz.func54.trans (congrArg some (by kernel_rfl)),
  t0 := Tryz.underlying0,
  a0 := Tryz.isAgg0,
  z0 := Tryz.sizeOf0,
  v0 := Tryz.zeroValue0,
  t3 := Tryz.underlying3,
  a3 := Tryz.isAgg3,
  z3 := Tryz.sizeOf3,
  v3 := Tryz.zeroValue3,
  t37 := Tryz.underlying95,
  a37 := Tryz.isAgg95,
  z37 := Tryz.sizeOf95,
  v37 := Tryz.zeroValue95,
  t70 := Tryz.underlying94,
  a70 := Tryz.isAgg94,
  z70 := Tryz.sizeOf94,
  v70 := Tryz.zeroValue94,
  t72 := Tryz.underlying97,
  a72 := Tryz.isAgg97,
  z72 := Tryz.sizeOf97,
  v72 := Tryz.zeroValue97 }
theorem Tryz.blX : Builder.Extra Tryz.prog Tryz.bl_ren := {
  sizeBuilder := by kernel_rfl,
  liesBuilder := by kernel_rfl,
  t5 := Tryz.underlying5,
  a5 := Tryz.isAgg5,
  z5 := Tryz.sizeOf5,
  v5 := Tryz.zeroValue5,
  infoByte := by kernel_rfl,
  cellsByte := by kernel_rfl,
  sizeByte := by kernel_rfl,
  neB5 := by decide }
theorem Tryz.blT72 : Tryz.bl_ren.t 72 = 97 := by kernel_rfl
theorem Tryz.blT5 : Tryz.bl_ren.t 5 = 5 := by kernel_rfl
theorem Tryz.blF166 : Tryz.bl_ren.f 166 = 51 := by kernel_rfl
theorem Tryz.blF169 : Tryz.bl_ren.f 169 = 55 := by kernel_rfl
theorem Tryz.blF170 : Tryz.bl_ren.f 170 = 54 := by kernel_rfl
def BldIs (B b : Nat) (l : List UInt8) (w : World) : Prop := Lib.IsBuilderF 97 5 B b (Lib.byteCells l) w
theorem bldNew (w : World) : BldIs w.heap.size w.heap.size [] (w.alloc (.cells #[.pointer none, .slice none 0 0] 97)) := Lib.IsBuilderF.of (Lib.fresh_isBuilder 97 5 w)
theorem bldWriteK (B b : Nat) (l : List UInt8) (s : ByteArray) (w : World) (h : BldIs B b l w) (hlen : l.length + s.size ≤ 1000000) (hBw : B ≤ w.heap.size) :
    Calls Tryz.prog 51 #[.pointer (some ⟨b, 0, none⟩), .string s] w fun e w' => (∃ v, e = .returned v) ∧ BldIs B b (l ++ s.data.toList) w' ∧ Below B w w' ∧ Lib.OthersKept 5 (some b) w w' := by
  have k := Any.Builder_WriteString_k Tryz.lay166 Tryz.blX B b (Lib.byteCells l) s w (by rw [Tryz.blT72, Tryz.blT5]; exact h) (by rw [Lib.byteCells_length]; omega) hBw
  rw [Tryz.blF166] at k
  refine k.mono fun e w' ⟨he, h1, h2, h3⟩ => ⟨⟨_, he⟩, ?_, h2, by rw [← Tryz.blT5]; exact h3⟩
  rw [Tryz.blT72, Tryz.blT5, Lib.strCells_eq, ← Lib.byteCells_append] at h1
  exact .inr h1
theorem bldString (B b : Nat) (l : List UInt8) (w : World) (h : BldIs B b l w) (hBw : B ≤ w.heap.size) :
    Calls Tryz.prog 55 #[.pointer (some ⟨b, 0, none⟩)] w fun e w' => e = .returned (.string ⟨l.toArray⟩) ∧ BldIs B b l w' ∧ Below B w w' := by
  have k := Any.Builder_String_any_k Tryz.lay169 Tryz.blX B b l w (by rw [Tryz.blT72, Tryz.blT5]; exact h) hBw
  rw [Tryz.blF169] at k
  refine k.mono fun e w' ⟨he, h1, h2, _⟩ => ⟨he, ?_, h2⟩
  rw [Tryz.blT72, Tryz.blT5] at h1
  exact h1
theorem bldLen (B b : Nat) (l : List UInt8) (w : World) (h : BldIs B b l w) :
    Calls Tryz.prog 54 #[.pointer (some ⟨b, 0, none⟩)] w fun e w' => e = .returned (.int .i64 l.length) ∧ w' = w := by
  have k := Any.Builder_Len_f Tryz.lay170 B b (Lib.byteCells l) w (by rw [Tryz.blT72, Tryz.blT5]; exact h)
  rw [Tryz.blF170, Lib.byteCells_length] at k
  exact k
end Go.Proofs.YtlhnhkfkbmfikaaGreatDoor

/- Print of netting. -/
namespace Go.Proofs.YtlhnhkfkbmfikaaGreatDoor
open Go.RowKit Go.Shelf

def d0 : Ck.Bar := ⟨0, 0, 0⟩
/-- Does a line begin at an index? -/
def begB (l : List Ck.Bar) (i : Nat) : Bool := i == 0 || i == l.length || decide ((l.getD i d0).y ≠ (l.getD (i - 1) d0).y)
def pieceB (dig : Int → List UInt8) (l : List Ck.Bar) (i : Nat) : List UInt8 :=
  (if begB l i = true then dig (l.getD i d0).y ++ [58] else []) ++ (32 :: dig (l.getD i d0).x ++ [if (l.getD i d0).s = 1 then 47 else 92]) ++ (if begB l (i + 1) = true then [10] else [])
def printTo (dig : Int → List UInt8) (l : List Ck.Bar) (k : Nat) : List UInt8 := (List.range k).flatMap (pieceB dig l)
def printB (dig : Int → List UInt8) (l : List Ck.Bar) : List UInt8 := printTo dig l l.length
theorem printTo_succ (dig : Int → List UInt8) (l : List Ck.Bar) (k : Nat) : printTo dig l (k + 1) = printTo dig l k ++ pieceB dig l k := by simp [printTo, List.range_succ]
theorem bldBelow {B b : Nat} {l : List UInt8} {w w' : World} (h : BldIs B b l w) (hb : Below w.heap.size w w') : BldIs B b l w' := by
  have conv : ∀ p, Lib.BuilderAtF 97 5 B b p (Lib.byteCells l) w → Lib.BuilderAtF 97 5 B b p (Lib.byteCells l) w' := by
    rintro p ⟨hB, v, hbk, hown, hne⟩
    refine ⟨hB, v, (hb.block _ (Array.getElem?_eq_some_iff.1 hbk).1).trans hbk, ⟨hown.1, ?_⟩, hne⟩
    rcases hown.2 with h | ⟨g, cap, cur, fz, h1, h2, h3, h4⟩
    · exact .inl h
    · exact .inr ⟨g, cap, cur, fz, h1, h2, (hb.block _ (Array.getElem?_eq_some_iff.1 h3).1).trans h3, h4⟩
  rcases h with h | h
  · exact .inl (conv _ h)
  · exact .inr (conv _ h)
theorem getD_bar {l : List Ck.Bar} {i : Nat} (h : i < l.length) : l.getD i d0 = l[i] := by rw [List.getD_eq_getElem?_getD, List.getElem?_eq_getElem h, Option.getD_some]
set_option maxHeartbeats 1000000 in
set_option maxRecDepth 100000 in
theorem netSideMark (s : Int) (w : World) : Calls Tryz.prog 53 #[.int .i64 s] w fun e w' => e = .returned (.string ⟨#[if s = 1 then 47 else 92]⟩) ∧ w = w' := by
  by_cases h : s = 1
  · have hb : (s == 1) = true := by rw [h]; rfl
    rw [if_pos h]
    go_enter Tryz.func53, Tryz.ntmps53
    go_wp2
    go_ret
    exact ⟨rfl, rfl⟩
  · have hb : (s == 1) = false := by rw [beq_eq_false_iff_ne]; exact h
    rw [if_neg h]
    go_enter Tryz.func53, Tryz.ntmps53
    go_wp2
    go_ret
    exact ⟨rfl, rfl⟩
set_option maxHeartbeats 1000000 in
set_option maxRecDepth 100000 in
theorem netBegins (A : Option Addr) (c i : Nat) (l : List Ck.Bar) (w : World) (hl : l.length ≤ 4096) (hi : i ≤ l.length) (h : RB w w.heap.size A l) :
    Calls Tryz.prog 50 #[.slice A l.length c, .int .i64 i] w fun e w' => e = .returned (.bool (begB l i)) ∧ Below w.heap.size w w' := by
  by_cases h0 : i = 0
  · have hB : begB l i = true := by simp [begB, h0]
    have hb : ((i : Int) == 0) = true := by rw [h0]; rfl
    rw [hB]
    clear hB h h0
    go_enter Tryz.func50, Tryz.ntmps50
    go_wp2_with fail
    go_quiet (fail)
    go_wp2
    go_ret
    exact ⟨rfl, below_drewN (Below.refl _ _) _⟩
  · have hb : ((i : Int) == 0) = false := by rw [beq_eq_false_iff_ne]; omega
    by_cases h1 : i = l.length
    · have hB : begB l i = true := by simp [begB, h1]
      have hb1 : ((i : Int) == (l.length : Int)) = true := by rw [beq_iff_eq]; omega
      rw [hB]
      clear hB h h1 h0
      go_enter Tryz.func50, Tryz.ntmps50
      go_wp2_with fail
      go_quiet (fail)
      go_wp2
      go_ret
      exact ⟨rfl, below_drewN (Below.refl _ _) _⟩
    · have hb1 : ((i : Int) == (l.length : Int)) = false := by rw [beq_eq_false_iff_ne]; omega
      have hil : i < l.length := by omega
      have hjl : i - 1 < l.length := by omega
      have hB : begB l i = decide (l[i].y ≠ (l[i - 1]'hjl).y) := by
        rw [begB, show (i == 0) = false from beq_eq_false_iff_ne.2 h0, show (i == l.length) = false from beq_eq_false_iff_ne.2 h1, getD_bar hil, getD_bar hjl]
        rfl
      obtain ⟨b, off, rfl, hbz, hc⟩ := h (by omega)
      obtain ⟨-, c1, -⟩ := hc i hil
      obtain ⟨-, c2, -⟩ := hc (i - 1) hjl
      obtain ⟨j, rfl⟩ : ∃ j, i = j + 1 := ⟨i - 1, by omega⟩
      simp only [Nat.add_sub_cancel] at c2 hB
      obtain ⟨u, hu⟩ : ∃ u, l[j + 1].y = u := ⟨_, rfl⟩
      obtain ⟨v, hv⟩ : ∃ v, (l[j]'(by omega)).y = v := ⟨_, rfl⟩
      rw [hu] at c1 hB
      rw [hv] at c2 hB
      rw [hB]
      have f1 : ((j : Int) + 1 == 0) = false := by rw [beq_eq_false_iff_ne]; omega
      have f2 : ((j : Int) + 1 == (l.length : Int)) = false := by rw [beq_eq_false_iff_ne]; omega
      rw [show ((j + 1 : Nat) : Int) = (j : Int) + 1 by omega]
      have e3' : (j : Int) + 1 - 1 = (j : Int) := by omega
      have e4 : (j : Int) < (l.length : Int) := by omega
      have e4' : (j : Int) + 1 < (l.length : Int) := by omega
      have e5 : (0 : Int) ≤ (j : Int) := by omega
      have e5' : (0 : Int) ≤ (j : Int) + 1 := by omega
      have e6 : ((j : Int) + 1).toNat = j + 1 := by omega
      have e7 : IntKind.i64.wrap (j : Int) = (j : Int) := by rw [IntKind.wrap_i64]; omega
      have hne : (u != v) = decide (u ≠ v) := by
        by_cases h : u = v <;> simp [h]
      clear hB hu hv hc h0 h1 hbz hil hjl hb hb1
      go_enter Tryz.func50, Tryz.ntmps50
      go_wp2_with fail
      go_quiet (fail)
      go_wp2
      go_ret
      exact ⟨ret_b (by simp), below_drewN (Below.refl _ _) _⟩
end Go.Proofs.YtlhnhkfkbmfikaaGreatDoor

/- Print of netting: the walk. -/
namespace Go.Proofs.YtlhnhkfkbmfikaaGreatDoor
open Go.RowKit Go.Shelf

theorem strcat (x y : List UInt8) : ((⟨x.toArray⟩ : ByteArray) ++ ⟨y.toArray⟩).data.toList = x ++ y := by simp
theorem strcat_size (a b : ByteArray) : (a ++ b).size = a.size + b.size := by simp
theorem printTo_le {dig : Int → List UInt8} {l : List Ck.Bar} (hd : ∀ b ∈ l, (dig b.x).length ≤ 7 ∧ (dig b.y).length ≤ 7) : ∀ k, k ≤ l.length → (printTo dig l k).length ≤ 18 * k
  | 0, _ => by simp [printTo]
  | k + 1, hk => by
    have ih := printTo_le hd k (by omega)
    have hm : l.getD k d0 ∈ l := by rw [getD_bar (by omega)]; exact List.getElem_mem _
    obtain ⟨h1, h2⟩ := hd _ hm
    rw [printTo_succ, List.length_append, pieceB]
    simp only [List.length_append, List.length_cons, List.length_nil]
    have : ∀ (p : Bool) (L : List UInt8), (if p = true then L else []).length ≤ L.length := fun p L => by cases p <;> simp
    have a1 := this (begB l k) (dig (l.getD k d0).y ++ [58])
    have a2 := this (begB l (k + 1)) [10]
    simp only [List.length_append, List.length_cons, List.length_nil] at a1 a2
    omega
/-- What the walk wants of the numerals: in every world that comes behind. -/
def Digs (dig : Int → List UInt8) (l : List Ck.Bar) (w : World) : Prop := ∀ b ∈ l, ∀ n, (n = b.x ∨ n = b.y) → ∀ w', Below w.heap.size w w' → Calls Tryz.prog 52 #[.int .i64 n] w' fun e w'' => e = .returned (.string ⟨(dig n).toArray⟩) ∧ Below w'.heap.size w' w''
theorem BldIs.lt {B b : Nat} {l : List UInt8} {w : World} (h : BldIs B b l w) : b < w.heap.size := by
  rcases h with ⟨-, v, hbk, -⟩ | ⟨-, v, hbk, -⟩ <;> exact (Array.getElem?_eq_some_iff.1 hbk).1
def markB (S : Int) : List UInt8 := [if S = 1 then 47 else 92]
theorem markB_one (S : Int) : (markB S).length = 1 := rfl
theorem netSideMarkB (s : Int) (w : World) : Calls Tryz.prog 53 #[.int .i64 s] w fun e w' => e = .returned (.string ⟨(markB s).toArray⟩) ∧ w = w' := netSideMark s w
/-- The box of the bar at hand. -/
def PrS (bx : Nat) (X Y S : Int) (w : World) : Prop := w.heap[bx]? = some (.cells #[.int .i64 X, .int .i64 Y, .int .i64 S] 65 (0, 0))
theorem PrS.below {bx : Nat} {X Y S : Int} {w w' : World} (h : PrS bx X Y S w) (hb : Below w.heap.size w w') : PrS bx X Y S w' := (hb.block _ (Array.getElem?_eq_some_iff.1 h).1).trans h
theorem PrS.cells {bx : Nat} {X Y S : Int} {w : World} (h : PrS bx X Y S w) : (w.cell? ⟨bx, 0, none⟩ = some (.int .i64 X) ∧ w.cell? ⟨bx, 1, none⟩ = some (.int .i64 Y) ∧ w.cell? ⟨bx, 2, none⟩ = some (.int .i64 S)) ∧ PrS bx X Y S w :=
  ⟨⟨by simp [World.cell?, show w.heap[bx]? = _ from h], by simp [World.cell?, show w.heap[bx]? = _ from h], by simp [World.cell?, show w.heap[bx]? = _ from h]⟩, h⟩
theorem PrS.lt {bx : Nat} {X Y S : Int} {w : World} (h : PrS bx X Y S w) : bx < w.heap.size := (Array.getElem?_eq_some_iff.1 h).1
theorem PrS.wrote {bx B : Nat} {X Y S : Int} {w w' : World} (h : PrS bx X Y S w) (ho : Lib.OthersKept 5 (some B) w w') (hB : B < bx) : PrS bx X Y S w' :=
  ho bx _ h (fun e => by injection e; omega) (fun c fz e => by injection e with _ e _; exact absurd e (by decide))
theorem netBeginsI (A : Option Addr) (c i : Nat) (n : Int) (hn : n = (i : Int)) (l : List Ck.Bar) (w : World) (hl : l.length ≤ 4096) (hi : i ≤ l.length) (h : RB w w.heap.size A l) :
    Calls Tryz.prog 50 #[.slice A l.length c, .int .i64 n] w fun e w' => e = .returned (.bool (begB l i)) ∧ Below w.heap.size w w' := by
  subst hn
  exact netBegins A c i l w hl hi h
theorem bldWriteL (B b : Nat) (l r : List UInt8) (s : ByteArray) (w : World) (hs : s.data.toList = r) (h : BldIs B b l w) (hlen : l.length + r.length ≤ 1000000) (hBw : B ≤ w.heap.size) :
    Calls Tryz.prog 51 #[.pointer (some ⟨b, 0, none⟩), .string s] w fun e w' => (∃ v, e = .returned v) ∧ BldIs B b (l ++ r) w' ∧ Below B w w' ∧ Lib.OthersKept 5 (some b) w w' := by
  subst hs
  exact bldWriteK B b l s w h (by rw [Lib.size_eq]; exact hlen) hBw
set_option maxHeartbeats 16000000 in
set_option maxRecDepth 100000 in
theorem netPrint (dig : Int → List UInt8) (A : Option Addr) (c : Nat) (l : List Ck.Bar) (w : World) (hl : l.length ≤ 4096) (hcap : l.length ≤ c) (hcm : c ≤ maxLen) (hN : Ck.Net l) (h : RB w w.heap.size A l) (hd : ∀ b ∈ l, (dig b.x).length ≤ 7 ∧ (dig b.y).length ≤ 7) (HI : Digs dig l w) (hlen : (printB dig l).length ≤ 65536) :
    Calls Tryz.prog 20 #[.slice A l.length c] w fun e w' => e = .returned (.tuple #[.string ⟨(printB dig l).toArray⟩, .int .i64 0]) ∧ Below w.heap.size w w' := by
  have HE := Lib.hid ((netE_zero l).2 ⟨hl, hN⟩)
  have HR := Lib.hid h
  have HII := Lib.hid HI
  have HPL := Lib.hid (printTo_le hd)
  have HD := Lib.hid hd
  have HLEN := Lib.hid hlen
  clear h hN HI hd hlen
  go_enter Tryz.func20, Tryz.ntmps20
  go_wp2_with fail
  refine (netCheckNet A c l _ hl hcap hcm HR.out).mono ?_
  rintro e w1 ⟨rfl, hb1⟩
  rw [HE.out]
  have b0 := bldNew w1
  have hb0 : Below w1.heap.size w1 (w1.alloc (.cells #[.pointer none, .slice none 0 0] 97)) := (Below.refl _ _).alloc (Nat.le_refl _) _
  have hbz := hb1.size
  have B2 := hb1.trans (hb0.mono hbz)
  have z2 : w1.heap.size < (w1.alloc (.cells #[.pointer none, .slice none 0 0] 97)).heap.size := by simp
  obtain ⟨B, hB⟩ : ∃ B, w1.heap.size = B := ⟨_, rfl⟩
  rw [hB] at b0 z2 hbz
  have HBB := Lib.hid hB
  have HB0 := Lib.hid b0
  have hli : (l.length : Int) ≤ 4096 := by omega
  clear b0 hb0 hb1
  go_wp2_with fail
  go_loopw [6, 7, 15] (fun _ _ i wr => ∃ k : Nat, k ≤ l.length ∧ i = .int .i64 k ∧ Hid (BldIs B B (printTo dig l k) wr) ∧ B < wr.heap.size ∧ Below w.heap.size w wr) (fun _ _ i _ => l.length - (intOf i).toNat)
  case atStart => exact ⟨0, Nat.zero_le _, rfl, HB0, z2, B2⟩
  case round =>
    clear B2 HB0 z2
    obtain ⟨k, hk, rfl, HBk, hBk, hb⟩ := hrel
    have HK := HPL.out k hk
    by_cases hlt : k < l.length
    · obtain ⟨b, off, rfl, hBb, hc⟩ := HR.out.below hb (by omega)
      obtain ⟨c0, c1, c2⟩ := hc k hlt
      have HM := Lib.hid (List.getElem_mem hlt)
      obtain ⟨⟨X, Y, S⟩, hX⟩ : ∃ x, l[k] = x := ⟨_, rfl⟩
      rw [hX] at c0 c1 c2 HM
      simp only at c0 c1 c2
      have HDD := Lib.hid (HD.out _ HM.out)
      have hdx := HDD.out.1
      have hdy := HDD.out.2
      simp only at hdx hdy
      have hm1 : (markB S).length = 1 := rfl
      have hkl : (k : Int) < (l.length : Int) := by omega
      have hk0 : (0 : Int) ≤ (k : Int) := by omega
      obtain ⟨w2, hw2, e0, e1, e2, hb2, hz2⟩ := box3 wr (.int .i64 X) (.int .i64 Y) (.int .i64 S) 65
      have q2 : PrS wr.heap.size X Y S w2 := by rw [hw2]; exact heap_alloc_new _ _
      have HW2 := Lib.hid hw2
      have HXX := Lib.hid (show l.getD k d0 = ⟨X, Y, S⟩ by rw [getD_bar hlt, hX])
      obtain ⟨g1, hg1⟩ : ∃ g, begB l k = g := ⟨_, rfl⟩
      obtain ⟨g2, hg2⟩ : ∃ g, begB l (k + 1) = g := ⟨_, rfl⟩
      have HG1 := Lib.hid hg1
      have HG2 := Lib.hid hg2
      have HBD := Lib.hid (bldBelow HBk.out hb2)
      have B2 := hb.trans (hb2.mono hb.size)
      have hB2 : B < w2.heap.size := by have := hb2.size; omega
      clear hw2 hX hc hg1 hg2 hBb HBk
      go_wp2_with fail
      rw [← HW2.out]
      clear c0 c1 c2
      refine (netBegins _ c k l _ hl hk ((HR.out.below B2).more B2.size)).mono ?_
      rintro e w3 ⟨rfl, hb3⟩
      rw [HG1.out]
      have q3 := q2.below hb3
      have B3 := B2.trans (hb3.mono B2.size)
      have hB3 : B < w3.heap.size := by have := hb3.size; omega
      replace HBD := Lib.hid (bldBelow HBD.out hb3)
      clear e0 e1 e2 hb2 hb3 hz2 B2 hB2 q2
      obtain ⟨P, hP⟩ : ∃ P, printTo dig l k = P := ⟨_, rfl⟩
      have HPP := Lib.hid hP
      rw [hP] at HBD HK
      clear hP
      obtain ⟨bx, hbx⟩ : ∃ bx, wr.heap.size = bx := ⟨_, rfl⟩
      rw [hbx] at q3
      have hbB : B < bx := by omega
      cases g1
      case false =>
        obtain ⟨T, hT⟩ : ∃ T, P = T := ⟨_, rfl⟩
        rw [hT] at HBD
        have HTT := Lib.hid hT
        have hTl : T.length ≤ 80000 := by rw [← hT]; (try simp); omega
        have HQ := Lib.hid q3
        have hBW : B < w3.heap.size := by have := q3.lt; omega
        obtain ⟨⟨k0, -, k2⟩, -⟩ := q3.cells
        clear hT q3
        go_wp2_with fail
        have hn1 : ¬ 9223372036854775807 < 1 + (dig X).length := by omega
        have hn2 : ¬ 9223372036854775807 < 1 + (dig X).length + (markB S).length := by rw [markB_one]; omega
        have hn3 : ¬ 9223372036854775807 < 1 + (dig X).length + 1 := by omega
        go_region_held3 (fun w' => (w'.cell? ⟨bx, 0, none⟩ = some (.int .i64 X) ∧ w'.cell? ⟨bx, 1, none⟩ = some (.int .i64 Y) ∧ w'.cell? ⟨bx, 2, none⟩ = some (.int .i64 S)) ∧ PrS bx X Y S w')
          (first
            | exact PrS.cells hq8
            | exact PrS.cells HQ.out)
          (first
            | (go_at_call 52; refine (HII.out _ HM.out X (.inl rfl) _ (by first | exact hW8 | exact below_drew hW8 | exact B3 | exact below_drew B3)).mono ?_; rintro e w9 ⟨rfl, hb9⟩; have hW8 := (show Below w.heap.size w _ by first | exact hW8 | exact below_drew hW8 | exact B3 | exact below_drew B3).trans (hb9.mono (by first | exact hW8.size | exact (B3).size)); have hB8 := bldBelow (B := B) (b := B) (l := T) (by first | exact hB8 | exact HBD.out) hb9; have hq8 := PrS.below (bx := bx) (X := X) (Y := Y) (S := S) (by first | exact hq8 | exact HQ.out) hb9)
            | (go_at_call 53; refine (netSideMarkB S _).mono ?_; rintro e w9 ⟨rfl, rfl⟩)
            | (go_at_call 51; refine (bldWriteL B B T (32 :: dig X ++ markB S) _ _ (by simp) (by first | exact hB8 | exact HBD.out) (by simp [markB_one]; omega) (by first | (have := hq8.lt; exact Nat.le_of_lt (Nat.lt_trans hbB this)) | (have := HQ.out.lt; exact Nat.le_of_lt (Nat.lt_trans hbB this)))).mono ?_; rintro e w9 ⟨⟨v9, rfl⟩, hI9, hb9, ho9⟩; have hq9 := PrS.wrote (bx := bx) (X := X) (Y := Y) (S := S) (by first | exact hq8 | exact HQ.out) ho9 hbB; have hq8 := hq9; have hW9 := (show Below w.heap.size w _ by first | exact hW8 | exact below_drew hW8 | exact B3 | exact below_drew B3).trans (hb9.mono hbz)))
        all_goals
          have HI9 := Lib.hid hI9
          have hB9z : B < w9.heap.size := by have := hq9.lt; omega
          have HW9 := hW9
          clear hI9 hq9 hb9 ho9 hW9
          go_wp2_with fail
          refine (netBeginsI _ c (k + 1) _ (by omega) l _ hl (by omega) ((HR.out.below HW9).more HW9.size)).mono ?_
          rintro e w10 ⟨rfl, hb10⟩
          rw [HG2.out]
          have HI10 := Lib.hid (bldBelow HI9.out hb10)
          have B10 := HW9.trans (hb10.mono HW9.size)
          have z10 : B < w10.heap.size := by have := hb10.size; omega
          clear hb10 HI9 hB9z
          cases g2
          case false =>
            have HPC := Lib.hid (show printTo dig l (k + 1) = T ++ (32 :: dig X ++ markB S) by rw [printTo_succ, pieceB, HG1.out, HG2.out, HXX.out, HPP.out, ← HTT.out]; simp [markB])
            go_wp2
            go_roundw
            case rel => exact ⟨k + 1, by omega, by go_num, Lib.hid (by rw [HPC.out]; exact HI10.out), z10, B10⟩
            case measure => simp [intOf]; omega
          case true =>
            have HPC := Lib.hid (show printTo dig l (k + 1) = T ++ (32 :: dig X ++ markB S) ++ [10] by rw [printTo_succ, pieceB, HG1.out, HG2.out, HXX.out, HPP.out, ← HTT.out]; simp [markB])
            go_wp2_with fail
            refine (bldWriteL B B _ [10] _ w10 rfl HI10.out (by simp [markB_one]; omega) (by omega)).mono ?_
            rintro e w11 ⟨⟨v11, rfl⟩, hI11, hb11, -⟩
            have HI11 := Lib.hid hI11
            have B11 := B10.trans (hb11.mono hbz)
            have z11 : B < w11.heap.size := by have := hI11.lt; omega
            clear hI11 hb11
            go_wp2
            go_roundw
            case rel => exact ⟨k + 1, by omega, by go_num, Lib.hid (by rw [HPC.out]; exact HI11.out), z11, B11⟩
            case measure => simp [intOf]; omega
      case true =>
        obtain ⟨⟨f0, f1, f2⟩, -⟩ := q3.cells
        go_wp2_with fail
        refine (HII.out _ HM.out Y (.inr rfl) _ B3).mono ?_
        rintro e w4 ⟨rfl, hb4⟩
        have q4 := q3.below hb4
        have B4 := B3.trans (hb4.mono B3.size)
        have hB4 : B < w4.heap.size := by have := hb4.size; omega
        replace HBD := Lib.hid (bldBelow HBD.out hb4)
        clear hb4 hB3 B3 f0 f1 f2 q3
        go_wp2_with fail
        refine (bldWriteL B B P (dig Y ++ [58]) _ w4 (by simp) HBD.out (by simp; omega) (by omega)).mono ?_
        rintro e w5 ⟨⟨v5, rfl⟩, h5, hb5, ho5⟩
        have q5 := q4.wrote ho5 hbB
        have B5 := B4.trans (hb5.mono hbz)
        replace HBD := Lib.hid h5
        clear h5 hb5 ho5 q4 B4 hB4
        obtain ⟨T, hT⟩ : ∃ T, P ++ (dig Y ++ [58]) = T := ⟨_, rfl⟩
        rw [hT] at HBD
        have HTT := Lib.hid hT
        have hTl : T.length ≤ 80000 := by rw [← hT]; (try simp); omega
        have HQ := Lib.hid q5
        have hBW : B < w5.heap.size := by have := q5.lt; omega
        obtain ⟨⟨k0, -, k2⟩, -⟩ := q5.cells
        clear hT q5
        go_wp2_with fail
        have hn1 : ¬ 9223372036854775807 < 1 + (dig X).length := by omega
        have hn2 : ¬ 9223372036854775807 < 1 + (dig X).length + (markB S).length := by rw [markB_one]; omega
        have hn3 : ¬ 9223372036854775807 < 1 + (dig X).length + 1 := by omega
        go_region_held3 (fun w' => (w'.cell? ⟨bx, 0, none⟩ = some (.int .i64 X) ∧ w'.cell? ⟨bx, 1, none⟩ = some (.int .i64 Y) ∧ w'.cell? ⟨bx, 2, none⟩ = some (.int .i64 S)) ∧ PrS bx X Y S w')
          (first
            | exact PrS.cells hq8
            | exact PrS.cells HQ.out)
          (first
            | (go_at_call 52; refine (HII.out _ HM.out X (.inl rfl) _ (by first | exact hW8 | exact below_drew hW8 | exact B5 | exact below_drew B5)).mono ?_; rintro e w9 ⟨rfl, hb9⟩; have hW8 := (show Below w.heap.size w _ by first | exact hW8 | exact below_drew hW8 | exact B5 | exact below_drew B5).trans (hb9.mono (by first | exact hW8.size | exact (B5).size)); have hB8 := bldBelow (B := B) (b := B) (l := T) (by first | exact hB8 | exact HBD.out) hb9; have hq8 := PrS.below (bx := bx) (X := X) (Y := Y) (S := S) (by first | exact hq8 | exact HQ.out) hb9)
            | (go_at_call 53; refine (netSideMarkB S _).mono ?_; rintro e w9 ⟨rfl, rfl⟩)
            | (go_at_call 51; refine (bldWriteL B B T (32 :: dig X ++ markB S) _ _ (by simp) (by first | exact hB8 | exact HBD.out) (by simp [markB_one]; omega) (by first | (have := hq8.lt; exact Nat.le_of_lt (Nat.lt_trans hbB this)) | (have := HQ.out.lt; exact Nat.le_of_lt (Nat.lt_trans hbB this)))).mono ?_; rintro e w9 ⟨⟨v9, rfl⟩, hI9, hb9, ho9⟩; have hq9 := PrS.wrote (bx := bx) (X := X) (Y := Y) (S := S) (by first | exact hq8 | exact HQ.out) ho9 hbB; have hq8 := hq9; have hW9 := (show Below w.heap.size w _ by first | exact hW8 | exact below_drew hW8 | exact B5 | exact below_drew B5).trans (hb9.mono hbz)))
        all_goals
          have HI9 := Lib.hid hI9
          have hB9z : B < w9.heap.size := by have := hq9.lt; omega
          have HW9 := hW9
          clear hI9 hq9 hb9 ho9 hW9
          go_wp2_with fail
          refine (netBeginsI _ c (k + 1) _ (by omega) l _ hl (by omega) ((HR.out.below HW9).more HW9.size)).mono ?_
          rintro e w10 ⟨rfl, hb10⟩
          rw [HG2.out]
          have HI10 := Lib.hid (bldBelow HI9.out hb10)
          have B10 := HW9.trans (hb10.mono HW9.size)
          have z10 : B < w10.heap.size := by have := hb10.size; omega
          clear hb10 HI9 hB9z
          cases g2
          case false =>
            have HPC := Lib.hid (show printTo dig l (k + 1) = T ++ (32 :: dig X ++ markB S) by rw [printTo_succ, pieceB, HG1.out, HG2.out, HXX.out, HPP.out, ← HTT.out]; simp [markB])
            go_wp2
            go_roundw
            case rel => exact ⟨k + 1, by omega, by go_num, Lib.hid (by rw [HPC.out]; exact HI10.out), z10, B10⟩
            case measure => simp [intOf]; omega
          case true =>
            have HPC := Lib.hid (show printTo dig l (k + 1) = T ++ (32 :: dig X ++ markB S) ++ [10] by rw [printTo_succ, pieceB, HG1.out, HG2.out, HXX.out, HPP.out, ← HTT.out]; simp [markB])
            go_wp2_with fail
            refine (bldWriteL B B _ [10] _ w10 rfl HI10.out (by simp [markB_one]; omega) (by omega)).mono ?_
            rintro e w11 ⟨⟨v11, rfl⟩, hI11, hb11, -⟩
            have HI11 := Lib.hid hI11
            have B11 := B10.trans (hb11.mono hbz)
            have z11 : B < w11.heap.size := by have := hI11.lt; omega
            clear hI11 hb11
            go_wp2
            go_roundw
            case rel => exact ⟨k + 1, by omega, by go_num, Lib.hid (by rw [HPC.out]; exact HI11.out), z11, B11⟩
            case measure => simp [intOf]; omega
    · obtain rfl : k = l.length := by omega
      have hle : ¬ (65536 : Int) < ((printTo dig l l.length).length : Int) := by have := HLEN.out; unfold printB at this; omega
      go_wp2_with fail
      refine (bldLen B B (printTo dig l l.length) _ HBk.out).mono ?_
      rintro e w3 ⟨rfl, rfl⟩
      go_wp2_with fail
      refine (bldString B B _ _ HBk.out (by omega)).mono ?_
      rintro e w4 ⟨rfl, -, hb4⟩
      go_wp2
      go_ret2
      exact ⟨rfl, hb.trans (hb4.mono hbz)⟩
end Go.Proofs.YtlhnhkfkbmfikaaGreatDoor

/- How many knots have one leg, and how many two: plain mathematics of the bars along an edge. -/
namespace Go.Proofs.YtlhnhkfkbmfikaaGreatDoor
open Ck

theorem foldl_count (k : Knot) : ∀ (ks : List Knot) (m : List (Knot × Int)), mget (ks.foldl incr m) k = mget m k + (ks.count k : Int)
  | [], m => by simp
  | a :: r, m => by
    rw [List.foldl_cons, foldl_count k r, incr, mget_mput, List.count_cons]
    by_cases h : k = a
    · subst h
      simp
      omega
    · have h' : ¬ (a == k) = true := by rw [beq_iff_eq]; exact fun e => h e.symm
      rw [if_neg h, if_neg h']
      simp
theorem degs_count (ks : List Knot) (k : Knot) : mget (degsL ks) k = (ks.count k : Int) := by
  rw [degsL, foldl_count]
  simp [mget]
/-- How many of the knots have so many legs. -/
def legN (l : List Bar) (i : Nat) : Nat := ((degsL (ends l)).map (·.1)).countP fun k => decide ((ends l).count k = i)

theorem sum_ones {a : Knot} : ∀ {K : List Knot}, K.Nodup → a ∈ K → ∀ f : Knot → Nat, (K.map fun k => f k + if a = k then 1 else 0).sum = (K.map f).sum + 1
  | [], _, h, _ => by simp at h
  | b :: r, hn, h, f => by
    obtain ⟨h1, h2⟩ := List.nodup_cons.1 hn
    by_cases hab : a = b
    · subst hab
      have e : (r.map fun k => f k + if a = k then 1 else 0) = r.map f := List.map_congr_left fun k hk => by
        have hne : ¬ a = k := fun e => h1 (by rw [e]; exact hk)
        rw [if_neg hne]
        rfl
      simp only [List.map_cons, List.sum_cons, e, if_true]
      omega
    · have hr : a ∈ r := by
        rcases List.mem_cons.1 h with h | h
        · exact absurd h hab
        · exact h
      have ih := sum_ones h2 hr f
      simp only [List.map_cons, List.sum_cons, ih, if_neg hab]
      omega
theorem sum_counts {K : List Knot} (hn : K.Nodup) : ∀ es : List Knot, (∀ x ∈ es, x ∈ K) → (K.map fun k => es.count k).sum = es.length
  | [], _ => by
    have e : (K.map fun k => List.count k ([] : List Knot)) = K.map fun _ => 0 := List.map_congr_left fun k _ => by simp
    rw [e]
    have : ∀ L : List Knot, (L.map fun _ => 0).sum = 0 := fun L => by induction L with
      | nil => rfl
      | cons a r ih => simpa using ih
    exact this K
  | a :: r, h => by
    have ih := sum_counts hn r fun x hx => h x (by simp [hx])
    have e : (K.map fun k => List.count k (a :: r)) = K.map fun k => r.count k + if a = k then 1 else 0 := List.map_congr_left fun k _ => by
      rw [List.count_cons]
      by_cases hk : a = k <;> simp [hk]
    rw [e, sum_ones hn (h a (by simp)), ih, List.length_cons]
theorem count_two {f : Knot → Nat} : ∀ K : List Knot, (∀ k ∈ K, f k = 1 ∨ f k = 2) → (K.map f).sum = K.countP (fun k => decide (f k = 1)) + 2 * K.countP (fun k => decide (f k = 2)) ∧ K.length = K.countP (fun k => decide (f k = 1)) + K.countP (fun k => decide (f k = 2))
  | [], _ => by simp
  | a :: r, h => by
    obtain ⟨i1, i2⟩ := count_two r fun k hk => h k (by simp [hk])
    rw [List.map_cons, List.sum_cons, List.countP_cons, List.countP_cons, List.length_cons]
    rcases h a (by simp) with h1 | h1 <;> rw [h1] <;> simp <;> omega
theorem one_lo {k : Knot} : ∀ {l : List Bar}, l.Pairwise (fun a b => a.y < b.y) → l.countP (fun b => decide (b.lo = k)) ≤ 1
  | [], _ => by simp
  | b :: r, h => by
    obtain ⟨h1, h2⟩ := List.pairwise_cons.1 h
    rw [List.countP_cons]
    by_cases hb : b.lo = k
    · have h0 : r.countP (fun b => decide (b.lo = k)) = 0 := by
        rw [List.countP_eq_zero]
        intro c hc hk
        have hk' : c.lo = k := by simpa using hk
        have := h1 c hc
        have e : c.lo.y = b.lo.y := by rw [hk', hb]
        simp only [Bar.lo] at e
        omega
      rw [h0]
      simp [hb]
    · have := one_lo (k := k) h2
      simp [hb]
      exact this
theorem one_hi {k : Knot} : ∀ {l : List Bar}, l.Pairwise (fun a b => a.y < b.y) → l.countP (fun b => decide (b.hi = k)) ≤ 1
  | [], _ => by simp
  | b :: r, h => by
    obtain ⟨h1, h2⟩ := List.pairwise_cons.1 h
    rw [List.countP_cons]
    by_cases hb : b.hi = k
    · have h0 : r.countP (fun b => decide (b.hi = k)) = 0 := by
        rw [List.countP_eq_zero]
        intro c hc hk
        have hk' : c.hi = k := by simpa using hk
        have := h1 c hc
        have e : c.hi.y = b.hi.y := by rw [hk', hb]
        simp only [Bar.hi] at e
        omega
      rw [h0]
      simp [hb]
    · have := one_hi (k := k) h2
      simp [hb]
      exact this
theorem ends_count (k : Knot) : ∀ l : List Bar, (ends l).count k = l.countP (fun b => decide (b.lo = k)) + l.countP (fun b => decide (b.hi = k))
  | [] => by simp [ends]
  | b :: r => by
    have ih := ends_count k r
    have e : ends (b :: r) = b.lo :: b.hi :: ends r := by simp [ends]
    rw [e, List.count_cons, List.count_cons, ih, List.countP_cons, List.countP_cons]
    by_cases h1 : b.lo = k <;> by_cases h2 : b.hi = k <;> simp [h1, h2] <;> omega
theorem degs_le {l : List Bar} (h : l.Pairwise fun a b => a.y < b.y) (k : Knot) : mget (degsL (ends l)) k ≤ 2 := by
  rw [degs_count, ends_count]
  have h1 := one_lo (k := k) h
  have h2 := one_hi (k := k) h
  omega
/-- The numbers of legs of the knots along an edge. -/
theorem edge_legs {σ : Int} (hσ : σ = 1 ∨ σ = -1) {L : List UInt8} {k : Knot} (hl : ∀ c ∈ L, isL c) {K : List Knot} (hK : K = (degsL (ends (barsP σ k L))).map (·.1)) (hn : K.Nodup) (hm : ∀ x, x ∈ K ↔ x ∈ ends (barsP σ k L)) :
    legN (barsP σ k L) 0 = 0 ∧ legN (barsP σ k L) 1 = 2 * endsR L ∧ legN (barsP σ k L) 2 + endsR L = barsN L ∧ legN (barsP σ k L) 3 = 0 ∧ legN (barsP σ k L) 4 = 0 := by
  have hp := barsP_pair (σ := σ) L k
  obtain ⟨-, hnk⟩ := barsP_parts hσ (l := L) (k := k) hl
  have hlen : (barsP σ k L).length = barsN L := barsP_length L k
  have hKl : K.length = barsN L + endsR L := by
    rw [← hnk]
    exact nK_eq hn hm
  have hsum := sum_counts hn (ends (barsP σ k L)) fun x hx => (hm x).2 hx
  have hel : (ends (barsP σ k L)).length = 2 * barsN L := by
    rw [← hlen]
    generalize barsP σ k L = l
    induction l with
    | nil => rfl
    | cons a r ih => simp [ends] at ih ⊢; omega
  have hf : ∀ x ∈ K, (ends (barsP σ k L)).count x = 1 ∨ (ends (barsP σ k L)).count x = 2 := fun x hx => by
    have h1 := one_lo (k := x) hp
    have h2 := one_hi (k := x) hp
    have h3 := List.count_pos_iff.2 ((hm x).1 hx)
    rw [ends_count] at h3 ⊢
    omega
  obtain ⟨c1, c2⟩ := count_two (f := fun x => (ends (barsP σ k L)).count x) K hf
  have hz : ∀ i, i ≠ 1 → i ≠ 2 → K.countP (fun x => decide ((ends (barsP σ k L)).count x = i)) = 0 := fun i h1 h2 => by
    rw [List.countP_eq_zero]
    intro x hx h
    have h' : (ends (barsP σ k L)).count x = i := by simpa using h
    rcases hf x hx with e | e <;> omega
  simp only [legN, ← hK]
  refine ⟨hz 0 (by decide) (by decide), by omega, by omega, hz 3 (by decide) (by decide), hz 4 (by decide) (by decide)⟩
end Go.Proofs.YtlhnhkfkbmfikaaGreatDoor
