/- Helpers: DKuP2. -/
import Derived.Test.YtdeplhihcifmeaaGreatDoorDKuP1
import Derived.Deep.RegionHeld3
import Derived.ProofKit
import Derived.Deep.Slices
import Derived.Deep.Fields
/- Small sheets: a sheet at a knot is the sheet at (0, 0) shifted; the numbers of the sheets of at most 6 columns and 8 rows, by reckoning. Plain mathematics for NettingRectangles. -/
namespace Go.Proofs.YtdeplhihcifmeaaGreatDoor
open Go.RowKit Ck

theorem cel_shift (a b x y : Int) (o : Bool) : cel0 (a + x) (b + y) o = (cel0 a b o).shift x y ∧ cel1 (a + x) (b + y) o = (cel1 a b o).shift x y := by
  cases o <;> constructor <;> refine Bar.ext' ?_ ?_ ?_ <;> simp [cel0, cel1, Bar.shift] <;> omega
theorem cellL_shift (x y : Int) (r c : Nat) : cellL x y r c = (cellL 0 0 r c).map (Bar.shift x y) := by
  have h := cel_shift (0 + 2 * (c : Int)) (0 + (r : Int)) x y (oddB r)
  rw [show 0 + 2 * (c : Int) + x = x + 2 * (c : Int) by omega, show 0 + (r : Int) + y = y + (r : Int) by omega] at h
  rw [cellL, cellL, h.1, h.2]
  rfl
theorem sheet_shift (x y : Int) (c r : Nat) : sheetP x y c r = (sheetP 0 0 c r).map (Bar.shift x y) := by
  simp only [sheetP, rowL, List.map_flatMap, ← cellL_shift]
/-- A net whose knots each lead to one another, down to one: one part. -/
def iterK (f : Knot → Knot) : Nat → Knot → Knot
  | 0, k => k
  | n + 1, k => iterK f n (f k)
theorem parts_down {l : List Bar} {t : Knot} {p : Nat} (f : Knot → Knot) (n : Nat) (ht : t ∈ ends l) (hf : ∀ k ∈ ends l, k = t ∨ ∃ b ∈ l, (k = b.lo ∧ f k = b.hi) ∨ (k = b.hi ∧ f k = b.lo)) (hft : f t = t) (hn : ∀ k ∈ ends l, iterK f n k = t) (hp : PartsIs l p) : p = 1 := by
  have step : ∀ m : Nat, ∀ k, k ∈ ends l → Conn l k (iterK f m k) := by
    intro m
    induction m with
    | zero => intro k _; exact .refl k
    | succ m ih =>
      intro k hk
      rcases hf k hk with rfl | ⟨b, hb, h⟩
      · rw [iterK, hft]
        exact ih _ hk
      · refine .step b hb h (ih _ (mem_ends.2 ⟨b, hb, ?_⟩))
        rcases h with ⟨-, h⟩ | ⟨-, h⟩
        · exact .inr h
        · exact .inl h
  refine hp.eq_rep (R := [t]) ⟨fun q hq => by rw [List.mem_singleton] at hq; subst hq; exact ht, List.pairwise_singleton _ _, fun k hk => ⟨t, List.mem_singleton.2 rfl, ?_⟩⟩
  have := step n k hk
  rw [hn k hk] at this
  exact this.symm
def dnK (k : Knot) : Knot := if k.y = 0 then (if k.x = 0 then k else ⟨k.x - 1, 1⟩) else if k.x = 0 then ⟨1, k.y - 1⟩ else ⟨k.x - 1, k.y - 1⟩
def knN (c r : Nat) : Nat := ((List.range (r + 1)).map fun q => c + 1 - q % 2).sum
def meN (c r : Nat) : Nat := ((List.range r).map fun q => if q = 0 then 0 else c - q % 2).sum
def okSheet (c r : Nat) : Bool :=
  let l := sheetP 0 0 c r
  decide (nK l = knN c r) && decide (nM l = meN c r) && decide ((⟨0, 0⟩ : Knot) ∈ ends l) &&
  ((List.range (2 * c)).all fun a => (List.range r).all fun b => decide (a = 0) || decide (b = 0) || decide ((a + b) % 2 = 1) || decide ((ends l).count (⟨a, b⟩ : Knot) = 4)) &&
  (decide (r % 2 = 1) || ((l.all fun b => decide ((turnB (turnB b)).shift (2 * (c : Int)) (r : Int) ∈ l)) && l.all fun b => l.any fun d => decide ((turnB (turnB d)).shift (2 * (c : Int)) (r : Int) = b))) &&
  (l.all fun b => (decide (b.lo = ⟨0, 0⟩) || l.any fun d => (decide (b.lo = d.lo) && decide (dnK b.lo = d.hi)) || (decide (b.lo = d.hi) && decide (dnK b.lo = d.lo))) && (decide (b.hi = ⟨0, 0⟩) || l.any fun d => (decide (b.hi = d.lo) && decide (dnK b.hi = d.hi)) || (decide (b.hi = d.hi) && decide (dnK b.hi = d.lo))) && decide (iterK dnK 24 b.lo = ⟨0, 0⟩) && decide (iterK dnK 24 b.hi = ⟨0, 0⟩))
theorem okSheets : ((List.range 6).all fun c => (List.range 8).all fun r => okSheet (c + 1) (r + 1)) = true := by decide +kernel
theorem okSheet_of {c r : Nat} (hc1 : 1 ≤ c) (hc : c ≤ 6) (hr1 : 1 ≤ r) (hr : r ≤ 8) : okSheet c r = true := by
  have h := List.all_eq_true.1 okSheets (c - 1) (List.mem_range.2 (by omega))
  have h2 := List.all_eq_true.1 h (r - 1) (List.mem_range.2 (by omega))
  rwa [show c - 1 + 1 = c by omega, show r - 1 + 1 = r by omega] at h2
end Go.Proofs.YtdeplhihcifmeaaGreatDoor

/- Small sheets at any knot: knots, meshes, one part, degrees inside, half a turn, the rows above. Plain mathematics for NettingRectangles. -/
namespace Go.Proofs.YtdeplhihcifmeaaGreatDoor
open Go.RowKit Ck

structure BaseIs (c r : Nat) : Prop where
  kn : nK (sheetP 0 0 c r) = knN c r
  me : nM (sheetP 0 0 c r) = meN c r
  pa : ∀ p, PartsIs (sheetP 0 0 c r) p → p = 1
  dg : ∀ a b : Nat, a < 2 * c → b < r → a ≠ 0 → b ≠ 0 → (a + b) % 2 = 0 → (ends (sheetP 0 0 c r)).count (⟨a, b⟩ : Knot) = 4
  ht : r % 2 = 0 → (∀ b ∈ sheetP 0 0 c r, (turnB (turnB b)).shift (2 * (c : Int)) (r : Int) ∈ sheetP 0 0 c r) ∧ ∀ b ∈ sheetP 0 0 c r, ∃ d ∈ sheetP 0 0 c r, (turnB (turnB d)).shift (2 * (c : Int)) (r : Int) = b
theorem baseIs {c r : Nat} (hc1 : 1 ≤ c) (hc : c ≤ 6) (hr1 : 1 ≤ r) (hr : r ≤ 8) : BaseIs c r := by
  have h := okSheet_of hc1 hc hr1 hr
  unfold okSheet at h
  simp only [Bool.and_eq_true, decide_eq_true_eq, List.all_eq_true, Bool.or_eq_true, List.any_eq_true, List.mem_range] at h
  obtain ⟨⟨⟨⟨⟨h1, h2⟩, h3⟩, h4⟩, h5⟩, h6⟩ := h
  refine ⟨h1, h2, fun p hp => parts_down dnK 24 h3 (fun k hk => ?_) rfl (fun k hk => ?_) hp, fun a b ha hb ha0 hb0 hab => ?_, fun hr2 => ?_⟩
  · obtain ⟨b, hb, hk⟩ := mem_ends.1 hk
    obtain ⟨⟨⟨g1, g2⟩, -⟩, -⟩ := h6 b hb
    rcases hk with rfl | rfl
    · exact g1
    · exact g2
  · obtain ⟨b, hb, hk⟩ := mem_ends.1 hk
    obtain ⟨⟨-, g3⟩, g4⟩ := h6 b hb
    rcases hk with rfl | rfl
    · exact g3
    · exact g4
  · rcases h4 a ha b hb with ((h | h) | h) | h
    · exact absurd h ha0
    · exact absurd h hb0
    · omega
    · exact h
  · rcases h5 with h | ⟨h, h'⟩
    · omega
    · exact ⟨h, h'⟩
end Go.Proofs.YtdeplhihcifmeaaGreatDoor

/- Small sheets at any knot: what the law of NettingRectangles asks of them. Plain mathematics. -/
namespace Go.Proofs.YtdeplhihcifmeaaGreatDoor
open Go.RowKit Ck

structure RectIs (x y : Int) (c r : Nat) (S : List Bar) : Prop where
  net : Net S
  len : S.length = 2 * (c * r)
  kn : nK S = knN c r
  me : nM S = meN c r
  pa : ∃ G, PartsAre S G ∧ G.length = 1
  dg : ∀ kx ky : Int, x < kx → kx < x + 2 * (c : Int) → y < ky → ky < y + (r : Int) → (kx + ky) % 2 = 0 → (ends S).count (⟨kx, ky⟩ : Knot) = 4
  ht : r % 2 = 0 → (turnN 2 S).map (Bar.shift (2 * x + 2 * (c : Int)) (2 * y + (r : Int))) = S
theorem turn_two_shift {l : List Bar} (hN : Net l) (x y : Int) : turnN 2 (l.map (Bar.shift x y)) = (turnN 2 l).map (Bar.shift (-x) (-y)) := by
  have one : ∀ (m : List Bar), Net m → ∀ a b : Int, sortBars ((m.map (Bar.shift a b)).map turnB) = (sortBars (m.map turnB)).map (Bar.shift (-b) a) := fun m hm a b => by
    have hnd : (m.map turnB).Nodup := map_nodup hm.nodup fun p hp q hq h => turnB_inj (side_ok hm p hp) (side_ok hm q hq) h
    rw [← sort_map_shift hnd]
    congr 1
    rw [List.map_map, List.map_map]
    exact List.map_congr_left fun p hp => turn_shift (side_ok hm p hp) a b
  have h1 : Net (turnN 1 l) := ⟨turnN_ok hN.1 1, turn_net hN 1⟩
  show sortBars ((sortBars ((l.map (Bar.shift x y)).map turnB)).map turnB) = (sortBars ((sortBars (l.map turnB)).map turnB)).map (Bar.shift (-x) (-y))
  rw [one l hN x y]
  exact one _ h1 (-y) x
theorem half_back {l : List Bar} (hN : Net l) {a b : Int} (h1 : ∀ d ∈ l, (turnB (turnB d)).shift a b ∈ l) (h2 : ∀ d ∈ l, ∃ e ∈ l, (turnB (turnB e)).shift a b = d) : (turnN 2 l).map (Bar.shift a b) = l := by
  have hT : Net (turnN 2 l) := ⟨turnN_ok hN.1 2, turn_net hN 2⟩
  refine sorted_unique (shift_pw a b hT.2) hN.2 fun d => ?_
  rw [List.mem_map]
  constructor
  · rintro ⟨e, he, rfl⟩
    obtain ⟨f, hf, rfl⟩ := (mem_turnN 1 e).1 he
    obtain ⟨g, hg, rfl⟩ := (mem_turnN 0 f).1 hf
    exact h1 g hg
  · intro hd
    obtain ⟨e, he, rfl⟩ := h2 d hd
    exact ⟨_, (mem_turnN 1 _).2 ⟨_, (mem_turnN 0 _).2 ⟨e, he, rfl⟩, rfl⟩, rfl⟩
theorem rectIs {x y : Int} {c r : Nat} (hc1 : 1 ≤ c) (hc : c ≤ 6) (hr1 : 1 ≤ r) (hr : r ≤ 8) (he : (x + y) % 2 = 0) (hN : Net (sheetP x y c r)) : RectIs x y c r (sheetP x y c r) := by
  have hB := baseIs hc1 hc hr1 hr
  have hNB : Net (sheetP 0 0 c r) := sheet_net (by simp [okKnot, inPlace]) ⟨by omega, by omega⟩ ⟨by omega, by omega⟩
  have hS := sheet_shift x y c r
  have hN' : Net ((sheetP 0 0 c r).map (Bar.shift x y)) := by rw [← hS]; exact hN
  have ha := shift_alike hNB x y hN'
  have hM : Moved (Bar.shift x y) (Knot.shift x y) (sheetP 0 0 c r) ((sheetP 0 0 c r).map (Bar.shift x y)) := ⟨shift_motion x y, side_ok hNB, fun x => List.mem_map⟩
  refine ⟨hN, sheetP_length x y c r, ?_, ?_, ?_, fun kx ky h1 h2 h3 h4 h5 => ?_, fun h2 => ?_⟩
  · rw [hS, ha.kn, hB.kn]
  · rw [hS, ha.me, hB.me]
  · obtain ⟨G, hG, hP⟩ := PartsAre.exist hN.2
    obtain ⟨G0, -, hP0⟩ := PartsAre.exist hNB.2
    refine ⟨G, hG, ?_⟩
    rw [hS] at hP
    rw [ha.pa _ _ hP0 hP, hB.pa _ hP0]
  · rw [hS]
    have hd := hB.dg (kx - x).toNat (ky - y).toNat (by omega) (by omega) (by omega) (by omega) (by omega)
    rw [Int.toNat_of_nonneg (by omega), Int.toNat_of_nonneg (by omega)] at hd
    rw [← hd, ← hM.count (List.Perm.refl _)]
    simp only [Knot.shift]
    rw [show kx - x + x = kx by omega, show ky - y + y = ky by omega]
  · obtain ⟨g1, g2⟩ := hB.ht h2
    have hb := half_back hNB g1 g2
    rw [hS, turn_two_shift hNB, List.map_map]
    refine Eq.trans (List.map_congr_left (g := Bar.shift x y ∘ Bar.shift (2 * (c : Int)) (r : Int)) fun d _ => ?_) ?_
    · exact Bar.ext' (by simp only [Function.comp, Bar.shift]; omega) (by simp only [Function.comp, Bar.shift]; omega) rfl
    · rw [← List.map_map, hb]
/-- The rows above. -/
theorem sheet_more (x y : Int) (c r : Nat) : ∀ k, ∃ R, sheetP x y c (r + k) = sheetP x y c r ++ R
  | 0 => ⟨[], by simp⟩
  | k + 1 => by
    obtain ⟨R, h⟩ := sheet_more x y c r k
    exact ⟨R ++ rowL x y (r + k) c, by rw [← Nat.add_assoc, sheetP_succ, h, List.append_assoc]⟩
structure RowsIs (c k : Nat) (S T R : List Bar) : Prop where
  net : Net R
  len : R.length = 2 * (c * k)
  mi : mergeM T S = R
  un : mergeU R S = T
  me : mergeI R S = []
theorem rowsIs {x y : Int} {c r k : Nat} (hS : Net (sheetP x y c r)) (hT : Net (sheetP x y c (r + k))) : ∃ R, RowsIs c k (sheetP x y c r) (sheetP x y c (r + k)) R := by
  obtain ⟨R, hR⟩ := sheet_more x y c r k
  have hl := sheetP_length x y c (r + k)
  have hl2 := sheetP_length x y c r
  have hm : c * (r + k) = c * r + c * k := Nat.mul_add ..
  generalize sheetP x y c (r + k) = T at *
  generalize sheetP x y c r = S at *
  have hnd := hT.nodup
  subst hR
  have hdis : ∀ b ∈ R, b ∉ S := fun b hb hs => (List.nodup_append.1 hnd).2.2 b hs b hb rfl
  have hf : (S ++ R).filter (fun b => !(decide (b ∈ S))) = R := by
    rw [List.filter_append, List.filter_eq_nil_iff.2, List.filter_eq_self.2, List.nil_append]
    · intro b hb
      simpa using hdis b hb
    · intro b hb
      simpa using hb
  have hNR : Net R := ⟨fun b hb => hT.1 b (List.mem_append_right _ hb), (List.pairwise_append.1 hT.2).2.1⟩
  refine ⟨R, hNR, ?_, ?_, ?_, ?_⟩
  · rw [List.length_append] at hl
    omega
  · rw [mergeM_eq _ _ hT.2 hS.2]
    exact hf
  · refine sorted_unique (mergeU_sorted _ _ hNR.2 hS.2) hT.2 fun b => ?_
    rw [mergeU_mem, List.mem_append]
    exact Or.comm
  · rw [mergeI_eq _ _ hNR.2 hS.2, List.filter_eq_nil_iff]
    intro b hb
    simpa using hdis b hb
end Go.Proofs.YtdeplhihcifmeaaGreatDoor

/- The law of NettingKnots. -/
namespace Go.Proofs.YtdeplhihcifmeaaGreatDoor
open Go.RowKit Go.Shelf Ck

/-- A box of five numbers. -/
def Five (w : World) (b : Nat) (cs : Array Value) : Prop := b < w.heap.size ∧ w.heap[b]? = some (.cells cs 67 (0, 0))
theorem Five.below {w w' : World} {b : Nat} {cs : Array Value} (h : Five w b cs) (hb : Below w.heap.size w w') : Five w' b cs := ⟨Nat.lt_of_lt_of_le h.1 hb.size, (hb.block _ h.1).trans h.2⟩
theorem Five.at5 {w : World} {g : Nat} {a b c d e : Value} (h : Five w g #[a, b, c, d, e]) : w.cell? ⟨g, 0, none⟩ = some a ∧ w.cell? ⟨g, 1, none⟩ = some b ∧ w.cell? ⟨g, 2, none⟩ = some c ∧ w.cell? ⟨g, 3, none⟩ = some d ∧ w.cell? ⟨g, 4, none⟩ = some e := by
  obtain ⟨c0, c1, c2, c3, c4, -⟩ := five_of_block h.2
  exact ⟨c0, c1, c2, c3, c4⟩
end Go.Proofs.YtdeplhihcifmeaaGreatDoor

/- NettingRectangles: its boxes, its numbers, the ways that end before the sheet is made. -/
namespace Go.Proofs.YtdeplhihcifmeaaGreatDoor
open Go.RowKit Go.Shelf Ck

theorem twoBoxes (W0 : World) (x y a b : Int) : ∃ W9, W9 = (W0.alloc (.cells #[.int .i64 x, .int .i64 y] 26)).alloc (.cells #[.int .u8 a, .int .u8 b] 107) ∧ Below W0.heap.size W0 W9 ∧ W9.heap.size = W0.heap.size + 2 ∧
    W9.cell? ⟨W0.heap.size, 0, none⟩ = some (.int .i64 x) ∧ W9.cell? ⟨W0.heap.size, 1, none⟩ = some (.int .i64 y) ∧ W9.cell? ⟨W0.heap.size + 1, 0, none⟩ = some (.int .u8 a) ∧ W9.cell? ⟨W0.heap.size + 1, 1, none⟩ = some (.int .u8 b) := by
  obtain ⟨w1, hw1, h0, h1, hb1, hz1⟩ := box2 W0 (.int .i64 x) (.int .i64 y) 26
  have hs1 : w1.heap.size = W0.heap.size + 1 := by rw [hw1]; simp
  obtain ⟨w2, hw2, g0, g1, hb2, hz2⟩ := box2 w1 (.int .u8 a) (.int .u8 b) 107
  have hs2 : w2.heap.size = W0.heap.size + 2 := by rw [hw2]; simp; omega
  rw [hs1] at g0 g1
  refine ⟨w2, by rw [hw2, hw1], hb1.trans (hb2.mono hb1.size), hs2, ?_, ?_, g0, g1⟩
  · exact (hb2.cell (p := ⟨W0.heap.size, 0, none⟩) (by show W0.heap.size < _; omega)).trans h0
  · exact (hb2.cell (p := ⟨W0.heap.size, 1, none⟩) (by show W0.heap.size < _; omega)).trans h1
theorem tmod_small (a n : Int) (hn : 0 < n) (ha : 0 ≤ a) : 0 ≤ a.tmod n ∧ a.tmod n < n := ⟨Int.tmod_nonneg n ha, Int.tmod_lt_of_pos a hn⟩
set_option maxHeartbeats 8000000 in
set_option maxRecDepth 100000 in
theorem lawRc1 (x y a b d : Int) (w : World) (hL : LaidLen w) (ha : 0 ≤ a ∧ a < 256) (hb : 0 ≤ b ∧ b < 256) (hd : 0 ≤ d ∧ d < 256) (c r k rk : Nat) (hc : (c : Int) = 1 + a.tmod 6) (hr : (r : Int) = 1 + b.tmod 8) (hk : (k : Int) = 1 + d.tmod 4) (hrk : rk = r + k) (KE : Int) (hK : knotE x y = KE) (hne : KE ≠ 0) :
    Calls Tryz.prog 12 #[.agg #[.int .i64 x, .int .i64 y], .agg #[.int .u8 a, .int .u8 b], .int .u8 d] w fun e w' => e = .returned (.bool true) ∧ Below w.heap.size w w' := by
  have ex0 : ∀ (a b : Value) (w : World), (Instr.extract (.tuple #[a, b]) 0).run Tryz.prog w = .ok a w := fun _ _ _ => by kernel_rfl
  have ex1 : ∀ (a b : Value) (w : World), (Instr.extract (.tuple #[a, b]) 1).run Tryz.prog w = .ok b w := fun _ _ _ => by kernel_rfl
  obtain ⟨w1, hw1, hb1, hz1, z0, z1, z2, z3⟩ := twoBoxes w x y a b
  have Q : ∀ {W : World}, Below w1.heap.size w1 W → W.cell? ⟨w.heap.size, 0, none⟩ = some (.int .i64 x) ∧ W.cell? ⟨w.heap.size, 1, none⟩ = some (.int .i64 y) ∧ W.cell? ⟨w.heap.size + 1, 0, none⟩ = some (.int .u8 a) ∧ W.cell? ⟨w.heap.size + 1, 1, none⟩ = some (.int .u8 b) := fun hb => ⟨(hb.cell (p := ⟨w.heap.size, 0, none⟩) (by show w.heap.size < _; omega)).trans z0, (hb.cell (p := ⟨w.heap.size, 1, none⟩) (by show w.heap.size < _; omega)).trans z1, (hb.cell (p := ⟨w.heap.size + 1, 0, none⟩) (by show w.heap.size + 1 < _; omega)).trans z2, (hb.cell (p := ⟨w.heap.size + 1, 1, none⟩) (by show w.heap.size + 1 < _; omega)).trans z3⟩
  have HW1 := Lib.hid hw1
  have HLL := Lib.hid hL
  have fin : ∀ {W : World}, Below w1.heap.size w1 W → Below w.heap.size w W := fun hb => hb1.trans (hb.mono hb1.size)
  have BW := Below.refl w1.heap.size w1
  have ta := tmod_small a 6 (by decide) ha.1
  have tb := tmod_small b 8 (by decide) hb.1
  have td := tmod_small d 4 (by decide) hd.1
  have wa : IntKind.i64.wrap a = a := by rw [IntKind.wrap_i64]; omega
  have wb : IntKind.i64.wrap b = b := by rw [IntKind.wrap_i64]; omega
  have wd : IntKind.i64.wrap d = d := by rw [IntKind.wrap_i64]; omega
  obtain ⟨a6, ha6⟩ : ∃ a6, a.tmod 6 = a6 := ⟨_, rfl⟩
  obtain ⟨b8, hb8⟩ : ∃ b8, b.tmod 8 = b8 := ⟨_, rfl⟩
  obtain ⟨d4, hd4⟩ : ∃ d4, d.tmod 4 = d4 := ⟨_, rfl⟩
  rw [ha6] at hc ta
  rw [hb8] at hr tb
  rw [hd4] at hk td
  have wa6 : IntKind.i64.wrap a6 = a6 := by rw [IntKind.wrap_i64]; omega
  have wb8 : IntKind.i64.wrap b8 = b8 := by rw [IntKind.wrap_i64]; omega
  have wd4 : IntKind.i64.wrap d4 = d4 := by rw [IntKind.wrap_i64]; omega
  have wc : IntKind.i64.wrap (1 + a6) = (c : Int) := by rw [IntKind.wrap_i64]; omega
  have wr_ : IntKind.i64.wrap (1 + b8) = (r : Int) := by rw [IntKind.wrap_i64]; omega
  have wk : IntKind.i64.wrap (1 + d4) = (k : Int) := by rw [IntKind.wrap_i64]; omega
  have wrk : IntKind.i64.wrap ((r : Int) + (k : Int)) = (rk : Int) := by rw [IntKind.wrap_i64]; omega
  have HB := Lib.hid (show (1 ≤ c ∧ c ≤ 6) ∧ (1 ≤ r ∧ r ≤ 8) ∧ (1 ≤ k ∧ k ≤ 4) ∧ rk = r + k by omega)
  clear hc hr hk hrk ta tb td ha hb hd
  have HK := Lib.hid hK
  have kn0 : (KE != 0) = true := by rw [bne_iff_ne]; exact hne
  clear hK hne
  clear hw1 hL z0 z1 z2 z3 hz1
  go_enter Tryz.func12, Tryz.ntmps12
  go_wp2_with fail
  rw [← HW1.out]
  go_wp2_with fail
  refine wp_region_held_drew (S := (fun w' => Below w1.heap.size w1 w')) (by kernel_rfl) ?_ (fun hHeld => ?_)
  · exact below_drew BW
  refine wpAnyH_take (i := 0) (oi := _) (v := ?vra0) rfl (by kernel_rfl) (by kernel_rfl) (by kernel_rfl) (fun _ _ _ h => h) (Or.inl ⟨by rfl, ?hyra0⟩) (by assumption) ?restra0
  case hyra0 => (intro w hSw; (try dsimp only at hSw); go_simp; first | done | rfl)
  try simp only [layA]
  refine wpAnyH_take (i := 1) (oi := _) (v := ?vra1) rfl (by kernel_rfl) (by kernel_rfl) (by kernel_rfl) (fun _ _ _ h => h) (Or.inl ⟨by rfl, ?hyra1⟩) (by assumption) ?restra1
  case hyra1 => (intro w hSw; (try dsimp only at hSw); obtain ⟨s0, s1, s2, s3⟩ := Q hSw; go_simp; first | done | rfl)
  try simp only [layA]
  refine wpAnyH_take (i := 2) (oi := _) (v := ?vra2) rfl (by kernel_rfl) (by kernel_rfl) (by kernel_rfl) (fun _ _ _ h => h) (Or.inl ⟨by rfl, ?hyra2⟩) (by assumption) ?restra2
  case hyra2 => (intro w hSw; (try dsimp only at hSw); go_simp; first | done | rfl)
  try simp only [layA]
  refine wpAnyH_take (i := 3) (oi := _) (v := ?vra3) rfl (by kernel_rfl) (by kernel_rfl) (by kernel_rfl) (fun _ _ _ h => h) (Or.inl ⟨by rfl, ?hyra3⟩) (by assumption) ?restra3
  case hyra3 => (intro w hSw; (try dsimp only at hSw); go_simp; first | done | rfl)
  try simp only [layA]
  refine wpAnyH_take (i := 4) (oi := _) (v := ?vra4) rfl (by kernel_rfl) (by kernel_rfl) (by kernel_rfl) (fun _ _ _ h => h) (Or.inl ⟨by rfl, ?hyra4⟩) (by assumption) ?restra4
  case hyra4 => (intro w hSw; (try dsimp only at hSw); go_simp; first | done | rfl)
  try simp only [layA]
  refine wpAnyH_take (i := 5) (oi := _) (v := ?vra5) rfl (by kernel_rfl) (by kernel_rfl) (by kernel_rfl) (fun _ _ _ h => h) (Or.inl ⟨by rfl, ?hyra5⟩) (by assumption) ?restra5
  case hyra5 => (intro w hSw; (try dsimp only at hSw); go_simp; first | done | rfl)
  try simp only [layA]
  refine wpAnyH_take (i := 6) (oi := _) (v := ?vra6) rfl (by kernel_rfl) (by kernel_rfl) (by kernel_rfl) (fun _ _ _ h => h) (Or.inl ⟨by rfl, ?hyra6⟩) (by assumption) ?restra6
  case hyra6 => (intro w hSw; (try dsimp only at hSw); obtain ⟨s0, s1, s2, s3⟩ := Q hSw; go_simp; first | done | rfl)
  try simp only [layA]
  refine wpAnyH_take (i := 7) (oi := _) (v := ?vra7) rfl (by kernel_rfl) (by kernel_rfl) (by kernel_rfl) (fun _ _ _ h => h) (Or.inl ⟨by rfl, ?hyra7⟩) (by assumption) ?restra7
  case hyra7 => (intro w hSw; (try dsimp only at hSw); go_simp; first | done | rfl)
  try simp only [layA]
  refine wpAnyH_take (i := 8) (oi := _) (v := ?vra8) rfl (by kernel_rfl) (by kernel_rfl) (by kernel_rfl) (fun _ _ _ h => h) (Or.inl ⟨by rfl, ?hyra8⟩) (by assumption) ?restra8
  case hyra8 => (intro w hSw; (try dsimp only at hSw); go_simp; first | done | rfl)
  try simp only [layA]
  refine wpAnyH_take (i := 9) (oi := _) (v := ?vra9) rfl (by kernel_rfl) (by kernel_rfl) (by kernel_rfl) (fun _ _ _ h => h) (Or.inl ⟨by rfl, ?hyra9⟩) (by assumption) ?restra9
  case hyra9 => (intro w hSw; (try dsimp only at hSw); go_simp; first | done | rfl)
  try simp only [layA]
  refine wpAnyH_take (i := 10) (oi := _) (v := ?vra10) rfl (by kernel_rfl) (by kernel_rfl) (by kernel_rfl) (fun _ _ _ h => h) (Or.inl ⟨by rfl, ?hyra10⟩) (by assumption) ?restra10
  case hyra10 => (intro w hSw; (try dsimp only at hSw); go_simp; first | done | rfl)
  try simp only [layA]
  refine wpAnyH_take (i := 11) (oi := _) (v := ?vra11) rfl (by kernel_rfl) (by kernel_rfl) (by kernel_rfl) (fun _ _ _ h => h) (Or.inl ⟨by rfl, ?hyra11⟩) (by assumption) ?restra11
  case hyra11 => (intro w hSw; (try dsimp only at hSw); go_simp; first | done | rfl)
  try simp only [layA]
  refine wpAnyH_take (i := 12) (oi := _) (v := ?vra12) rfl (by kernel_rfl) (by kernel_rfl) (by kernel_rfl) (fun _ _ _ h => h) (Or.inl ⟨by rfl, ?hyra12⟩) (by assumption) ?restra12
  case hyra12 => (intro w hSw; (try dsimp only at hSw); go_simp; first | done | rfl)
  try simp only [layA]
  refine wpAnyH_take (i := 13) (oi := _) (v := ?vra13) rfl (by kernel_rfl) (by kernel_rfl) (by kernel_rfl) (fun _ _ _ h => h) (Or.inl ⟨by rfl, ?hyra13⟩) (by assumption) ?restra13
  case hyra13 => (intro w hSw; (try dsimp only at hSw); go_simp; first | done | rfl)
  try simp only [layA]
  refine wpAnyH_take (i := 14) (oi := _) (v := ?vra14) rfl (by kernel_rfl) (by kernel_rfl) (by kernel_rfl) (fun _ _ _ h => h) (Or.inl ⟨by rfl, ?hyra14⟩) (by assumption) ?restra14
  case hyra14 => (intro w hSw; (try dsimp only at hSw); go_simp; first | done | rfl)
  try simp only [layA]
  refine wpAnyH_take (i := 15) (oi := _) (v := ?vra15) rfl (by kernel_rfl) (by kernel_rfl) (by kernel_rfl) (fun _ _ _ h => h) (Or.inl ⟨by rfl, ?hyra15⟩) (by assumption) ?restra15
  case hyra15 => (intro w hSw; (try dsimp only at hSw); go_simp; first | done | rfl)
  try simp only [layA]
  refine wpAnyH_take (i := 16) (oi := _) (v := ?vra16) rfl (by kernel_rfl) (by kernel_rfl) (by kernel_rfl) (fun _ _ _ h => h) (Or.inl ⟨by rfl, ?hyra16⟩) (by assumption) ?restra16
  case hyra16 => (intro w hSw; (try dsimp only at hSw); go_simp; first | done | rfl)
  try simp only [layA]
  refine wpAnyH_done (by kernel_rfl) ?_ _
  replace BW := hHeld
  clear hHeld
  go_wp2_with fail
  refine (awake1 _ (HLL.out.below (fin BW) HLL.out.lt)).mono ?_
  rintro e w11 ⟨rfl, hb11⟩
  replace BW := hbT BW hb11
  clear hb11
  obtain ⟨s0, s1, s2, s3⟩ := Q BW
  go_wp2_with fail
  refine (refCheckKnot x y _).mono ?_
  rintro e w12 ⟨rfl, hb12⟩
  rw [HK.out]
  replace BW := hbT BW hb12
  clear hb12
  go_wp2_with fail
  refine (awake1 _ (HLL.out.below (fin BW) HLL.out.lt)).mono ?_
  rintro e w13 ⟨rfl, hb13⟩
  replace BW := hbT BW hb13
  clear hb13
  go_wp2
  go_ret
  exact ⟨rfl, fin BW⟩
set_option maxHeartbeats 8000000 in
set_option maxRecDepth 100000 in
theorem lawRc2 (x y a b d : Int) (w : World) (hL : LaidLen w) (ha : 0 ≤ a ∧ a < 256) (hb : 0 ≤ b ∧ b < 256) (hd : 0 ≤ d ∧ d < 256) (c r k rk : Nat) (hc : (c : Int) = 1 + a.tmod 6) (hr : (r : Int) = 1 + b.tmod 8) (hk : (k : Int) = 1 + d.tmod 4) (hrk : rk = r + k) (hK : knotE x y = 0) (SE : Int) (hS : sheetE x y c rk = SE) (hne : SE ≠ 0) :
    Calls Tryz.prog 12 #[.agg #[.int .i64 x, .int .i64 y], .agg #[.int .u8 a, .int .u8 b], .int .u8 d] w fun e w' => e = .returned (.bool true) ∧ Below w.heap.size w w' := by
  have ex0 : ∀ (a b : Value) (w : World), (Instr.extract (.tuple #[a, b]) 0).run Tryz.prog w = .ok a w := fun _ _ _ => by kernel_rfl
  have ex1 : ∀ (a b : Value) (w : World), (Instr.extract (.tuple #[a, b]) 1).run Tryz.prog w = .ok b w := fun _ _ _ => by kernel_rfl
  obtain ⟨w1, hw1, hb1, hz1, z0, z1, z2, z3⟩ := twoBoxes w x y a b
  have Q : ∀ {W : World}, Below w1.heap.size w1 W → W.cell? ⟨w.heap.size, 0, none⟩ = some (.int .i64 x) ∧ W.cell? ⟨w.heap.size, 1, none⟩ = some (.int .i64 y) ∧ W.cell? ⟨w.heap.size + 1, 0, none⟩ = some (.int .u8 a) ∧ W.cell? ⟨w.heap.size + 1, 1, none⟩ = some (.int .u8 b) := fun hb => ⟨(hb.cell (p := ⟨w.heap.size, 0, none⟩) (by show w.heap.size < _; omega)).trans z0, (hb.cell (p := ⟨w.heap.size, 1, none⟩) (by show w.heap.size < _; omega)).trans z1, (hb.cell (p := ⟨w.heap.size + 1, 0, none⟩) (by show w.heap.size + 1 < _; omega)).trans z2, (hb.cell (p := ⟨w.heap.size + 1, 1, none⟩) (by show w.heap.size + 1 < _; omega)).trans z3⟩
  have HW1 := Lib.hid hw1
  have HLL := Lib.hid hL
  have fin : ∀ {W : World}, Below w1.heap.size w1 W → Below w.heap.size w W := fun hb => hb1.trans (hb.mono hb1.size)
  have BW := Below.refl w1.heap.size w1
  have ta := tmod_small a 6 (by decide) ha.1
  have tb := tmod_small b 8 (by decide) hb.1
  have td := tmod_small d 4 (by decide) hd.1
  have wa : IntKind.i64.wrap a = a := by rw [IntKind.wrap_i64]; omega
  have wb : IntKind.i64.wrap b = b := by rw [IntKind.wrap_i64]; omega
  have wd : IntKind.i64.wrap d = d := by rw [IntKind.wrap_i64]; omega
  obtain ⟨a6, ha6⟩ : ∃ a6, a.tmod 6 = a6 := ⟨_, rfl⟩
  obtain ⟨b8, hb8⟩ : ∃ b8, b.tmod 8 = b8 := ⟨_, rfl⟩
  obtain ⟨d4, hd4⟩ : ∃ d4, d.tmod 4 = d4 := ⟨_, rfl⟩
  rw [ha6] at hc ta
  rw [hb8] at hr tb
  rw [hd4] at hk td
  have wa6 : IntKind.i64.wrap a6 = a6 := by rw [IntKind.wrap_i64]; omega
  have wb8 : IntKind.i64.wrap b8 = b8 := by rw [IntKind.wrap_i64]; omega
  have wd4 : IntKind.i64.wrap d4 = d4 := by rw [IntKind.wrap_i64]; omega
  have wc : IntKind.i64.wrap (1 + a6) = (c : Int) := by rw [IntKind.wrap_i64]; omega
  have wr_ : IntKind.i64.wrap (1 + b8) = (r : Int) := by rw [IntKind.wrap_i64]; omega
  have wk : IntKind.i64.wrap (1 + d4) = (k : Int) := by rw [IntKind.wrap_i64]; omega
  have wrk : IntKind.i64.wrap ((r : Int) + (k : Int)) = (rk : Int) := by rw [IntKind.wrap_i64]; omega
  have HB := Lib.hid (show (1 ≤ c ∧ c ≤ 6) ∧ (1 ≤ r ∧ r ≤ 8) ∧ (1 ≤ k ∧ k ≤ 4) ∧ rk = r + k by omega)
  clear hc hr hk hrk ta tb td ha hb hd
  have HK := Lib.hid hK
  have HS := Lib.hid hS
  have sn0 : (SE != 0) = true := by rw [bne_iff_ne]; exact hne
  clear hK hS hne
  clear hw1 hL z0 z1 z2 z3 hz1
  go_enter Tryz.func12, Tryz.ntmps12
  go_wp2_with fail
  rw [← HW1.out]
  go_wp2_with fail
  refine wp_region_held_drew (S := (fun w' => Below w1.heap.size w1 w')) (by kernel_rfl) ?_ (fun hHeld => ?_)
  · exact below_drew BW
  refine wpAnyH_take (i := 0) (oi := _) (v := ?vra0) rfl (by kernel_rfl) (by kernel_rfl) (by kernel_rfl) (fun _ _ _ h => h) (Or.inl ⟨by rfl, ?hyra0⟩) (by assumption) ?restra0
  case hyra0 => (intro w hSw; (try dsimp only at hSw); go_simp; first | done | rfl)
  try simp only [layA]
  refine wpAnyH_take (i := 1) (oi := _) (v := ?vra1) rfl (by kernel_rfl) (by kernel_rfl) (by kernel_rfl) (fun _ _ _ h => h) (Or.inl ⟨by rfl, ?hyra1⟩) (by assumption) ?restra1
  case hyra1 => (intro w hSw; (try dsimp only at hSw); obtain ⟨s0, s1, s2, s3⟩ := Q hSw; go_simp; first | done | rfl)
  try simp only [layA]
  refine wpAnyH_take (i := 2) (oi := _) (v := ?vra2) rfl (by kernel_rfl) (by kernel_rfl) (by kernel_rfl) (fun _ _ _ h => h) (Or.inl ⟨by rfl, ?hyra2⟩) (by assumption) ?restra2
  case hyra2 => (intro w hSw; (try dsimp only at hSw); go_simp; first | done | rfl)
  try simp only [layA]
  refine wpAnyH_take (i := 3) (oi := _) (v := ?vra3) rfl (by kernel_rfl) (by kernel_rfl) (by kernel_rfl) (fun _ _ _ h => h) (Or.inl ⟨by rfl, ?hyra3⟩) (by assumption) ?restra3
  case hyra3 => (intro w hSw; (try dsimp only at hSw); go_simp; first | done | rfl)
  try simp only [layA]
  refine wpAnyH_take (i := 4) (oi := _) (v := ?vra4) rfl (by kernel_rfl) (by kernel_rfl) (by kernel_rfl) (fun _ _ _ h => h) (Or.inl ⟨by rfl, ?hyra4⟩) (by assumption) ?restra4
  case hyra4 => (intro w hSw; (try dsimp only at hSw); go_simp; first | done | rfl)
  try simp only [layA]
  refine wpAnyH_take (i := 5) (oi := _) (v := ?vra5) rfl (by kernel_rfl) (by kernel_rfl) (by kernel_rfl) (fun _ _ _ h => h) (Or.inl ⟨by rfl, ?hyra5⟩) (by assumption) ?restra5
  case hyra5 => (intro w hSw; (try dsimp only at hSw); go_simp; first | done | rfl)
  try simp only [layA]
  refine wpAnyH_take (i := 6) (oi := _) (v := ?vra6) rfl (by kernel_rfl) (by kernel_rfl) (by kernel_rfl) (fun _ _ _ h => h) (Or.inl ⟨by rfl, ?hyra6⟩) (by assumption) ?restra6
  case hyra6 => (intro w hSw; (try dsimp only at hSw); obtain ⟨s0, s1, s2, s3⟩ := Q hSw; go_simp; first | done | rfl)
  try simp only [layA]
  refine wpAnyH_take (i := 7) (oi := _) (v := ?vra7) rfl (by kernel_rfl) (by kernel_rfl) (by kernel_rfl) (fun _ _ _ h => h) (Or.inl ⟨by rfl, ?hyra7⟩) (by assumption) ?restra7
  case hyra7 => (intro w hSw; (try dsimp only at hSw); go_simp; first | done | rfl)
  try simp only [layA]
  refine wpAnyH_take (i := 8) (oi := _) (v := ?vra8) rfl (by kernel_rfl) (by kernel_rfl) (by kernel_rfl) (fun _ _ _ h => h) (Or.inl ⟨by rfl, ?hyra8⟩) (by assumption) ?restra8
  case hyra8 => (intro w hSw; (try dsimp only at hSw); go_simp; first | done | rfl)
  try simp only [layA]
  refine wpAnyH_take (i := 9) (oi := _) (v := ?vra9) rfl (by kernel_rfl) (by kernel_rfl) (by kernel_rfl) (fun _ _ _ h => h) (Or.inl ⟨by rfl, ?hyra9⟩) (by assumption) ?restra9
  case hyra9 => (intro w hSw; (try dsimp only at hSw); go_simp; first | done | rfl)
  try simp only [layA]
  refine wpAnyH_take (i := 10) (oi := _) (v := ?vra10) rfl (by kernel_rfl) (by kernel_rfl) (by kernel_rfl) (fun _ _ _ h => h) (Or.inl ⟨by rfl, ?hyra10⟩) (by assumption) ?restra10
  case hyra10 => (intro w hSw; (try dsimp only at hSw); go_simp; first | done | rfl)
  try simp only [layA]
  refine wpAnyH_take (i := 11) (oi := _) (v := ?vra11) rfl (by kernel_rfl) (by kernel_rfl) (by kernel_rfl) (fun _ _ _ h => h) (Or.inl ⟨by rfl, ?hyra11⟩) (by assumption) ?restra11
  case hyra11 => (intro w hSw; (try dsimp only at hSw); go_simp; first | done | rfl)
  try simp only [layA]
  refine wpAnyH_take (i := 12) (oi := _) (v := ?vra12) rfl (by kernel_rfl) (by kernel_rfl) (by kernel_rfl) (fun _ _ _ h => h) (Or.inl ⟨by rfl, ?hyra12⟩) (by assumption) ?restra12
  case hyra12 => (intro w hSw; (try dsimp only at hSw); go_simp; first | done | rfl)
  try simp only [layA]
  refine wpAnyH_take (i := 13) (oi := _) (v := ?vra13) rfl (by kernel_rfl) (by kernel_rfl) (by kernel_rfl) (fun _ _ _ h => h) (Or.inl ⟨by rfl, ?hyra13⟩) (by assumption) ?restra13
  case hyra13 => (intro w hSw; (try dsimp only at hSw); go_simp; first | done | rfl)
  try simp only [layA]
  refine wpAnyH_take (i := 14) (oi := _) (v := ?vra14) rfl (by kernel_rfl) (by kernel_rfl) (by kernel_rfl) (fun _ _ _ h => h) (Or.inl ⟨by rfl, ?hyra14⟩) (by assumption) ?restra14
  case hyra14 => (intro w hSw; (try dsimp only at hSw); go_simp; first | done | rfl)
  try simp only [layA]
  refine wpAnyH_take (i := 15) (oi := _) (v := ?vra15) rfl (by kernel_rfl) (by kernel_rfl) (by kernel_rfl) (fun _ _ _ h => h) (Or.inl ⟨by rfl, ?hyra15⟩) (by assumption) ?restra15
  case hyra15 => (intro w hSw; (try dsimp only at hSw); go_simp; first | done | rfl)
  try simp only [layA]
  refine wpAnyH_take (i := 16) (oi := _) (v := ?vra16) rfl (by kernel_rfl) (by kernel_rfl) (by kernel_rfl) (fun _ _ _ h => h) (Or.inl ⟨by rfl, ?hyra16⟩) (by assumption) ?restra16
  case hyra16 => (intro w hSw; (try dsimp only at hSw); go_simp; first | done | rfl)
  try simp only [layA]
  refine wpAnyH_done (by kernel_rfl) ?_ _
  replace BW := hHeld
  clear hHeld
  go_wp2_with fail
  refine (awake1 _ (HLL.out.below (fin BW) HLL.out.lt)).mono ?_
  rintro e w11 ⟨rfl, hb11⟩
  replace BW := hbT BW hb11
  clear hb11
  obtain ⟨s0, s1, s2, s3⟩ := Q BW
  go_wp2_with fail
  refine (refCheckKnot x y _).mono ?_
  rintro e w12 ⟨rfl, hb12⟩
  rw [HK.out]
  replace BW := hbT BW hb12
  clear hb12
  clear s0 s1 s2 s3
  obtain ⟨s0, s1, s2, s3⟩ := Q BW
  go_wp2_with fail
  refine (refCheckSheet x y c rk _).mono ?_
  rintro e w13 ⟨rfl, hb13⟩
  rw [HS.out]
  replace BW := hbT BW hb13
  clear hb13
  go_wp2_with fail
  refine (awake1 _ (HLL.out.below (fin BW) HLL.out.lt)).mono ?_
  rintro e w14 ⟨rfl, hb14⟩
  replace BW := hbT BW hb14
  clear hb14
  go_wp2
  go_ret
  exact ⟨rfl, fin BW⟩
end Go.Proofs.YtdeplhihcifmeaaGreatDoor

/- NettingRectangles: the way through (a draft: it is not whole). -/
namespace Go.Proofs.YtdeplhihcifmeaaGreatDoor
open Go.RowKit Go.Shelf Ck

theorem sheetNet {x y : Int} {c r : Nat} (hK : knotE x y = 0) (hE : sheetE x y c r = 0) : Net (sheetP x y c r) := by
  obtain ⟨-, -, h1, h2⟩ := sheetE_zero hE
  obtain ⟨g1, g2, g3, g4⟩ := knotE_zero hK
  have f1 := farB_no h1
  have f2 := farB_no h2
  exact sheet_net ⟨⟨g1, g2⟩, ⟨g3, g4⟩, knot_even hK⟩ ⟨by omega, by omega⟩ ⟨by omega, by omega⟩
theorem sheetE_less {x y : Int} {c r k : Nat} (hK : knotE x y = 0) (hc : 1 ≤ c ∧ c ≤ 6) (hr : 1 ≤ r ∧ r ≤ 8) (hE : sheetE x y c ((r + k : Nat) : Int) = 0) : sheetE x y c r = 0 := by
  obtain ⟨-, -, h1, h2⟩ := sheetE_zero hE
  obtain ⟨g1, g2, g3, g4⟩ := knotE_zero hK
  have f2 := farB_no h2
  have hm : 2 * (c : Int) * (r : Int) ≤ 4096 := by
    have : c * r ≤ 6 * 8 := Nat.mul_le_mul hc.2 hr.2
    have h3 : (c : Int) * (r : Int) ≤ 48 := by exact_mod_cast this
    rw [Int.mul_assoc]
    omega
  have s1 : sideR (c : Int) = 0 := by rw [sideR, if_neg (by omega)]
  have s2 : sideR (r : Int) = 0 := by rw [sideR, if_neg (by omega)]
  have e1 : sheet1 x y c r = 0 := by rw [sheet1, hK, s1, s2]; rfl
  rw [sheetE, if_pos e1, if_neg (by omega), h1, farB_of (by omega) (by omega)]
  rfl
theorem num_ok : ((List.range 7).all fun c => (List.range 9).all fun r => decide (1 ≤ c → 1 ≤ r → 2 * (c * r) + 1 = knN c r + meN c r ∧ knN c r ≤ 100 ∧ meN c r ≤ 100)) = true := by decide +kernel
theorem num_zero {c r : Nat} (hc : 1 ≤ c ∧ c ≤ 6) (hr : 1 ≤ r ∧ r ≤ 8) : 2 * (c * r) + 1 = knN c r + meN c r ∧ knN c r ≤ 100 ∧ meN c r ≤ 100 := by
  have h := List.all_eq_true.1 (List.all_eq_true.1 num_ok c (List.mem_range.2 (by omega))) r (List.mem_range.2 (by omega))
  exact of_decide_eq_true h hc.1 hr.1
def knS (c i : Nat) : Nat := ((List.range i).map fun q => c + 1 - q % 2).sum
theorem knS_succ (c i : Nat) : knS c (i + 1) = knS c i + (c + 1 - i % 2) := by simp [knS, List.range_succ]
theorem meN_succ (c i : Nat) (h : 1 ≤ i) : meN c (i + 1) = meN c i + (c - i % 2) := by
  simp only [meN, List.range_succ, List.map_append, List.sum_append, List.map_cons, List.map_nil, List.sum_cons, List.sum_nil]
  rw [if_neg (by omega)]
  omega
theorem knS_le (c : Nat) : ∀ i, knS c i ≤ (c + 1) * i
  | 0 => by simp [knS]
  | i + 1 => by
    have := knS_le c i
    rw [knS_succ, Nat.mul_succ]
    omega
theorem meN_le (c : Nat) : ∀ i, meN c i ≤ c * i
  | 0 => by simp [meN]
  | 0 + 1 => by simp [meN]
  | i + 1 + 1 => by
    have := meN_le c (i + 1)
    rw [meN_succ c (i + 1) (by omega), Nat.mul_succ]
    omega
structure RcP (x y : Int) (c r k rk : Nat) (S T R : List Bar) : Prop where
  rect : RectIs x y c r S
  rows : RowsIs c k S T R
  s : sheetP x y c r = S
  t : sheetP x y c rk = T
  eS : sheetE x y c r = 0
  eT : sheetE x y c rk = 0
  nT : Net T
  lT : T.length = 2 * (c * rk)
theorem rcPack {x y : Int} {c r k rk : Nat} (hc : 1 ≤ c ∧ c ≤ 6) (hr : 1 ≤ r ∧ r ≤ 8) (hrk : rk = r + k) (hK : knotE x y = 0) (hE : sheetE x y c rk = 0) : ∃ S T R, RcP x y c r k rk S T R := by
  subst hrk
  have e1 := sheetE_less hK hc hr hE
  have n1 := sheetNet hK e1
  have n2 := sheetNet hK hE
  obtain ⟨R, hR⟩ := rowsIs n1 n2
  exact ⟨_, _, R, rectIs hc.1 hc.2 hr.1 hr.2 (knot_even hK) n1, hR, rfl, rfl, e1, hE, n2, sheetP_length ..⟩
theorem netSheetS (x y : Int) (c r : Nat) (S : List Bar) (w : World) (hS : sheetP x y c r = S) (hE : sheetE x y c r = 0) :
    Calls Tryz.prog 39 #[.agg #[.int .i64 x, .int .i64 y], .int .i64 c, .int .i64 r] w (PairPost S w) := by
  subst hS
  exact (netSheet x y c r w hE).mono fun e w' ⟨v, he, hrow, hb⟩ => by
    obtain ⟨a, c', rfl, hok⟩ := own_oks hrow
    exact ⟨a, c', he, hok, hb⟩
theorem cntR (A : Option Addr) (cc c r k rk : Nat) (x y : Int) (S T R : List Bar) (w : World) (kn me sl : Int) (P : RcP x y c r k rk S T R) (hc : 1 ≤ c ∧ c ≤ 6) (hr : 1 ≤ r ∧ r ≤ 8) (hkn : kn = (knN c r : Nat)) (hme : me = (meN c r : Nat)) (hsl : sl = (S.length : Nat)) (h : OKS w A cc S) :
    Calls Tryz.prog 53 #[.slice A S.length cc] w fun e w' => e = .returned (.tuple #[.agg #[.int .i64 kn, .int .i64 sl, .int .i64 me, .int .i64 1, .int .i64 0], .int .i64 0]) ∧ Below w.heap.size w w' := by
  obtain ⟨G, hG, hp⟩ := P.rect.pa
  have hn := num_zero hc hr
  have hl := P.rect.len
  subst hsl
  exact countP' A cc S G w kn me 1 0 (by rw [hkn, P.rect.kn]) (by rw [hme, P.rect.me]) (by rw [hp]; rfl) (by omega) hG (by have : c * r ≤ 6 * 8 := Nat.mul_le_mul hc.2 hr.2; omega) P.rect.net h
set_option maxHeartbeats 8000000 in
set_option maxRecDepth 100000 in
theorem lawRcM (x y a b d : Int) (w : World) (hL : LaidLen w) (ha : 0 ≤ a ∧ a < 256) (hb : 0 ≤ b ∧ b < 256) (hd : 0 ≤ d ∧ d < 256) (c r k rk : Nat) (hc : (c : Int) = 1 + a.tmod 6) (hr : (r : Int) = 1 + b.tmod 8) (hk : (k : Int) = 1 + d.tmod 4) (hrk : rk = r + k) (hK : knotE x y = 0) (hS : sheetE x y c rk = 0) :
    Calls Tryz.prog 12 #[.agg #[.int .i64 x, .int .i64 y], .agg #[.int .u8 a, .int .u8 b], .int .u8 d] w fun e w' => e = .returned (.bool true) ∧ Below w.heap.size w w' := by
  have ex0 : ∀ (a b : Value) (w : World), (Instr.extract (.tuple #[a, b]) 0).run Tryz.prog w = .ok a w := fun _ _ _ => by kernel_rfl
  have ex1 : ∀ (a b : Value) (w : World), (Instr.extract (.tuple #[a, b]) 1).run Tryz.prog w = .ok b w := fun _ _ _ => by kernel_rfl
  obtain ⟨w1, hw1, hb1, hz1, z0, z1, z2, z3⟩ := twoBoxes w x y a b
  have Q : ∀ {W : World}, Below w1.heap.size w1 W → W.cell? ⟨w.heap.size, 0, none⟩ = some (.int .i64 x) ∧ W.cell? ⟨w.heap.size, 1, none⟩ = some (.int .i64 y) ∧ W.cell? ⟨w.heap.size + 1, 0, none⟩ = some (.int .u8 a) ∧ W.cell? ⟨w.heap.size + 1, 1, none⟩ = some (.int .u8 b) := fun hb => ⟨(hb.cell (p := ⟨w.heap.size, 0, none⟩) (by show w.heap.size < _; omega)).trans z0, (hb.cell (p := ⟨w.heap.size, 1, none⟩) (by show w.heap.size < _; omega)).trans z1, (hb.cell (p := ⟨w.heap.size + 1, 0, none⟩) (by show w.heap.size + 1 < _; omega)).trans z2, (hb.cell (p := ⟨w.heap.size + 1, 1, none⟩) (by show w.heap.size + 1 < _; omega)).trans z3⟩
  have HW1 := Lib.hid hw1
  have HLL := Lib.hid hL
  have fin : ∀ {W : World}, Below w1.heap.size w1 W → Below w.heap.size w W := fun hb => hb1.trans (hb.mono hb1.size)
  have BW := Below.refl w1.heap.size w1
  have ta := tmod_small a 6 (by decide) ha.1
  have tb := tmod_small b 8 (by decide) hb.1
  have td := tmod_small d 4 (by decide) hd.1
  have wa : IntKind.i64.wrap a = a := by rw [IntKind.wrap_i64]; omega
  have wb : IntKind.i64.wrap b = b := by rw [IntKind.wrap_i64]; omega
  have wd : IntKind.i64.wrap d = d := by rw [IntKind.wrap_i64]; omega
  obtain ⟨a6, ha6⟩ : ∃ a6, a.tmod 6 = a6 := ⟨_, rfl⟩
  obtain ⟨b8, hb8⟩ : ∃ b8, b.tmod 8 = b8 := ⟨_, rfl⟩
  obtain ⟨d4, hd4⟩ : ∃ d4, d.tmod 4 = d4 := ⟨_, rfl⟩
  rw [ha6] at hc ta
  rw [hb8] at hr tb
  rw [hd4] at hk td
  have wa6 : IntKind.i64.wrap a6 = a6 := by rw [IntKind.wrap_i64]; omega
  have wb8 : IntKind.i64.wrap b8 = b8 := by rw [IntKind.wrap_i64]; omega
  have wd4 : IntKind.i64.wrap d4 = d4 := by rw [IntKind.wrap_i64]; omega
  have wc : IntKind.i64.wrap (1 + a6) = (c : Int) := by rw [IntKind.wrap_i64]; omega
  have wr_ : IntKind.i64.wrap (1 + b8) = (r : Int) := by rw [IntKind.wrap_i64]; omega
  have wk : IntKind.i64.wrap (1 + d4) = (k : Int) := by rw [IntKind.wrap_i64]; omega
  have wrk : IntKind.i64.wrap ((r : Int) + (k : Int)) = (rk : Int) := by rw [IntKind.wrap_i64]; omega
  have HB := Lib.hid (show (1 ≤ c ∧ c ≤ 6) ∧ (1 ≤ r ∧ r ≤ 8) ∧ (1 ≤ k ∧ k ≤ 4) ∧ rk = r + k by omega)
  clear hc hr hk hrk ta tb td ha hb hd
  have HK := Lib.hid hK
  have HS := Lib.hid hS
  obtain ⟨hc, hr, hk, hrk⟩ := HB.out
  obtain ⟨S, T, R, P⟩ := rcPack hc hr hrk hK hS
  have HP := Lib.hid P
  have hSl := P.rect.len
  have hTl := P.lT
  have hRl := P.rows.len
  have hcr : c * r ≤ 6 * 8 := Nat.mul_le_mul hc.2 hr.2
  have hck : c * k ≤ 6 * 4 := Nat.mul_le_mul hc.2 hk.2
  have hcrk : c * rk ≤ 6 * 12 := Nat.mul_le_mul hc.2 (by omega)
  have hS4 : S.length ≤ 2000 := by omega
  have hT4 : T.length ≤ 2000 := by omega
  have hR4 : R.length ≤ 2000 := by omega
  have w2c : IntKind.i64.wrap (2 * (c : Int)) = 2 * (c : Int) := by rw [IntKind.wrap_i64]; omega
  have w2cr : IntKind.i64.wrap (2 * (c : Int) * (r : Int)) = (S.length : Int) := by rw [Int.mul_assoc, show (c : Int) * (r : Int) = ((c * r : Nat) : Int) by push_cast; rfl, IntKind.wrap_i64]; omega
  have w2ck : IntKind.i64.wrap (2 * (c : Int) * (k : Int)) = (R.length : Int) := by rw [Int.mul_assoc, show (c : Int) * (k : Int) = ((c * k : Nat) : Int) by push_cast; rfl, IntKind.wrap_i64]; omega
  have hrI : (r : Int) ≤ 8 := by omega
  have hr1I : (1 : Int) ≤ (r : Int) := by omega
  have hcI : (c : Int) ≤ 6 := by omega
  have hc1I : (1 : Int) ≤ (c : Int) := by omega
  have wc1 : IntKind.i64.wrap ((c : Int) + 1) = (c : Int) + 1 := by rw [IntKind.wrap_i64]; omega
  clear hK hS P hSl hTl hRl hcr hck hcrk hrk
  clear hw1 hL z0 z1 z2 z3 hz1
  go_enter Tryz.func12, Tryz.ntmps12
  go_wp2_with fail
  rw [← HW1.out]
  go_wp2_with fail
  refine wp_region_held_drew (S := (fun w' => Below w1.heap.size w1 w')) (by kernel_rfl) ?_ (fun hHeld => ?_)
  · exact below_drew BW
  refine wpAnyH_take (i := 0) (oi := _) (v := ?vra0) rfl (by kernel_rfl) (by kernel_rfl) (by kernel_rfl) (fun _ _ _ h => h) (Or.inl ⟨by rfl, ?hyra0⟩) (by assumption) ?restra0
  case hyra0 => (intro w hSw; (try dsimp only at hSw); go_simp; first | done | rfl)
  try simp only [layA]
  refine wpAnyH_take (i := 1) (oi := _) (v := ?vra1) rfl (by kernel_rfl) (by kernel_rfl) (by kernel_rfl) (fun _ _ _ h => h) (Or.inl ⟨by rfl, ?hyra1⟩) (by assumption) ?restra1
  case hyra1 => (intro w hSw; (try dsimp only at hSw); obtain ⟨s0, s1, s2, s3⟩ := Q hSw; go_simp; first | done | rfl)
  try simp only [layA]
  refine wpAnyH_take (i := 2) (oi := _) (v := ?vra2) rfl (by kernel_rfl) (by kernel_rfl) (by kernel_rfl) (fun _ _ _ h => h) (Or.inl ⟨by rfl, ?hyra2⟩) (by assumption) ?restra2
  case hyra2 => (intro w hSw; (try dsimp only at hSw); go_simp; first | done | rfl)
  try simp only [layA]
  refine wpAnyH_take (i := 3) (oi := _) (v := ?vra3) rfl (by kernel_rfl) (by kernel_rfl) (by kernel_rfl) (fun _ _ _ h => h) (Or.inl ⟨by rfl, ?hyra3⟩) (by assumption) ?restra3
  case hyra3 => (intro w hSw; (try dsimp only at hSw); go_simp; first | done | rfl)
  try simp only [layA]
  refine wpAnyH_take (i := 4) (oi := _) (v := ?vra4) rfl (by kernel_rfl) (by kernel_rfl) (by kernel_rfl) (fun _ _ _ h => h) (Or.inl ⟨by rfl, ?hyra4⟩) (by assumption) ?restra4
  case hyra4 => (intro w hSw; (try dsimp only at hSw); go_simp; first | done | rfl)
  try simp only [layA]
  refine wpAnyH_take (i := 5) (oi := _) (v := ?vra5) rfl (by kernel_rfl) (by kernel_rfl) (by kernel_rfl) (fun _ _ _ h => h) (Or.inl ⟨by rfl, ?hyra5⟩) (by assumption) ?restra5
  case hyra5 => (intro w hSw; (try dsimp only at hSw); go_simp; first | done | rfl)
  try simp only [layA]
  refine wpAnyH_take (i := 6) (oi := _) (v := ?vra6) rfl (by kernel_rfl) (by kernel_rfl) (by kernel_rfl) (fun _ _ _ h => h) (Or.inl ⟨by rfl, ?hyra6⟩) (by assumption) ?restra6
  case hyra6 => (intro w hSw; (try dsimp only at hSw); obtain ⟨s0, s1, s2, s3⟩ := Q hSw; go_simp; first | done | rfl)
  try simp only [layA]
  refine wpAnyH_take (i := 7) (oi := _) (v := ?vra7) rfl (by kernel_rfl) (by kernel_rfl) (by kernel_rfl) (fun _ _ _ h => h) (Or.inl ⟨by rfl, ?hyra7⟩) (by assumption) ?restra7
  case hyra7 => (intro w hSw; (try dsimp only at hSw); go_simp; first | done | rfl)
  try simp only [layA]
  refine wpAnyH_take (i := 8) (oi := _) (v := ?vra8) rfl (by kernel_rfl) (by kernel_rfl) (by kernel_rfl) (fun _ _ _ h => h) (Or.inl ⟨by rfl, ?hyra8⟩) (by assumption) ?restra8
  case hyra8 => (intro w hSw; (try dsimp only at hSw); go_simp; first | done | rfl)
  try simp only [layA]
  refine wpAnyH_take (i := 9) (oi := _) (v := ?vra9) rfl (by kernel_rfl) (by kernel_rfl) (by kernel_rfl) (fun _ _ _ h => h) (Or.inl ⟨by rfl, ?hyra9⟩) (by assumption) ?restra9
  case hyra9 => (intro w hSw; (try dsimp only at hSw); go_simp; first | done | rfl)
  try simp only [layA]
  refine wpAnyH_take (i := 10) (oi := _) (v := ?vra10) rfl (by kernel_rfl) (by kernel_rfl) (by kernel_rfl) (fun _ _ _ h => h) (Or.inl ⟨by rfl, ?hyra10⟩) (by assumption) ?restra10
  case hyra10 => (intro w hSw; (try dsimp only at hSw); go_simp; first | done | rfl)
  try simp only [layA]
  refine wpAnyH_take (i := 11) (oi := _) (v := ?vra11) rfl (by kernel_rfl) (by kernel_rfl) (by kernel_rfl) (fun _ _ _ h => h) (Or.inl ⟨by rfl, ?hyra11⟩) (by assumption) ?restra11
  case hyra11 => (intro w hSw; (try dsimp only at hSw); go_simp; first | done | rfl)
  try simp only [layA]
  refine wpAnyH_take (i := 12) (oi := _) (v := ?vra12) rfl (by kernel_rfl) (by kernel_rfl) (by kernel_rfl) (fun _ _ _ h => h) (Or.inl ⟨by rfl, ?hyra12⟩) (by assumption) ?restra12
  case hyra12 => (intro w hSw; (try dsimp only at hSw); go_simp; first | done | rfl)
  try simp only [layA]
  refine wpAnyH_take (i := 13) (oi := _) (v := ?vra13) rfl (by kernel_rfl) (by kernel_rfl) (by kernel_rfl) (fun _ _ _ h => h) (Or.inl ⟨by rfl, ?hyra13⟩) (by assumption) ?restra13
  case hyra13 => (intro w hSw; (try dsimp only at hSw); go_simp; first | done | rfl)
  try simp only [layA]
  refine wpAnyH_take (i := 14) (oi := _) (v := ?vra14) rfl (by kernel_rfl) (by kernel_rfl) (by kernel_rfl) (fun _ _ _ h => h) (Or.inl ⟨by rfl, ?hyra14⟩) (by assumption) ?restra14
  case hyra14 => (intro w hSw; (try dsimp only at hSw); go_simp; first | done | rfl)
  try simp only [layA]
  refine wpAnyH_take (i := 15) (oi := _) (v := ?vra15) rfl (by kernel_rfl) (by kernel_rfl) (by kernel_rfl) (fun _ _ _ h => h) (Or.inl ⟨by rfl, ?hyra15⟩) (by assumption) ?restra15
  case hyra15 => (intro w hSw; (try dsimp only at hSw); go_simp; first | done | rfl)
  try simp only [layA]
  refine wpAnyH_take (i := 16) (oi := _) (v := ?vra16) rfl (by kernel_rfl) (by kernel_rfl) (by kernel_rfl) (fun _ _ _ h => h) (Or.inl ⟨by rfl, ?hyra16⟩) (by assumption) ?restra16
  case hyra16 => (intro w hSw; (try dsimp only at hSw); go_simp; first | done | rfl)
  try simp only [layA]
  refine wpAnyH_done (by kernel_rfl) ?_ _
  replace BW := hHeld
  clear hHeld
  go_wp2_with fail
  refine (awake1 _ (HLL.out.below (fin BW) HLL.out.lt)).mono ?_
  rintro e w11 ⟨rfl, hb11⟩
  replace BW := hbT BW hb11
  clear hb11
  obtain ⟨s0, s1, s2, s3⟩ := Q BW
  go_wp2_with fail
  refine (refCheckKnot x y _).mono ?_
  rintro e w12 ⟨rfl, hb12⟩
  rw [HK.out]
  replace BW := hbT BW hb12
  clear hb12
  clear s0 s1 s2 s3
  obtain ⟨s0, s1, s2, s3⟩ := Q BW
  go_wp2_with fail
  refine (refCheckSheet x y c rk _).mono ?_
  rintro e w13 ⟨rfl, hb13⟩
  rw [HS.out]
  replace BW := hbT BW hb13
  clear hb13
  clear s0 s1 s2 s3
  obtain ⟨s0, s1, s2, s3⟩ := Q BW
  go_wp2_with fail
  refine (netSheetS x y c r S _ HP.out.s HP.out.eS).mono ?_
  rintro e w14 ⟨a14, c14, rfl, o14, hb14⟩
  replace BW := hbT BW hb14
  have O14 := Lib.hid o14
  clear o14 hb14
  go_wp2_with fail
  refine (lwCopied a14 c14 S _ (by omega) O14.out).mono ?_
  rintro e w15 ⟨a15, c15, rfl, o15, hb15⟩
  replace BW := hbT BW hb15
  replace O14 := Lib.hid (O14.out.below hb15)
  have O15 := Lib.hid o15
  clear o15 hb15
  go_wp2_with fail
  refine (cntR a15 c15 c r k rk x y S T R _ ((knN c r : Nat) : Int) ((meN c r : Nat) : Int) (S.length : Int) HP.out hc hr rfl rfl rfl O15.out).mono ?_
  rintro e w16 ⟨rfl, hb16⟩
  replace BW := hbT BW hb16
  replace O14 := Lib.hid (O14.out.below hb16)
  replace O15 := Lib.hid (O15.out.below hb16)
  clear hb16
  clear O15
  go_wp2_with fail
  obtain ⟨w17, hw, LG, hbq, LZ⟩ := box5H w16 (.int .i64 ((knN c r : Nat) : Int)) (.int .i64 (S.length : Int)) (.int .i64 ((meN c r : Nat) : Int)) (.int .i64 1) (.int .i64 0) 86
  rw [← hw]
  have LC := Lib.hid (show FiveC w17 w16.heap.size #[.int .i64 ((knN c r : Nat) : Int), .int .i64 (S.length : Int), .int .i64 ((meN c r : Nat) : Int), .int .i64 1, .int .i64 0] from ⟨by omega, LG⟩)
  replace BW := hbT BW hbq
  replace O14 := Lib.hid (O14.out.below hbq)
  clear hw LZ LG hbq
  generalize w16.heap.size = BC at *
  clear s0 s1 s2 s3
  go_wp2_with fail
  go_loopw [14, 15] (fun sv iv wr => ∃ i : Nat, 1 ≤ i ∧ i ≤ r ∧ iv = .int .i64 i ∧ sv = .int .i64 ((meN c i : Nat) : Int) ∧ w17 = wr) (fun _ iv _ => r - (intOf iv).toNat)
  case atStart => exact ⟨1, by omega, by omega, rfl, by simp [meN], rfl⟩
  case round =>
    obtain ⟨i, hi0, hi, rfl, rfl, rfl⟩ := hrel
    by_cases hlt : i < r
    · have hiI : (i : Int) < (r : Int) := by omega
      have hi0I : (0 : Int) ≤ (i : Int) := by omega
      have hi8 : (i : Int) ≤ 9 := by omega
      obtain ⟨m, hm⟩ : ∃ m : Nat, i % 2 = m := ⟨_, rfl⟩
      have tm : (i : Int).tmod 2 = (m : Int) := by rw [Int.tmod_eq_emod_of_nonneg (by omega)]; omega
      have wm : IntKind.i64.wrap (m : Int) = (m : Int) := by rw [IntKind.wrap_i64]; omega
      obtain ⟨sv, hsv⟩ : ∃ sv, meN c i = sv := ⟨_, rfl⟩
      have hs1 := meN_succ c i hi0
      rw [hm, hsv] at hs1
      have hsb := meN_le c i
      rw [hsv] at hsb
      have hsb2 : c * i ≤ 7 * 9 := Nat.mul_le_mul (by omega) (by omega)
      obtain ⟨dd, hdd⟩ : ∃ dd : Nat, c - m = dd := ⟨_, rfl⟩
      rw [hdd] at hs1
      have wd1 : IntKind.i64.wrap ((c : Int) - (m : Int)) = (dd : Int) := by rw [IntKind.wrap_i64]; omega
      have wd2 : IntKind.i64.wrap ((sv : Int) + (dd : Int)) = (sv : Int) + (dd : Int) := by rw [IntKind.wrap_i64]; omega
      have HS1 := Lib.hid hs1
      rw [hsv]
      clear hs1 hsb hsb2 hm hdd hsv
      go_wp2
      go_roundw
      case rel => exact ⟨i + 1, by omega, by omega, by go_num, by rw [HS1.out]; go_num, trivial⟩
      case measure => simp [intOf]; omega
    · have e9 : i = r := by omega
      have hlt9 : ¬ (i : Int) < (r : Int) := by omega
      go_wp2_with fail
      have e10 := e9
      clear e9 hlt9 hlt hi0 hi
      go_loopw [16, 17] (fun sv iv wr => ∃ i : Nat, 0 ≤ i ∧ i ≤ (r + 1) ∧ iv = .int .i64 i ∧ sv = .int .i64 ((knS c i : Nat) : Int) ∧ w17 = wr) (fun _ iv _ => (r + 1) - (intOf iv).toNat)
      case atStart => exact ⟨0, by omega, by omega, rfl, by simp [knS], rfl⟩
      case round =>
        obtain ⟨i, hi0, hi, rfl, rfl, rfl⟩ := hrel
        by_cases hlt : i < (r + 1)
        · have hiI : (i : Int) ≤ (r : Int) := by omega
          have hi0I : (0 : Int) ≤ (i : Int) := by omega
          have hi8 : (i : Int) ≤ 9 := by omega
          obtain ⟨m, hm⟩ : ∃ m : Nat, i % 2 = m := ⟨_, rfl⟩
          have tm : (i : Int).tmod 2 = (m : Int) := by rw [Int.tmod_eq_emod_of_nonneg (by omega)]; omega
          have wm : IntKind.i64.wrap (m : Int) = (m : Int) := by rw [IntKind.wrap_i64]; omega
          obtain ⟨sv, hsv⟩ : ∃ sv, knS c i = sv := ⟨_, rfl⟩
          have hs1 := knS_succ c i
          rw [hm, hsv] at hs1
          have hsb := knS_le c i
          rw [hsv] at hsb
          have hsb2 : (c + 1) * i ≤ 7 * 9 := Nat.mul_le_mul (by omega) (by omega)
          obtain ⟨dd, hdd⟩ : ∃ dd : Nat, (c + 1) - m = dd := ⟨_, rfl⟩
          rw [hdd] at hs1
          have wd1 : IntKind.i64.wrap ((c : Int) + 1 - (m : Int)) = (dd : Int) := by rw [IntKind.wrap_i64]; omega
          have wd2 : IntKind.i64.wrap ((sv : Int) + (dd : Int)) = (sv : Int) + (dd : Int) := by rw [IntKind.wrap_i64]; omega
          have HS1 := Lib.hid hs1
          rw [hsv]
          clear hs1 hsb hsb2 hm hdd hsv
          go_wp2
          go_roundw
          case rel => exact ⟨i + 1, by omega, by omega, by go_num, by rw [HS1.out]; go_num, trivial⟩
          case measure => simp [intOf]; omega
        · have e9 : i = (r + 1) := by omega
          have hlt9 : ¬ (i : Int) ≤ (r : Int) := by omega
          have hkk : knS c (r + 1) = knN c r := rfl
          obtain ⟨x0, x1, x2, x3, x4⟩ := LC.out.at5
          have qc := eqCountsSame ((knN c r : Nat) : Int) (S.length : Int) ((meN c r : Nat) : Int) 1 0
          have hxy := knotE_zero HK.out
          obtain ⟨-, -, fx, fy⟩ := sheetE_zero HP.out.eS
          replace fx := farB_no fx
          replace fy := farB_no fy
          obtain ⟨s0, s1, s2, s3⟩ := Q BW
          have wy1 : IntKind.i64.wrap (y + 1) = y + 1 := by rw [IntKind.wrap_i64]; omega
          have wx1 : IntKind.i64.wrap (x + 1) = x + 1 := by rw [IntKind.wrap_i64]; omega
          have wyr : IntKind.i64.wrap (y + (r : Int)) = y + (r : Int) := by rw [IntKind.wrap_i64]; omega
          have wx2 : IntKind.i64.wrap (x + 2 * (c : Int)) = x + 2 * (c : Int) := by rw [IntKind.wrap_i64]; omega
          go_wp2_with fail
          obtain ⟨wL, hwL⟩ : ∃ wL, wL = w17 := ⟨_, rfl⟩
          have HWL := Lib.hid hwL
          clear hwL x0 x1 x2 x3 x4 s0 s1 s2 s3 qc
          go_loopw [6, 18, 19, 20, 21] (fun _ yv _ _ _ wr => ∃ j : Nat, 1 ≤ j ∧ j ≤ r ∧ yv = .int .i64 (y + (j : Int)) ∧ Below wL.heap.size wL wr) (fun _ yv _ _ _ _ => (y + (r : Int) - intOf yv).toNat)
          case atStart => exact ⟨1, by omega, by omega, by simp, by rw [HWL.out]; exact Below.refl _ _⟩
          case round =>
            have hWL := HWL.out
            subst hWL
            obtain ⟨j, hj1, hj, rfl, hbj⟩ := hrel
            obtain ⟨s0, s1, s2, s3⟩ := Q (hbT BW hbj)
            by_cases hlj : j < r
            · have hljI : (j : Int) < (r : Int) := by omega
              have hljY : y + (j : Int) < y + (r : Int) := by omega
              go_wp2_with fail
              go_loopw [6, 19, 20, 21] (fun _ xv _ _ wr => ∃ i : Nat, 1 ≤ i ∧ i ≤ 2 * c ∧ xv = .int .i64 (x + (i : Int)) ∧ Below wL.heap.size wL wr) (fun _ xv _ _ _ => (x + 2 * (c : Int) - intOf xv).toNat)
              case atStart => exact ⟨1, by omega, by omega, by simp, hbj⟩
              case round =>
                obtain ⟨i, hi1, hi, rfl, hbi⟩ := hrel
                clear s0 s1 s2 s3
                obtain ⟨s0, s1, s2, s3⟩ := Q (hbT BW hbi)
                have OI := Lib.hid (O14.out.below hbi)
                by_cases hli : i < 2 * c
                · have hliI : (i : Int) < 2 * (c : Int) := by omega
                  have hliX : x + (i : Int) < x + 2 * (c : Int) := by omega
                  have wxi : IntKind.i64.wrap (x + (i : Int) + 1) = x + (i : Int) + 1 := by rw [IntKind.wrap_i64]; omega
                  have wz : IntKind.i64.wrap (x + (i : Int) + (y + (j : Int))) = x + (i : Int) + (y + (j : Int)) := by rw [IntKind.wrap_i64]; omega
                  by_cases hz : (x + (i : Int) + (y + (j : Int))) % 2 = 0
                  · have tz : (x + (i : Int) + (y + (j : Int))).tmod 2 = 0 := (Int.dvd_iff_tmod_eq_zero).1 (Int.dvd_of_emod_eq_zero hz)
                    have HD4 := Lib.hid (HP.out.rect.dg (x + (i : Int)) (y + (j : Int)) (by omega) (by omega) (by omega) (by omega) (by omega))
                    have HKI := Lib.hid (show knotE (x + (i : Int)) (y + (j : Int)) = 0 by rw [knotE, farB_of (by omega) (by omega), farB_of (by omega) (by omega), evenB, if_neg (by simp), if_neg (by simp), if_pos (by rw [decide_eq_true_eq]; exact hz)])
                    clear hz
                    go_wp2_with fail
                    refine (lwCopied a14 c14 S _ (by omega) OI.out).mono ?_
                    rintro e w70 ⟨a70, c70, rfl, o70, hb70⟩
                    have O70 := Lib.hid o70
                    replace hbi := hbT hbi hb70
                    clear o70 hb70
                    go_wp2_with fail
                    refine (netDegreeOk a70 c70 S (x + (i : Int)) (y + (j : Int)) 4 _ HD4.out (by omega) HP.out.rect.net HKI.out O70.out).mono ?_
                    rintro e w71 ⟨rfl, hb71⟩
                    replace hbi := hbT hbi hb71
                    clear hb71 O70 OI
                    obtain ⟨t0, t1, t2, t3⟩ := Q (hbT BW hbi)
                    go_wp2
                    go_roundw
                    case rel => exact ⟨i + 1, by omega, by omega, by go_num, hbi⟩
                    case measure => simp [intOf]; omega
                  · have tz : ((x + (i : Int) + (y + (j : Int))).tmod 2 == 0) = false := by
                      rw [beq_eq_false_iff_ne]
                      intro h
                      exact hz (Int.emod_eq_zero_of_dvd ((Int.dvd_iff_tmod_eq_zero).2 h))
                    obtain ⟨tt, htt⟩ : ∃ tt, (x + (i : Int) + (y + (j : Int))).tmod 2 = tt := ⟨_, rfl⟩
                    have hb := Int.lt_tmod_of_pos (x + (i : Int) + (y + (j : Int))) (show (0 : Int) < 2 by decide)
                    have hb2 := Int.tmod_lt_of_pos (x + (i : Int) + (y + (j : Int))) (show (0 : Int) < 2 by decide)
                    rw [htt] at tz hb hb2
                    have wt : IntKind.i64.wrap tt = tt := by rw [IntKind.wrap_i64]; omega
                    have tn : (tt != 0) = true := by rw [bne, tz]; rfl
                    clear hz tz hb hb2 OI
                    go_wp2
                    go_roundw
                    case rel => exact ⟨i + 1, by omega, by omega, by go_num, hbi⟩
                    case measure => simp [intOf]; omega
                · have hi9 : i = 2 * c := by omega
                  have wyj : IntKind.i64.wrap (y + (j : Int) + 1) = y + (j : Int) + 1 := by rw [IntKind.wrap_i64]; omega
                  have hliI : ¬ (i : Int) < 2 * (c : Int) := by omega
                  have hliX : ¬ x + (i : Int) < x + 2 * (c : Int) := by omega
                  clear hi9 hli
                  go_wp2
                  go_roundw
                  case rel => exact ⟨j + 1, by omega, by omega, by go_num, hbi⟩
                  case measure => simp [intOf]; omega
            · have hj9 : j = r := by omega
              have hljI : ¬ (j : Int) < (r : Int) := by omega
              have hljY : ¬ y + (j : Int) < y + (r : Int) := by omega
              clear hj9 hlj hj hj1
              replace BW := hbT BW hbj
              replace O14 := Lib.hid (O14.out.below hbj)
              clear hbj LC
              go_wp2_with fail
              go_wp2_with fail
              refine (netSheetS x y c rk T _ HP.out.t HP.out.eT).mono ?_
              rintro e w81 ⟨a81, c81, rfl, o81, hb81⟩
              replace BW := hbT BW hb81
              replace O14 := Lib.hid (O14.out.below hb81)
              have O81 := Lib.hid o81
              clear o81 hb81
              go_wp2_with fail
              refine (lwCopied a81 c81 T _ (by omega) O81.out).mono ?_
              rintro e w82 ⟨a82, c82, rfl, o82, hb82⟩
              replace BW := hbT BW hb82
              replace O14 := Lib.hid (O14.out.below hb82)
              replace O81 := Lib.hid (O81.out.below hb82)
              have O82 := Lib.hid o82
              clear o82 hb82
              go_wp2_with fail
              refine (lwCopied a14 c14 S _ (by omega) O14.out).mono ?_
              rintro e w83 ⟨a83, c83, rfl, o83, hb83⟩
              replace BW := hbT BW hb83
              replace O14 := Lib.hid (O14.out.below hb83)
              replace O81 := Lib.hid (O81.out.below hb83)
              replace O82 := Lib.hid (O82.out.below hb83)
              have O83 := Lib.hid o83
              clear o83 hb83
              go_wp2_with fail
              refine (minusS a82 a83 c82 c83 T S R _ HP.out.rows.mi hT4 hS4 HP.out.nT HP.out.rect.net O82.out O83.out).mono ?_
              rintro e w84 ⟨a84, c84, rfl, o84, hb84⟩
              replace BW := hbT BW hb84
              replace O14 := Lib.hid (O14.out.below hb84)
              replace O81 := Lib.hid (O81.out.below hb84)
              replace O82 := Lib.hid (O82.out.below hb84)
              replace O83 := Lib.hid (O83.out.below hb84)
              have O84 := Lib.hid o84
              clear o84 hb84
              clear O82
              clear O83
              go_wp2_with fail
              refine (lwCopied a84 c84 R _ (by omega) O84.out).mono ?_
              rintro e w85 ⟨a85, c85, rfl, o85, hb85⟩
              replace BW := hbT BW hb85
              replace O14 := Lib.hid (O14.out.below hb85)
              replace O81 := Lib.hid (O81.out.below hb85)
              replace O84 := Lib.hid (O84.out.below hb85)
              have O85 := Lib.hid o85
              clear o85 hb85
              go_wp2_with fail
              refine (lwCopied a14 c14 S _ (by omega) O14.out).mono ?_
              rintro e w86 ⟨a86, c86, rfl, o86, hb86⟩
              replace BW := hbT BW hb86
              replace O14 := Lib.hid (O14.out.below hb86)
              replace O81 := Lib.hid (O81.out.below hb86)
              replace O84 := Lib.hid (O84.out.below hb86)
              replace O85 := Lib.hid (O85.out.below hb86)
              have O86 := Lib.hid o86
              clear o86 hb86
              go_wp2_with fail
              refine (unionS a85 a86 c85 c86 R S T _ HP.out.rows.un hR4 hS4 HP.out.rows.net HP.out.rect.net O85.out O86.out).mono ?_
              rintro e w87 ⟨a87, c87, rfl, o87, hb87⟩
              replace BW := hbT BW hb87
              replace O14 := Lib.hid (O14.out.below hb87)
              replace O81 := Lib.hid (O81.out.below hb87)
              replace O84 := Lib.hid (O84.out.below hb87)
              replace O85 := Lib.hid (O85.out.below hb87)
              replace O86 := Lib.hid (O86.out.below hb87)
              have O87 := Lib.hid o87
              clear o87 hb87
              clear O85
              clear O86
              go_wp2_with fail
              refine (lwCopied a84 c84 R _ (by omega) O84.out).mono ?_
              rintro e w88 ⟨a88, c88, rfl, o88, hb88⟩
              replace BW := hbT BW hb88
              replace O14 := Lib.hid (O14.out.below hb88)
              replace O81 := Lib.hid (O81.out.below hb88)
              replace O84 := Lib.hid (O84.out.below hb88)
              replace O87 := Lib.hid (O87.out.below hb88)
              have O88 := Lib.hid o88
              clear o88 hb88
              go_wp2_with fail
              refine (lwCopied a14 c14 S _ (by omega) O14.out).mono ?_
              rintro e w89 ⟨a89, c89, rfl, o89, hb89⟩
              replace BW := hbT BW hb89
              replace O14 := Lib.hid (O14.out.below hb89)
              replace O81 := Lib.hid (O81.out.below hb89)
              replace O84 := Lib.hid (O84.out.below hb89)
              replace O87 := Lib.hid (O87.out.below hb89)
              replace O88 := Lib.hid (O88.out.below hb89)
              have O89 := Lib.hid o89
              clear o89 hb89
              go_wp2_with fail
              refine (meetS a88 a89 c88 c89 R S [] _ HP.out.rows.me hR4 hS4 HP.out.rows.net HP.out.rect.net O88.out O89.out).mono ?_
              rintro e w90 ⟨a90, c90, rfl, o90, hb90⟩
              replace BW := hbT BW hb90
              replace O14 := Lib.hid (O14.out.below hb90)
              replace O81 := Lib.hid (O81.out.below hb90)
              replace O84 := Lib.hid (O84.out.below hb90)
              replace O87 := Lib.hid (O87.out.below hb90)
              replace O88 := Lib.hid (O88.out.below hb90)
              replace O89 := Lib.hid (O89.out.below hb90)
              have O90 := Lib.hid o90
              clear o90 hb90
              clear O88
              clear O89
              go_wp2_with fail
              refine (refSameNet a87 a81 c87 c81 T _ (by omega) O87.out.2.2.2 O81.out.2.2.2).mono ?_
              rintro e w91 ⟨rfl, hb91⟩
              replace BW := hbT BW hb91
              replace O14 := Lib.hid (O14.out.below hb91)
              replace O81 := Lib.hid (O81.out.below hb91)
              replace O84 := Lib.hid (O84.out.below hb91)
              replace O87 := Lib.hid (O87.out.below hb91)
              replace O90 := Lib.hid (O90.out.below hb91)
              clear hb91
              obtain ⟨rm, hrm⟩ : ∃ rm : Nat, r % 2 = rm := ⟨_, rfl⟩
              have trm : (r : Int).tmod 2 = (rm : Int) := by rw [Int.tmod_eq_emod_of_nonneg (by omega)]; omega
              have wrm : IntKind.i64.wrap (rm : Int) = (rm : Int) := by rw [IntKind.wrap_i64]; omega
              by_cases hodd : rm = 1
              · have ro : ((rm : Int) == 1) = true := by rw [beq_iff_eq]; omega
                clear hrm hodd
                go_wp2
                go_ret
                exact ⟨rfl, fin BW⟩
              · have ro : ((rm : Int) == 1) = false := by rw [beq_eq_false_iff_ne]; omega
                have HTN := Lib.hid (HP.out.rect.ht (by omega))
                obtain ⟨T2, hT2⟩ : ∃ T2, turnN 2 S = T2 := ⟨_, rfl⟩
                have HT2 := Lib.hid hT2
                have HT2N := Lib.hid (show Net T2 by rw [← hT2]; exact ⟨turnN_ok HP.out.rect.net.1 2, turn_net HP.out.rect.net 2⟩)
                have hT24 : T2.length ≤ 4096 := by rw [← hT2, turnN_length]; omega
                rw [hT2] at HTN
                obtain ⟨X1, hX1⟩ : ∃ X1, 2 * x + 2 * (c : Int) = X1 := ⟨_, rfl⟩
                obtain ⟨Y1, hY1⟩ : ∃ Y1, 2 * y + (r : Int) = Y1 := ⟨_, rfl⟩
                rw [hX1, hY1] at HTN
                have v1 : IntKind.i64.wrap (2 * x) = 2 * x := by rw [IntKind.wrap_i64]; omega
                have v2 : IntKind.i64.wrap (2 * y) = 2 * y := by rw [IntKind.wrap_i64]; omega
                have v3 : IntKind.i64.wrap (2 * x + 2 * (c : Int)) = X1 := by rw [IntKind.wrap_i64]; omega
                have v4 : IntKind.i64.wrap (2 * y + (r : Int)) = Y1 := by rw [IntKind.wrap_i64]; omega
                clear hrm hodd hT2 hX1 hY1
                go_wp2_with fail
                refine (lwCopied a14 c14 S _ (by omega) O14.out).mono ?_
                rintro e w92 ⟨a92, c92, rfl, o92, hb92⟩
                replace BW := hbT BW hb92
                replace O14 := Lib.hid (O14.out.below hb92)
                have O92 := Lib.hid o92
                clear o92 hb92
                go_wp2_with fail
                refine (netTurnS a92 c92 2 2 S T2 2 _ HT2.out (by omega) rfl rfl HP.out.rect.net O92.out).mono ?_
                rintro e w93 ⟨a93, c93, rfl, o93, hb93⟩
                replace BW := hbT BW hb93
                replace O14 := Lib.hid (O14.out.below hb93)
                replace O92 := Lib.hid (O92.out.below hb93)
                have O93 := Lib.hid o93
                clear o93 hb93
                clear O92
                go_wp2_with fail
                have Q41 : ∀ {W : World}, Below w93.heap.size w93 W → W.cell? ⟨w.heap.size, 0, none⟩ = some (.int .i64 x) ∧ W.cell? ⟨w.heap.size, 1, none⟩ = some (.int .i64 y) := fun hb => ⟨(Q (hbT BW hb)).1, (Q (hbT BW hb)).2.1⟩
                refine wp_region_held_drew (S := (fun w' => Below w93.heap.size w93 w')) (by kernel_rfl) ?_ (fun hHeld => ?_)
                · exact below_drew (Below.refl _ _)
                refine wpAnyH_take (i := 0) (oi := _) (v := ?vre0) rfl (by kernel_rfl) (by kernel_rfl) (by kernel_rfl) (fun _ _ _ h => h) (Or.inl ⟨by rfl, ?hyre0⟩) (by assumption) ?restre0
                case hyre0 => (intro w hSw; (try dsimp only at hSw); go_simp; first | done | rfl)
                try simp only [layA]
                refine wpAnyH_take (i := 1) (oi := _) (v := ?vre1) rfl (by kernel_rfl) (by kernel_rfl) (by kernel_rfl) (fun _ _ _ h => h) (Or.inl ⟨by rfl, ?hyre1⟩) (by assumption) ?restre1
                case hyre1 => (intro w hSw; (try dsimp only at hSw); obtain ⟨s0, s1⟩ := Q41 hSw; go_simp; first | done | rfl)
                try simp only [layA]
                refine wpAnyH_take (i := 2) (oi := _) (v := ?vre2) rfl (by kernel_rfl) (by kernel_rfl) (by kernel_rfl) (fun _ _ _ h => h) (Or.inl ⟨by rfl, ?hyre2⟩) (by assumption) ?restre2
                case hyre2 => (intro w hSw; (try dsimp only at hSw); go_simp; first | done | rfl)
                try simp only [layA]
                refine wpAnyH_take (i := 3) (oi := _) (v := ?vre3) rfl (by kernel_rfl) (by kernel_rfl) (by kernel_rfl) (fun _ _ _ h => h) (Or.inl ⟨by rfl, ?hyre3⟩) (by assumption) ?restre3
                case hyre3 => (intro w hSw; (try dsimp only at hSw); go_simp; first | done | rfl)
                try simp only [layA]
                refine wpAnyH_take (i := 4) (oi := _) (v := ?vre4) rfl (by kernel_rfl) (by kernel_rfl) (by kernel_rfl) (fun _ _ _ h => h) (Or.inl ⟨by rfl, ?hyre4⟩) (by assumption) ?restre4
                case hyre4 => (intro w hSw; (try dsimp only at hSw); go_simp; first | done | rfl)
                try simp only [layA]
                refine wpAnyH_take (i := 5) (oi := _) (v := ?vre5) rfl (by kernel_rfl) (by kernel_rfl) (by kernel_rfl) (fun _ _ _ h => h) (Or.inl ⟨by rfl, ?hyre5⟩) (by assumption) ?restre5
                case hyre5 => (intro w hSw; (try dsimp only at hSw); go_simp; first | done | rfl)
                try simp only [layA]
                refine wpAnyH_take (i := 6) (oi := _) (v := ?vre6) rfl (by kernel_rfl) (by kernel_rfl) (by kernel_rfl) (fun _ _ _ h => h) (Or.inl ⟨by rfl, ?hyre6⟩) (by assumption) ?restre6
                case hyre6 => (intro w hSw; (try dsimp only at hSw); go_simp; first | done | rfl)
                try simp only [layA]
                refine wpAnyH_take (i := 7) (oi := _) (v := ?vre7) rfl (by kernel_rfl) (by kernel_rfl) (by kernel_rfl) (fun _ _ _ h => h) (Or.inl ⟨by rfl, ?hyre7⟩) (by assumption) ?restre7
                case hyre7 => (intro w hSw; (try dsimp only at hSw); obtain ⟨s0, s1⟩ := Q41 hSw; go_simp; first | done | rfl)
                try simp only [layA]
                refine wpAnyH_take (i := 8) (oi := _) (v := ?vre8) rfl (by kernel_rfl) (by kernel_rfl) (by kernel_rfl) (fun _ _ _ h => h) (Or.inl ⟨by rfl, ?hyre8⟩) (by assumption) ?restre8
                case hyre8 => (intro w hSw; (try dsimp only at hSw); go_simp; first | done | rfl)
                try simp only [layA]
                refine wpAnyH_take (i := 9) (oi := _) (v := ?vre9) rfl (by kernel_rfl) (by kernel_rfl) (by kernel_rfl) (fun _ _ _ h => h) (Or.inl ⟨by rfl, ?hyre9⟩) (by assumption) ?restre9
                case hyre9 => (intro w hSw; (try dsimp only at hSw); go_simp; first | done | rfl)
                try simp only [layA]
                refine wpAnyH_take (i := 10) (oi := _) (v := ?vre10) rfl (by kernel_rfl) (by kernel_rfl) (by kernel_rfl) (fun _ _ _ h => h) (Or.inl ⟨by rfl, ?hyre10⟩) (by assumption) ?restre10
                case hyre10 => (intro w hSw; (try dsimp only at hSw); go_simp; first | done | rfl)
                try simp only [layA]
                refine wpAnyH_take (i := 11) (oi := _) (v := ?vre11) rfl (by kernel_rfl) (by kernel_rfl) (by kernel_rfl) (fun _ _ _ h => h) (Or.inl ⟨by rfl, ?hyre11⟩) (by assumption) ?restre11
                case hyre11 => (intro w hSw; (try dsimp only at hSw); go_simp; first | done | rfl)
                try simp only [layA]
                refine wpAnyH_take (i := 12) (oi := _) (v := ?vre12) rfl (by kernel_rfl) (by kernel_rfl) (by kernel_rfl) (fun _ _ _ h => h) (Or.inl ⟨by rfl, ?hyre12⟩) (by assumption) ?restre12
                case hyre12 => (intro w hSw; (try dsimp only at hSw); go_simp; first | done | rfl)
                try simp only [layA]
                refine wpAnyH_done (by kernel_rfl) ?_ _
                replace BW := hbT BW hHeld
                replace O14 := Lib.hid (O14.out.below hHeld)
                replace O93 := Lib.hid (O93.out.below hHeld)
                clear hHeld Q41
                obtain ⟨KE, hKE⟩ : ∃ KE, knotE X1 Y1 = KE := ⟨_, rfl⟩
                have HKE := Lib.hid hKE
                by_cases hk0 : KE = 0
                · subst hk0
                  clear hKE
                  go_wp2_with fail
                  refine (refCheckKnot X1 Y1 _).mono ?_
                  rintro e w94 ⟨rfl, hb94⟩
                  rw [HKE.out]
                  replace BW := hbT BW hb94
                  replace O14 := Lib.hid (O14.out.below hb94)
                  replace O93 := Lib.hid (O93.out.below hb94)
                  clear hb94
                  go_wp2_with fail
                  refine (lwCopied a93 c93 T2 _ (by omega) O93.out).mono ?_
                  rintro e w95 ⟨a95, c95, rfl, o95, hb95⟩
                  replace BW := hbT BW hb95
                  replace O14 := Lib.hid (O14.out.below hb95)
                  replace O93 := Lib.hid (O93.out.below hb95)
                  have O95 := Lib.hid o95
                  clear o95 hb95
                  go_wp2_with fail
                  refine (netShiftS a95 c95 T2 S X1 Y1 _ HTN.out hT24 HT2N.out HP.out.rect.net HKE.out O95.out).mono ?_
                  rintro e w96 ⟨a96, c96, rfl, o96, hb96⟩
                  replace BW := hbT BW hb96
                  replace O14 := Lib.hid (O14.out.below hb96)
                  replace O93 := Lib.hid (O93.out.below hb96)
                  replace O95 := Lib.hid (O95.out.below hb96)
                  have O96 := Lib.hid o96
                  clear o96 hb96
                  go_wp2_with fail
                  refine (refSameNet a96 a14 c96 c14 S _ (by omega) O96.out.2.2.2 O14.out.2.2.2).mono ?_
                  rintro e w97 ⟨rfl, hb97⟩
                  replace BW := hbT BW hb97
                  replace O14 := Lib.hid (O14.out.below hb97)
                  replace O93 := Lib.hid (O93.out.below hb97)
                  replace O95 := Lib.hid (O95.out.below hb97)
                  replace O96 := Lib.hid (O96.out.below hb97)
                  clear hb97
                  go_wp2
                  go_ret
                  exact ⟨rfl, fin BW⟩
                · have kz : (KE != 0) = true := by rw [bne_iff_ne]; exact hk0
                  clear hKE hk0
                  go_wp2_with fail
                  refine (refCheckKnot X1 Y1 _).mono ?_
                  rintro e w94 ⟨rfl, hb94⟩
                  rw [HKE.out]
                  replace BW := hbT BW hb94
                  replace O14 := Lib.hid (O14.out.below hb94)
                  replace O93 := Lib.hid (O93.out.below hb94)
                  clear hb94
                  go_wp2
                  go_ret
                  exact ⟨rfl, fin BW⟩
end Go.Proofs.YtdeplhihcifmeaaGreatDoor

/- The law of NettingRectangles. -/
namespace Go.Proofs.YtdeplhihcifmeaaGreatDoor
open Go.RowKit Go.Shelf Ck

theorem small_nat (a n : Int) (hn : 0 < n) (ha : 0 ≤ a) : ∃ c : Nat, (c : Int) = 1 + a.tmod n := ⟨(1 + a.tmod n).toNat, by have := (tmod_small a n hn ha).1; omega⟩
theorem lawRectangles (x y a b d : Int) (w : World) (hL : LaidLen w) (ha0 : 0 ≤ a) (ha1 : a < 256) (hb0 : 0 ≤ b) (hb1 : b < 256) (hd0 : 0 ≤ d) (hd1 : d < 256) :
    Calls Tryz.prog 12 #[.agg #[.int .i64 x, .int .i64 y], .agg #[.int .u8 a, .int .u8 b], .int .u8 d] w fun e w' => e = .returned (.bool true) ∧ Below w.heap.size w w' := by
  obtain ⟨c, hc⟩ := small_nat a 6 (by decide) ha0
  obtain ⟨r, hr⟩ := small_nat b 8 (by decide) hb0
  obtain ⟨k, hk⟩ := small_nat d 4 (by decide) hd0
  by_cases hK : knotE x y = 0
  · by_cases hS : sheetE x y c ((r + k : Nat) : Int) = 0
    · exact lawRcM x y a b d w hL ⟨ha0, ha1⟩ ⟨hb0, hb1⟩ ⟨hd0, hd1⟩ c r k (r + k) hc hr hk rfl hK hS
    · exact lawRc2 x y a b d w hL ⟨ha0, ha1⟩ ⟨hb0, hb1⟩ ⟨hd0, hd1⟩ c r k (r + k) hc hr hk rfl hK _ rfl hS
  · exact lawRc1 x y a b d w hL ⟨ha0, ha1⟩ ⟨hb0, hb1⟩ ⟨hd0, hd1⟩ c r k (r + k) hc hr hk rfl _ rfl hK
end Go.Proofs.YtdeplhihcifmeaaGreatDoor

/- A knot as an argument. -/
namespace Go.Proofs.YtdeplhihcifmeaaGreatDoor
open Go.ChangeShapes Go.WideShapes Go.ChangeAt Go.WideMaps Go.WideElems Go.RowKit

set_option maxRecDepth 100000 in
theorem open_knot {w : World} {r : Reach} {b0 : Nat} {v : Value} (h : Value.okWide Tryz.prog w r b0 26 v) : ∃ x y, v = .agg #[.int .i64 x, .int .i64 y] := by
  have hS : Tryz.prog.underlying 26 = some (.struct (Tryz.prog.fieldsOf 26)) := by kernel_rfl
  have hC : Tryz.prog.cellsOf 26 = 2 := by kernel_rfl
  simp only [Value.okWide, hS] at h
  obtain ⟨cs, rfl, hsz, hr⟩ := h
  rw [hC] at hsz
  obtain ⟨ts, hts, -, hrow⟩ := hr
  have ht : Tryz.prog.cellTypes Tryz.prog.depth 26 = some [3, 3] := by kernel_rfl
  rw [ht] at hts
  cases hts
  obtain ⟨l⟩ := cs
  match l, hsz with
  | [c0, c1], _ =>
    obtain ⟨u0, hu0, h0⟩ := hrow 0 c0 rfl
    obtain ⟨u1, hu1, h1⟩ := hrow 1 c1 rfl
    simp at hu0 hu1
    subst hu0 hu1
    obtain ⟨a, rfl, -⟩ := cell_intT Tryz.underlying3 h0
    obtain ⟨b, rfl, -⟩ := cell_intT Tryz.underlying3 h1
    exact ⟨a, b, rfl⟩
end Go.Proofs.YtdeplhihcifmeaaGreatDoor

/- A byte, an int8 as arguments. -/
namespace Go.Proofs.YtdeplhihcifmeaaGreatDoor
open Go.ChangeShapes Go.WideShapes Go.ChangeAt Go.WideMaps Go.WideElems Go.RowKit

set_option maxRecDepth 100000 in
theorem open_bytev {w : World} {r : Reach} {b0 : Nat} {v : Value} (h : Value.okWide Tryz.prog w r b0 5 v) : ∃ n, v = .int .u8 n ∧ 0 ≤ n ∧ n < 256 := by
  have hS := Tryz.underlying5
  simp only [Value.okWide, hS] at h
  obtain ⟨n, rfl, hn⟩ := cell_intT hS h
  simp only [IntKind.has, IntKind.min, IntKind.max, IntKind.signed, IntKind.bits] at hn
  refine ⟨n, rfl, ?_, ?_⟩ <;> simp at hn <;> omega
end Go.Proofs.YtdeplhihcifmeaaGreatDoor

/- Two bytes as an argument. -/
namespace Go.Proofs.YtdeplhihcifmeaaGreatDoor
open Go.ChangeShapes Go.WideShapes Go.ChangeAt Go.WideMaps Go.WideElems Go.RowKit

set_option maxRecDepth 100000 in
theorem row_twoB {w : World} {r : Reach} {b0 : Nat} {t u : TypeId} {k : IntKind} {cs : Array Value} (ht : Tryz.prog.cellTypes Tryz.prog.depth t = some [u, u]) (hu : Tryz.prog.underlying u = some (.int k)) (hs : cs.size = 2) (h : Row.okWide Tryz.prog w r b0 t cs) : ∃ a b, cs = #[.int k a, .int k b] ∧ k.has a ∧ k.has b := by
  obtain ⟨ts, hts, -, hrow⟩ := h
  rw [ht] at hts
  cases hts
  obtain ⟨l⟩ := cs
  match l, hs with
  | [c0, c1], _ =>
    obtain ⟨u0, hu0, h0⟩ := hrow 0 c0 rfl
    obtain ⟨u1, hu1, h1⟩ := hrow 1 c1 rfl
    simp at hu0 hu1
    subst hu0 hu1
    obtain ⟨a, rfl, ha⟩ := cell_intT hu h0
    obtain ⟨b, rfl, hb⟩ := cell_intT hu h1
    exact ⟨a, b, rfl, ha, hb⟩
set_option maxRecDepth 100000 in
theorem open_sizev {w : World} {r : Reach} {b0 : Nat} {v : Value} (h : Value.okWide Tryz.prog w r b0 107 v) : ∃ x y, v = .agg #[.int .u8 x, .int .u8 y] ∧ 0 ≤ x ∧ x < 256 ∧ 0 ≤ y ∧ y < 256 := by
  have hS : Tryz.prog.underlying 107 = some (.array 2 5) := by kernel_rfl
  have hC : Tryz.prog.cellsOf 107 = 2 := by kernel_rfl
  simp only [Value.okWide, hS] at h
  obtain ⟨cs, rfl, hsz, hr⟩ := h
  rw [hC] at hsz
  obtain ⟨a, b, rfl, ha, hb⟩ := row_twoB (u := 5) (k := .u8) (by kernel_rfl) (by kernel_rfl) hsz hr
  simp only [IntKind.has, IntKind.min, IntKind.max, IntKind.signed, IntKind.bits] at ha hb
  refine ⟨a, b, rfl, ?_, ?_, ?_, ?_⟩ <;> simp at ha hb <;> omega
end Go.Proofs.YtdeplhihcifmeaaGreatDoor
