/- Helpers, part 6. -/
import Derived.Test.YtfmfpnnglogkmaaGreatDoorW5
import Derived.Deep.AppendLies
import Derived.StillTailTactics
import Derived.BigQuiet
import Derived.Deep.RegionHeld3
/- The calls that awake makes, each with its result. -/
namespace Go.Proofs.YtfmfpnnglogkmaaGreatDoor
open Go.RowKit Go.Shelf Ck

theorem word_of (l : List UInt8) (h : l.all okC = true) (h1 : 1 ≤ l.length) (h2 : l.length ≤ 64) : Word ⟨l.toArray⟩ := by
  have hs : (⟨l.toArray⟩ : ByteArray).size = l.length := by show l.toArray.size = _; simp
  refine ⟨fun c hc => ?_, by omega, by omega⟩
  rw [List.all_eq_true] at h
  exact (okC_iff c).1 (h c hc)
theorem aw1 (w : World) : Calls Tryz.prog 33 #[.string ⟨#[78, 66, 66]⟩] w fun e w' => e = .returned (.tuple #[.agg #[.int .i64 2, .int .i64 4], .int .i64 0]) ∧ Below w.heap.size w w' :=
  (tpVectorOk ⟨#[78, 66, 66]⟩ w (word_of [78, 66, 66] (by decide) (by decide) (by decide))).mono fun e w' ⟨h, hb⟩ => ⟨h.trans (by
    rw [show (vecL (⟨#[78, 66, 66]⟩ : ByteArray).data.toList) = (2, 4) by decide]), hb⟩
theorem aw2 (w : World) : Calls Tryz.prog 35 #[.string ⟨#[78, 66, 66]⟩] w fun e w' => e = .returned (.tuple #[.string ⟨#[49, 78, 50, 66]⟩, .int .i64 0]) ∧ Below w.heap.size w w' :=
  (tpPrint ⟨#[78, 66, 66]⟩ w (word_of [78, 66, 66] (by decide) (by decide) (by decide))).mono fun e w' ⟨h, hb⟩ => ⟨h.trans (by
    rw [show printL (⟨#[78, 66, 66]⟩ : ByteArray).data.toList = [49, 78, 50, 66] by decide +kernel]), hb⟩
theorem aw3 (w : World) : Calls Tryz.prog 36 #[.string ⟨#[49, 78, 50, 66, 49, 66]⟩] w fun e w' => e = .returned (.tuple #[.string ⟨#[78, 66, 66, 66]⟩, .int .i64 0, .int .i64 0]) ∧ Below w.heap.size w w' :=
  (tpParseAll ⟨#[49, 78, 50, 66, 49, 66]⟩ w).mono fun e w' ⟨h, hb⟩ => ⟨h.trans (by
    rw [show parseL (⟨#[49, 78, 50, 66, 49, 66]⟩ : ByteArray).data.toList = ([78, 66, 66, 66], 0, 0) by decide +kernel]
    rfl), hb⟩
theorem aw4 (w : World) : Calls Tryz.prog 37 #[.string ⟨#[78, 66, 66, 78, 66, 66]⟩] w fun e w' => e = .returned (.tuple #[.string ⟨#[78, 66, 66]⟩, .int .i64 2, .int .i64 0]) ∧ Below w.heap.size w w' :=
  (tpRoot ⟨#[78, 66, 66, 78, 66, 66]⟩ w (word_of [78, 66, 66, 78, 66, 66] (by decide) (by decide) (by decide))).mono fun e w' ⟨h, hb⟩ => ⟨h.trans (by
    rw [show rootN (⟨#[78, 66, 66, 78, 66, 66]⟩ : ByteArray).data.toList = 3 by decide +kernel]
    rfl), hb⟩
theorem aw5 (w : World) : Calls Tryz.prog 38 #[.string ⟨#[78, 66, 66, 78, 66, 66]⟩] w fun e w' => e = .returned (.tuple #[.string ⟨#[66, 66, 78, 66, 66, 78]⟩, .int .i64 0]) ∧ Below w.heap.size w w' :=
  (tpLeast ⟨#[78, 66, 66, 78, 66, 66]⟩ w (word_of [78, 66, 66, 78, 66, 66] (by decide) (by decide) (by decide))).mono fun e w' ⟨h, hb⟩ => ⟨h.trans (by
    rw [show lstW (⟨#[78, 66, 66, 78, 66, 66]⟩ : ByteArray).data.toList = [66, 66, 78, 66, 66, 78] by decide +kernel]), hb⟩
theorem aw6 (w : World) : Calls Tryz.prog 39 #[.string ⟨#[66]⟩, .int .i64 2, .string ⟨#[78]⟩, .int .i64 3] w fun e w' => e = .returned (.tuple #[.string ⟨#[78, 78, 66, 78, 66]⟩, .int .i64 0]) ∧ Below w.heap.size w w' :=
  (tpSpreadAll ⟨#[66]⟩ ⟨#[78]⟩ 2 3 w (by decide) (by decide)).mono fun e w' ⟨h, hb⟩ => ⟨h.trans (by
    rw [show sprS ⟨#[66]⟩ 2 ⟨#[78]⟩ 3 = ⟨#[78, 78, 66, 78, 66]⟩ by decide +kernel, show sprE ⟨#[66]⟩ 2 ⟨#[78]⟩ 3 = 0 by decide +kernel]), hb⟩
theorem aw7 (w : World) : Calls Tryz.prog 40 #[.string ⟨#[78, 78, 66, 66]⟩] w fun e w' => e = .returned (.tuple #[.bool false, .int .i64 0]) ∧ Below w.heap.size w w' :=
  (tpBalanced ⟨#[78, 78, 66, 66]⟩ w (word_of [78, 78, 66, 66] (by decide) (by decide) (by decide))).mono fun e w' ⟨h, hb⟩ => ⟨h.trans (by
    rw [show balB ⟨#[78, 78, 66, 66]⟩ = false by decide +kernel]), hb⟩
theorem aw8 (w : World) : Calls Tryz.prog 41 #[.string ⟨#[78, 66]⟩, .int .i64 1, .string ⟨#[66]⟩, .int .i64 2] w fun e w' => e = .returned (.tuple #[.string ⟨#[66, 66, 78, 66]⟩, .int .i64 0]) ∧ Below w.heap.size w w' :=
  (tpMix ⟨#[78, 66]⟩ ⟨#[66]⟩ 1 2 w (by decide) (by decide)).mono fun e w' ⟨h, hb⟩ => ⟨h.trans (by
    rw [show mixS ⟨#[78, 66]⟩ 1 ⟨#[66]⟩ 2 = ⟨#[66, 66, 78, 66]⟩ by decide +kernel, show mixE ⟨#[78, 66]⟩ 1 ⟨#[66]⟩ 2 = 0 by decide +kernel]), hb⟩
theorem aw9 (w : World) : Calls Tryz.prog 36 #[.string ⟨#[49, 78, 48, 66]⟩] w fun e w' => e = .returned (.tuple #[.string ⟨#[]⟩, .int .i64 2, .int .i64 25]) ∧ Below w.heap.size w w' :=
  (tpParseAll ⟨#[49, 78, 48, 66]⟩ w).mono fun e w' ⟨h, hb⟩ => ⟨h.trans (by
    rw [show parseL (⟨#[49, 78, 48, 66]⟩ : ByteArray).data.toList = ([], 2, 25) by decide +kernel]
    rfl), hb⟩
theorem aw10 (w : World) : Calls Tryz.prog 42 #[.agg #[.int .i64 2, .int .i64 5]] w fun e w' => e = .returned (.tuple #[.agg #[.int .i64 4, .int .i64 7], .int .i64 0]) ∧ Below w.heap.size w w' :=
  (tpShareOk 2 5 w (by decide +kernel) (by decide +kernel)).mono fun e w' ⟨h, hb⟩ => ⟨h.trans (by
    rw [show shareB 2 5 = 4 by decide +kernel, show shareL 2 5 = 7 by decide +kernel]
    rfl), hb⟩
theorem aw11 (w : World) : Calls Tryz.prog 32 #[.agg #[.int .i64 2, .int .i64 5]] w fun e w' => e = .returned (.tuple #[.string ⟨#[78, 66, 78, 66, 78, 66, 66]⟩, .int .i64 0]) ∧ Below w.heap.size w w' :=
  (tpExactOk 2 5 w (by decide +kernel) (by decide +kernel)).mono fun e w' ⟨h, hb⟩ => ⟨h.trans (by
    rw [show slB 2 5 = ⟨#[78, 66, 78, 66, 78, 66, 66]⟩ by decide +kernel]), hb⟩
theorem aw12 (w : World) : Calls Tryz.prog 8 #[.agg #[.int .i64 2, .int .i64 5], .int .i64 4] w fun e w' => e = .returned (.tuple #[.agg #[.int .i64 1, .int .i64 2, .int .i64 2, .int .i64 3], .int .i64 0]) ∧ Below w.heap.size w w' :=
  tpNeighbours 2 5 4 1 2 2 3 w (by decide +kernel) (by decide) (by decide) (by decide +kernel)
theorem aw13 (w : World) : Calls Tryz.prog 10 #[.agg #[.int .i64 2, .int .i64 5], .int .i64 4] w fun e w' => e = .returned (.tuple #[.string ⟨#[78, 66]⟩, .int .i64 0]) ∧ Below w.heap.size w w' :=
  (tpNearest 2 5 4 1 2 2 3 w (by decide +kernel) (by decide) (by decide) (by decide +kernel) (by decide +kernel)).mono fun e w' ⟨h, hb⟩ => ⟨h.trans (by
    rw [show nearB 2 5 1 2 2 3 = ⟨#[78, 66]⟩ by decide +kernel]), hb⟩
theorem edge0 : EdgeOk 0 0 ⟨#[78, 66, 66]⟩ 1 := ⟨word_of [78, 66, 66] (by decide) (by decide) (by decide), by decide, by decide, by decide, by decide, by decide, by decide, by decide⟩
/-- Meshes returns a slice that reads as these places. -/
def MeshesS (l : List Knot) (w : World) (e : Ending) (w' : World) : Prop := ∃ a c, e = .returned (.tuple #[.slice a l.length c, .int .i64 0]) ∧ RK w' w'.heap.size a l ∧ Below w.heap.size w w'
theorem meshesS (x y : Int) (s : ByteArray) (c : Nat) (o : Bool) (l : List Knot) (n : Int) (hn : n = (c : Int)) (w : World) (hl : midsP (sg o) ⟨x, y⟩ (Lib.repeatL s.data.toList c) = l) (h : EdgeOk x y s c) :
    Calls Tryz.prog 19 #[.agg #[.int .i64 x, .int .i64 y], .string s, .int .i64 n, .bool o] w (MeshesS l w) := by
  subst hn hl
  exact (tpMeshes x y s c o w h).mono fun e w' ⟨v, he, hrow, hb⟩ => by
    obtain ⟨a, c', rfl, hok⟩ := own_rkW hrow
    exact ⟨a, c', he, hok, hb⟩
theorem aw14 (w : World) : Calls Tryz.prog 17 #[.agg #[.int .i64 0, .int .i64 0], .string ⟨#[78, 66, 66]⟩, .int .i64 1, .bool false] w (KnotsPost [⟨0, 0⟩, ⟨0, 2⟩, ⟨-1, 3⟩, ⟨-2, 4⟩] w) :=
  walkS 0 0 ⟨#[78, 66, 66]⟩ 1 false _ 1 rfl w (by decide +kernel) edge0
theorem aw15 (w : World) : Calls Tryz.prog 18 #[.agg #[.int .i64 0, .int .i64 0], .string ⟨#[78, 66, 66]⟩, .int .i64 1, .bool true] w (PairPost [⟨0, 2, 1⟩, ⟨1, 3, 1⟩] w) :=
  barsSI 0 0 ⟨#[78, 66, 66]⟩ 1 true _ 1 rfl w (by decide +kernel) edge0
theorem aw16 (w : World) : Calls Tryz.prog 19 #[.agg #[.int .i64 0, .int .i64 0], .string ⟨#[78, 66, 66]⟩, .int .i64 1, .bool true] w (MeshesS [⟨0, 1⟩] w) :=
  meshesS 0 0 ⟨#[78, 66, 66]⟩ 1 true _ 1 rfl w (by decide +kernel) edge0
end Go.Proofs.YtfmfpnnglogkmaaGreatDoor

/- What the walk of TaperReturns wants to know. -/
namespace Go.Proofs.YtfmfpnnglogkmaaGreatDoor
open Go.RowKit Go.Shelf Ck

theorem walkSG (x y : Int) (s : ByteArray) (c : Nat) (o : Bool) (K : List Knot) (w : World) (hK : walkK (sg o) ⟨x, y⟩ (Lib.repeatL s.data.toList c) = K) (h : EdgeG x y s c o) :
    Calls Tryz.prog 17 #[.agg #[.int .i64 x, .int .i64 y], .string s, .int .i64 c, .bool o] w (KnotsPost K w) :=
  (tpWalkG x y s c o w h).mono fun e w' ⟨v, he, hrow, hb⟩ => by
    rw [hK] at hrow
    obtain ⟨a, c', rfl, hok⟩ := own_rkW hrow
    exact ⟨a, c', he, hok, hb⟩
theorem meshesSG (x y : Int) (s : ByteArray) (c : Nat) (o : Bool) (l : List Knot) (w : World) (hl : midsP (sg o) ⟨x, y⟩ (Lib.repeatL s.data.toList c) = l) (h : EdgeG x y s c o) :
    Calls Tryz.prog 19 #[.agg #[.int .i64 x, .int .i64 y], .string s, .int .i64 c, .bool o] w (MeshesS l w) := by
  subst hl
  exact (tpMeshesG x y s c o w h).mono fun e w' ⟨v, he, hrow, hb⟩ => by
    obtain ⟨a, c', rfl, hok⟩ := own_rkW hrow
    exact ⟨a, c', he, hok, hb⟩
theorem barsSG (x y : Int) (s : ByteArray) (c : Nat) (o : Bool) (l : List Bar) (w : World) (hl : barsP (sg o) ⟨x, y⟩ (Lib.repeatL s.data.toList c) = l) (h : EdgeG x y s c o) :
    Calls Tryz.prog 18 #[.agg #[.int .i64 x, .int .i64 y], .string s, .int .i64 c, .bool o] w (PairPost l w) := by
  subst hl
  exact (tpBarsG x y s c o w h).mono fun e w' ⟨v, he, hrow, hb⟩ => by
    obtain ⟨a, c', rfl, hok⟩ := own_oks hrow
    exact ⟨a, c', he, hok, hb⟩
theorem rotWord {s : ByteArray} (hs : Word s) {r : Nat} (hr : r ≤ s.size) : Word ⟨(rotA s.data.toList r).toArray⟩ := by
  have hz := Lib.size_eq s
  have hl : (rotA s.data.toList r).length = s.data.toList.length := by
    simp only [rotA, List.length_append, List.length_drop, List.length_take]
    omega
  refine ⟨fun c hc => hs.1 c ?_, ?_, ?_⟩
  · simp only [rotA, List.mem_append] at hc
    exact hc.elim (fun h => List.mem_of_mem_drop h) (fun h => List.mem_of_mem_take h)
  · rw [show (⟨(rotA s.data.toList r).toArray⟩ : ByteArray).size = (rotA s.data.toList r).length by simp [ByteArray.size], hl, ← hz]
    exact hs.2.1
  · rw [show (⟨(rotA s.data.toList r).toArray⟩ : ByteArray).size = (rotA s.data.toList r).length by simp [ByteArray.size], hl, ← hz]
    exact hs.2.2
/-- What the walk of TaperReturns wants to know: its calls. -/
structure WrC (x y : Int) (s R : ByteArray) (z t PX PY X Y : Int) (K1 K2 K3 K4 : List Knot) (B : List Bar) (M : List Knot) : Prop where
  walk1 : ∀ w, Calls Tryz.prog 17 #[.agg #[.int .i64 x, .int .i64 y], .string s, .int .i64 z, .bool true] w (KnotsPost K1 w)
  walk2 : ∀ w, Calls Tryz.prog 17 #[.agg #[.int .i64 x, .int .i64 y], .string s, .int .i64 z, .bool false] w (KnotsPost K2 w)
  walk3 : ∀ w, Calls Tryz.prog 17 #[.agg #[.int .i64 (x + PX), .int .i64 (y + PY)], .string s, .int .i64 z, .bool false] w (KnotsPost K3 w)
  walk4 : ∀ w, Calls Tryz.prog 17 #[.agg #[.int .i64 x, .int .i64 y], .string R, .int .i64 z, .bool true] w (KnotsPost K4 w)
  bars : ∀ w, Calls Tryz.prog 18 #[.agg #[.int .i64 x, .int .i64 y], .string s, .int .i64 z, .bool true] w (PairPost B w)
  mesh : ∀ w, Calls Tryz.prog 19 #[.agg #[.int .i64 x, .int .i64 y], .string s, .int .i64 z, .bool true] w (MeshesS M w)
  vec : ∀ w, Calls Tryz.prog 33 #[.string s] w fun e w' => e = .returned (.tuple #[.agg #[.int .i64 X, .int .i64 Y], .int .i64 0]) ∧ Below w.heap.size w w'
  rot : ∀ w, Calls Tryz.prog 34 #[.string s, .int .i64 t] w fun e w' => e = .returned (.tuple #[.string R, .int .i64 0]) ∧ Below w.heap.size w w'
/-- And its lists. -/
structure WrL (x y : Int) (s : ByteArray) (c n : Nat) (PX PY X Y : Int) (K1 K2 K3 K4 : List Knot) (B : List Bar) (M : List Knot) (bN : Nat → Nat) : Prop where
  word : Word s
  n_eq : n = c * s.size
  px : PX = c * X
  py : PY = c * Y
  px1 : 0 ≤ PX
  px2 : PX ≤ 120
  py1 : 0 ≤ PY
  py2 : PY ≤ 120
  n1 : 1 ≤ n
  n60 : n ≤ 60
  X1 : 0 ≤ X
  X2 : X ≤ 20
  Y1 : 0 ≤ Y
  Y2 : Y ≤ 20
  l1 : K1.length = n + 1
  l2 : K2.length = n + 1
  l3 : K3.length = n + 1
  l4 : K4.length = n + 1
  lb : B.length + M.length = n
  first : K1[0]? = some ⟨x, y⟩
  last : K1[n]? = some ⟨x + PX, y + PY⟩
  back : K3[n]? = some ⟨x, y + 2 * PY⟩
  other : K4[n]? = some ⟨x + PX, y + PY⟩
  b0 : bN 0 = 0
  bi : ∀ i, i < n → bN i ≤ i ∧ ∃ (p q m : Knot) (a : UInt8), K1[i]? = some p ∧ K1[i + 1]? = some q ∧ K2[i + 1]? = some m ∧ m.x - x = x - q.x ∧ m.y = q.y ∧ s.data.toList[i % s.size]? = some a ∧
    (-200000 ≤ p.x ∧ p.x ≤ 200000 ∧ -200000 ≤ p.y ∧ p.y ≤ 200000) ∧ (-200000 ≤ q.x ∧ q.x ≤ 200000 ∧ -200000 ≤ q.y ∧ q.y ≤ 200000) ∧
    (a = 66 → B[bN i]? = some ⟨p.x, p.y, 1⟩ ∧ q.x = p.x + 1 ∧ q.y = p.y + 1 ∧ bN (i + 1) = bN i + 1) ∧
    (a ≠ 66 → ∃ z : Knot, M[i - bN i]? = some z ∧ 2 * z.x = p.x + q.x ∧ 2 * z.y = p.y + q.y ∧ bN (i + 1) = bN i)
theorem walkK_get {σ : Int} {k : Knot} {L : List UInt8} {i : Nat} (h : i ≤ L.length) : (walkK σ k L)[i]? = some (posK σ k (L.take i)) := by
  have hl : i < (walkK σ k L).length := by rw [walkK_length]; omega
  rw [List.getElem?_eq_getElem hl, walkK_at]
theorem wr_lists {x y : Int} {s R : ByteArray} {c : Nat} (hs : Word s) (h10 : s.size ≤ 10) (c1 : 1 ≤ c) (c6 : c ≤ 6) (hk : okKnot ⟨x, y⟩) (x1 : -1000 ≤ x) (x2 : x ≤ 1000) (y2 : y ≤ 1000) (hR : R.size = s.size) (hRv : vecL R.data.toList = vecL s.data.toList) :
    WrL x y s c (c * s.size) (c * (vecL s.data.toList).1) (c * (vecL s.data.toList).2) (vecL s.data.toList).1 (vecL s.data.toList).2 (walkK 1 ⟨x, y⟩ (Lib.repeatL s.data.toList c)) (walkK (-1) ⟨x, y⟩ (Lib.repeatL s.data.toList c)) (walkK (-1) ⟨x + c * (vecL s.data.toList).1, y + c * (vecL s.data.toList).2⟩ (Lib.repeatL s.data.toList c)) (walkK 1 ⟨x, y⟩ (Lib.repeatL R.data.toList c)) (barsP 1 ⟨x, y⟩ (Lib.repeatL s.data.toList c)) (midsP 1 ⟨x, y⟩ (Lib.repeatL s.data.toList c)) (fun i => barsN ((Lib.repeatL s.data.toList c).take i)) := by
  have hz := Lib.size_eq s
  have hzR := Lib.size_eq R
  have hs1 := hs.2.1
  obtain ⟨v1, v2, v3, v4⟩ := vecL_near s.data.toList
  have hln : (Lib.repeatL s.data.toList c).length = c * s.size := rep_len
  have hlR : (Lib.repeatL R.data.toList c).length = c * s.size := by rw [rep_len, hR]
  have hm : c * s.size ≤ 6 * 10 := Nat.mul_le_mul c6 h10
  have hm1 : 1 ≤ c * s.size := Nat.mul_pos c1 hs1
  have hvr := vec_repeat s.data.toList c
  obtain ⟨⟨-, -⟩, ⟨ky1, ky2⟩, -⟩ := hk
  simp only at ky1 ky2
  have cb : ∀ u : Int, 0 ≤ u → u ≤ 20 → 0 ≤ (c : Int) * u ∧ (c : Int) * u ≤ 120 := fun u h1 h2 => ⟨Int.mul_nonneg (by omega) h1, Int.le_trans (Int.mul_le_mul (show (c : Int) ≤ 6 by omega) h2 h1 (by omega)) (by decide)⟩
  refine ⟨hs, rfl, rfl, rfl, (cb _ v1 (by omega)).1, (cb _ v1 (by omega)).2, (cb _ v3 (by omega)).1, (cb _ v3 (by omega)).2, hm1, by omega, v1, by omega, v3, by omega, by rw [walkK_length, hln], by rw [walkK_length, hln], by rw [walkK_length, hln], by rw [walkK_length, hlR], ?_, ?_, ?_, ?_, ?_, rfl, fun i hi => ⟨?_, ?_⟩⟩
  · rw [barsP_length, Nat.add_comm, midsP_len, hln]
  · rw [walkK_get (by omega)]
    rfl
  · rw [← hln, walkK_get (Nat.le_refl _), List.take_length, posK_vec, hvr]
    simp
  · rw [← hln, walkK_get (Nat.le_refl _), List.take_length, posK_vec, hvr]
    simp only [Option.some.injEq, Knot.mk.injEq]
    constructor
    · omega
    · omega
  · rw [← hlR, walkK_get (Nat.le_refl _), List.take_length, posK_vec, vec_repeat, hRv]
    simp
  · exact Nat.le_trans (barsN_le _) (by rw [List.length_take]; omega)
  · have hiL : i < (Lib.repeatL s.data.toList c).length := by omega
    have hletter := rep_letters hs c _ (List.getElem_mem hiL)
    have hat := rep_at s.data.toList c i hiL
    rw [← hz, List.getElem?_eq_getElem hiL] at hat
    have hb := barsP_at (σ := 1) (k := ⟨x, y⟩) hiL
    have hmd := midsP_at (σ := 1) (k := ⟨x, y⟩) hiL
    have hlt : ((Lib.repeatL s.data.toList c).take i).length ≤ 60 := by rw [List.length_take]; omega
    have htk : (Lib.repeatL s.data.toList c).take (i + 1) = (Lib.repeatL s.data.toList c).take i ++ [(Lib.repeatL s.data.toList c)[i]] := List.take_succ_eq_append_getElem hiL
    obtain ⟨T, hT⟩ : ∃ T, (Lib.repeatL s.data.toList c).take i = T := ⟨_, rfl⟩
    obtain ⟨a, ha⟩ : ∃ a, (Lib.repeatL s.data.toList c)[i] = a := ⟨_, rfl⟩
    rw [hT, ha] at htk
    rw [hT] at hlt hb hmd
    rw [ha] at hb hmd hat hletter
    have hp := posK_near true T ⟨x, y⟩
    have hq1 : posK 1 ⟨x, y⟩ (T ++ [a]) = stepK 1 (posK 1 ⟨x, y⟩ T) a := posK_snoc 1 ⟨x, y⟩ T a
    have hn := stepK_near true (posK 1 ⟨x, y⟩ T) a
    simp only [sg, if_true] at hp hn
    simp only [hT]
    refine ⟨posK 1 ⟨x, y⟩ T, stepK 1 (posK 1 ⟨x, y⟩ T) a, posK (-1) ⟨x, y⟩ (T ++ [a]), a, ?_, ?_, ?_, ?_, ?_, hat.symm, by omega, by omega, fun h => ⟨hb h, ?_, ?_, ?_⟩, fun h => ⟨_, hmd h, (mid_twice hletter h).1, (mid_twice hletter h).2, ?_⟩⟩
    · rw [walkK_get (by omega), hT]
    · rw [walkK_get (by omega), htk, hq1]
    · rw [walkK_get (by omega), htk]
    · rw [← hq1, posK_vec, posK_vec]
      simp only
      omega
    · rw [← hq1, posK_vec, posK_vec]
    · rw [h, step_B]
    · rw [h, step_B]
    · simp only [htk]
      rw [h, barsN, List.countP_append]
      rfl
    · simp only [htk]
      rw [barsN, List.countP_append]
      simp [h, barsN]
end Go.Proofs.YtfmfpnnglogkmaaGreatDoor

/- awake of the statements of chapter 2. -/
namespace Go.Proofs.YtfmfpnnglogkmaaGreatDoor
open Go.RowKit Go.Shelf Ck

theorem boxB (w : World) (o : Obj) : ∃ w1, w1 = w.alloc o ∧ w1.heap[w.heap.size]? = some o ∧ Below w.heap.size w w1 := ⟨_, rfl, heap_alloc_new _ _, (Below.refl _ _).alloc (Nat.le_refl _) _⟩
theorem neqPair24 (w : World) : (Op.equalIn 10000 66 (.agg #[.int .i64 2, .int .i64 4]) (.agg #[.int .i64 2, .int .i64 4])).run Tryz.prog w = .ok true w := eqPairSame 2 4 w
set_option maxRecDepth 100000 in
theorem eqParts (w : World) : (Op.equalIn 10000 29 (.agg #[.int .i64 1, .int .i64 2, .int .i64 2, .int .i64 3]) (.agg #[.int .i64 1, .int .i64 2, .int .i64 2, .int .i64 3])).run Tryz.prog w = .ok true w := by kernel_rfl
theorem guardParts : Tryz.prog.eqGuardType Tryz.prog.depth 29 = false := by kernel_rfl
theorem rb_row2 (W : World) (a b : Bar) (g : Nat) (t : TypeId) (h : W.heap[g]? = some (.cells #[.int .i64 a.x, .int .i64 a.y, .int .i64 a.s, .int .i64 b.x, .int .i64 b.y, .int .i64 b.s] t (0, 0))) : RB W W.heap.size (some ⟨g, 0, none⟩) [a, b] := fun _ =>
  ⟨g, 0, rfl, (Array.getElem?_eq_some_iff.1 h).1, fun i hi => by
    have : i = 0 ∨ i = 1 := by simp at hi; omega
    rcases this with rfl | rfl
    · exact ⟨by simp [World.cell?, h], by simp [World.cell?, h], by simp [World.cell?, h]⟩
    · exact ⟨by simp [World.cell?, h], by simp [World.cell?, h], by simp [World.cell?, h]⟩⟩
theorem rk_row1 (W : World) (a : Knot) (g : Nat) (t : TypeId) (h : W.heap[g]? = some (.cells #[.int .i64 a.x, .int .i64 a.y] t (0, 0))) : RK W W.heap.size (some ⟨g, 0, none⟩) [a] := fun _ =>
  ⟨g, 0, rfl, (Array.getElem?_eq_some_iff.1 h).1, fun i hi => by
    have : i = 0 := by simp at hi; omega
    subst this
    exact ⟨by simp [World.cell?, h], by simp [World.cell?, h]⟩⟩
set_option maxHeartbeats 4000000 in
set_option maxRecDepth 100000 in
theorem awake2 (w : World) : Calls Tryz.prog 7 #[] w fun e w' => e = .returned (.bool true) ∧ Below w.heap.size w w' := by
  go_enter Tryz.func7, Tryz.ntmps7
  go_wp2_with fail
  refine (aw1 _).mono ?_
  rintro e w1 ⟨rfl, hb1⟩
  obtain ⟨x1, hx1, k1, hc1⟩ := boxB w1 (.cells #[.int .i64 2, .int .i64 4] 66)
  have B1 := hb1.trans (hc1.mono hb1.size)
  have HX1 := Lib.hid hx1
  clear hb1 hc1 hx1
  go_wp2_with fail
  rw [← HX1.out]
  refine (aw2 _).mono ?_
  rintro e w2 ⟨rfl, hb2⟩
  have k2 := (hb2.block _ (Array.getElem?_eq_some_iff.1 k1).1).trans k1
  have B2 := B1.trans (hb2.mono B1.size)
  clear hb2 k1 B1
  go_wp2_with fail
  refine (aw3 _).mono ?_
  rintro e w3 ⟨rfl, hb3⟩
  have k3 := (hb3.block _ (Array.getElem?_eq_some_iff.1 k2).1).trans k2
  have B3 := B2.trans (hb3.mono B2.size)
  clear hb3 k2 B2
  go_wp2_with fail
  refine (aw4 _).mono ?_
  rintro e w4 ⟨rfl, hb4⟩
  have k4 := (hb4.block _ (Array.getElem?_eq_some_iff.1 k3).1).trans k3
  have B4 := B3.trans (hb4.mono B3.size)
  clear hb4 k3 B3
  go_wp2_with fail
  refine (aw5 _).mono ?_
  rintro e w5 ⟨rfl, hb5⟩
  have k5 := (hb5.block _ (Array.getElem?_eq_some_iff.1 k4).1).trans k4
  have B5 := B4.trans (hb5.mono B4.size)
  clear hb5 k4 B4
  go_wp2_with fail
  refine (aw6 _).mono ?_
  rintro e w6 ⟨rfl, hb6⟩
  have k6 := (hb6.block _ (Array.getElem?_eq_some_iff.1 k5).1).trans k5
  have B6 := B5.trans (hb6.mono B5.size)
  clear hb6 k5 B5
  go_wp2_with fail
  refine (aw7 _).mono ?_
  rintro e w7 ⟨rfl, hb7⟩
  have k7 := (hb7.block _ (Array.getElem?_eq_some_iff.1 k6).1).trans k6
  have B7 := B6.trans (hb7.mono B6.size)
  clear hb7 k6 B6
  go_wp2_with fail
  refine (aw8 _).mono ?_
  rintro e w8 ⟨rfl, hb8⟩
  have k8 := (hb8.block _ (Array.getElem?_eq_some_iff.1 k7).1).trans k7
  have B8 := B7.trans (hb8.mono B7.size)
  clear hb8 k7 B7
  obtain ⟨v0, v1, -, -⟩ := two_cell k8
  have hes := neqPair24
  have hgp := guardPair
  go_wp2_with fail
  refine (aw9 _).mono ?_
  rintro e w9 ⟨rfl, hb9⟩
  have B9 := B8.trans (hb9.mono B8.size)
  clear hb9 k8 B8 v0 v1 hes hgp
  go_wp2_with fail
  refine (aw10 _).mono ?_
  rintro e w10 ⟨rfl, hb10⟩
  have B10 := B9.trans (hb10.mono B9.size)
  clear hb10 B9
  obtain ⟨x10, hx10, h10, hc10⟩ := boxB w10 (.cells #[.int .i64 4, .int .i64 7] 23)
  have C10 := B10.trans (hc10.mono B10.size)
  have HX10 := Lib.hid hx10
  clear hc10 hx10 B10
  go_wp2_with fail
  rw [← HX10.out]
  refine (aw11 _).mono ?_
  rintro e w11 ⟨rfl, hb11⟩
  have h11 := (hb11.block _ (Array.getElem?_eq_some_iff.1 h10).1).trans h10
  have B11 := C10.trans (hb11.mono C10.size)
  clear hb11 h10 C10
  go_wp2_with fail
  refine (aw12 _).mono ?_
  rintro e w12 ⟨rfl, hb12⟩
  have h12 := (hb12.block _ (Array.getElem?_eq_some_iff.1 h11).1).trans h11
  have B12 := B11.trans (hb12.mono B11.size)
  clear hb12 h11 B11
  obtain ⟨x12, hx12, n12, hc12⟩ := boxB w12 (.cells #[.int .i64 1, .int .i64 2, .int .i64 2, .int .i64 3] 29)
  have h12' := (hc12.block _ (Array.getElem?_eq_some_iff.1 h12).1).trans h12
  have C12 := B12.trans (hc12.mono B12.size)
  have HX12 := Lib.hid hx12
  clear hc12 hx12 B12 h12
  go_wp2_with fail
  rw [← HX12.out]
  refine (aw13 _).mono ?_
  rintro e w13 ⟨rfl, hb13⟩
  have h13 := (hb13.block _ (Array.getElem?_eq_some_iff.1 h12').1).trans h12'
  have n13 := (hb13.block _ (Array.getElem?_eq_some_iff.1 n12).1).trans n12
  have B13 := C12.trans (hb13.mono C12.size)
  clear hb13 h12' n12 C12
  go_wp2_with fail
  refine (aw14 _).mono ?_
  rintro e w14 ⟨a14, c14, rfl, r14, hb14⟩
  have h14 := (hb14.block _ (Array.getElem?_eq_some_iff.1 h13).1).trans h13
  have n14 := (hb14.block _ (Array.getElem?_eq_some_iff.1 n13).1).trans n13
  have B14 := B13.trans (hb14.mono B13.size)
  have R14 := Lib.hid r14
  clear hb14 h13 n13 B13 r14
  go_wp2_with fail
  refine (aw15 _).mono ?_
  rintro e w15 ⟨a15, c15, rfl, r15, hb15⟩
  have h15 := (hb15.block _ (Array.getElem?_eq_some_iff.1 h14).1).trans h14
  have n15 := (hb15.block _ (Array.getElem?_eq_some_iff.1 n14).1).trans n14
  have B15 := B14.trans (hb15.mono B14.size)
  have R15 := Lib.hid (rkBelow R14.out hb15)
  have S15 := Lib.hid r15
  clear hb15 h14 n14 B14 r15 R14
  go_wp2_with fail
  refine (aw16 _).mono ?_
  rintro e w16 ⟨a16, c16, rfl, r16, hb16⟩
  have h16 := (hb16.block _ (Array.getElem?_eq_some_iff.1 h15).1).trans h15
  have n16 := (hb16.block _ (Array.getElem?_eq_some_iff.1 n15).1).trans n15
  have B16 := B15.trans (hb16.mono B15.size)
  have R16 := Lib.hid (rkBelow R15.out hb16)
  have S16 := Lib.hid (S15.out.below hb16)
  have T16 := Lib.hid r16
  clear hb16 h15 n15 B15 r16 R15 S15
  obtain ⟨kb, ko, rfl, hkB, hkc⟩ := R16.out (by decide)
  obtain ⟨kx, ky⟩ := hkc 3 (by decide)
  have HKB := Lib.hid hkB
  clear hkc hkB
  obtain ⟨v0, v1, -, -⟩ := two_cell h16
  obtain ⟨⟨l0, l1, l2, l3⟩, -, -, -, -⟩ := four_cell n16
  have hes := eqParts
  have hgp := guardParts
  go_wp2_with fail
  obtain ⟨x17, hx17, m17, hc17⟩ := boxB w16 (.cells #[.int .i64 0, .int .i64 2, .int .i64 1, .int .i64 1, .int .i64 3, .int .i64 1] 74)
  rw [← hx17]
  have B17 := B16.trans (hc17.mono B16.size)
  have S17 := (S16.out.2.2.2.below hc17).more hc17.size
  have T17 := Lib.hid (rkBelow T16.out hc17)
  refine (refSameBars a15 (some ⟨w16.heap.size, 0, none⟩) c15 2 [⟨0, 2, 1⟩, ⟨1, 3, 1⟩] _ (by decide) S17 (rb_row2 _ ⟨0, 2, 1⟩ ⟨1, 3, 1⟩ _ _ m17)).mono ?_
  rintro e w18 ⟨rfl, hb18⟩
  have B18 := B17.trans (hb18.mono B17.size)
  have T18 := Lib.hid (rkBelow T17.out hb18)
  clear hx17 m17 hc17 S17 hb18 hes hgp kx ky v0 v1 l0 l1 l2 l3 h16 n16
  go_wp2_with fail
  obtain ⟨x19, hx19, m19, hc19⟩ := boxB w18 (.cells #[.int .i64 0, .int .i64 1] 66)
  rw [← hx19]
  have B19 := B18.trans (hc19.mono B18.size)
  refine (refSameMeshes a16 (some ⟨w18.heap.size, 0, none⟩) c16 1 [⟨0, 1⟩] _ (by decide) (rkBelow T18.out hc19) (rk_row1 _ ⟨0, 1⟩ _ _ m19)).mono ?_
  rintro e w20 ⟨rfl, hb20⟩
  have B20 := B19.trans (hb20.mono B19.size)
  clear hx19 m19 hc19 hb20
  go_wp2
  go_ret
  exact ⟨rfl, B20⟩
end Go.Proofs.YtfmfpnnglogkmaaGreatDoor

/- Walk of the reference of chapter 2. -/
namespace Go.Proofs.YtfmfpnnglogkmaaGreatDoor
open Go.RowKit Go.Shelf Ck

theorem ownsRow_lower {w : World} {B B' : Nat} {t : TypeId} {n k : Nat} {v : Value} {xs : List Value} (h : w.ownsRow B t n v k xs) (hB : B' ≤ B) : w.ownsRow B' t n v k xs := by
  refine ⟨h.1, ?_⟩
  rcases h.2 with h2 | ⟨g, cap, cur, e, hb, h3⟩
  · exact .inl h2
  · exact .inr ⟨g, cap, cur, e, Nat.le_trans hB hb, h3⟩
theorem ownsRow_above {w : World} {B : Nat} {t : TypeId} {n k : Nat} {v : Value} {xs : List Value} (h : w.ownsRow B t n v k xs) {g : Nat} (hg : v.ownBlock = some g) : B ≤ g := by
  rcases h.2 with ⟨rfl, -⟩ | ⟨g', cap, cur, rfl, hb, -⟩
  · simp [Value.ownBlock] at hg
  · simp [Value.ownBlock] at hg
    omega
theorem ownsRow_lt {w : World} {B : Nat} {t : TypeId} {n k : Nat} {v : Value} {xs : List Value} (h : w.ownsRow B t n v k xs) {g : Nat} (hg : v.ownBlock = some g) : g < w.heap.size := by
  rcases h.2 with ⟨rfl, -⟩ | ⟨g', cap, cur, rfl, -, hgb, -⟩
  · simp [Value.ownBlock] at hg
  · simp [Value.ownBlock] at hg
    subst hg
    exact (Array.getElem?_eq_some_iff.1 hgb).1
def KRowPost (l : List Knot) (w : World) (e : Ending) (w' : World) : Prop := ∃ v, e = .returned v ∧ w'.ownsRow w.heap.size 43 2 v l.length (kcellsL l) ∧ Below w.heap.size w w'
set_option maxHeartbeats 8000000 in
set_option maxRecDepth 100000 in
theorem rfWalk (x y : Int) (s : ByteArray) (c : Nat) (o : Bool) (w : World) (hs : Word s) (hlen : c * s.size ≤ 256) (hk : okKnot ⟨x, y⟩) :
    Calls Tryz.prog 22 #[.agg #[.int .i64 x, .int .i64 y], .string s, .int .i64 c, .bool o] w (KRowPost (walkK (sg o) ⟨x, y⟩ (Lib.repeatL s.data.toList c)) w) := by
  obtain ⟨⟨x1, x2⟩, ⟨y1, y2⟩, -⟩ := hk
  simp only at x1 x2 y1 y2
  have hsz := Lib.size_eq s
  obtain ⟨L, hL⟩ : ∃ L, s.data.toList = L := ⟨_, rfl⟩
  have HLB := Lib.hid (show ∀ (k : Nat) (h : k < s.size) (h' : k < L.length), s[k] = L[k] from fun k h h' => by subst hL; exact (byte_at s k h h').symm)
  have HLL := Lib.hid (show ∀ q ∈ L, isL q from fun q hq => hs.1 q (by rw [hL]; exact hq))
  have hs1 := hs.2.1
  have hs2 := hs.2.2
  rw [hL] at hsz ⊢
  have HSZ := Lib.hid hsz
  have hc256 : c ≤ 256 := Nat.le_trans (Nat.le_mul_of_pos_right c hs1) hlen
  clear hL hs
  obtain ⟨i0, hi, hz0, hz1, hz2⟩ := info_parts Tryz.info43
  have HI := Lib.hid hi
  have HZ0 := Lib.hid hz0
  have HZ1 := Lib.hid hz1
  have HZ2 := Lib.hid hz2
  obtain ⟨w1, hw1, k0, hb1, hz⟩ := boxH2 w (.int .i64 x) (.int .i64 y) 43
  have HW1 := Lib.hid hw1
  obtain ⟨c0, c1, -, -⟩ := two_cell k0
  obtain ⟨w2, hw2, hb2, hrow2⟩ : ∃ w2, w2 = w1.alloc (.cells #[.int .i64 x, .int .i64 y] 43) ∧ Below w1.heap.size w1 w2 ∧ w2.ownsRow (w.heap.size + 1) 43 2 (.slice (some ⟨w1.heap.size, 0, none⟩) 1 1) 1 [.int .i64 x, .int .i64 y] := ⟨_, rfl, (Below.refl _ _).alloc (Nat.le_refl _) _, krow_one w1 (w.heap.size + 1) (by omega) _ _ _⟩
  have k2 := (hb2.block _ hz).trans k0
  have B2 := hb1.trans (hb2.mono hb1.size)
  have hw2' := hw2.symm
  have hsz1 : w1.heap.size = w.heap.size + 1 := by rw [hw1]; simp
  rw [hsz1] at hrow2
  have HR2 := Lib.hid hrow2
  have HW2 := Lib.hid hw2
  clear hsz1 hw1 hw2 hi hz0 hz1 hz2 k0 hb1 hb2 hrow2
  go_enter Tryz.func22, Tryz.ntmps22
  go_wp2_with fail
  rw [← HW1.out]
  go_wp2_with fail
  clear hw2' c0 c1
  rw [← HW2.out]
  go_loopg [9, 10, 11, 12] c (fun g lv iv _ _ wi => ∃ i : Nat, g = c - i ∧ i ≤ c ∧ iv = .int .i64 i ∧ wi.heap[w.heap.size]? = some (.cells #[.int .i64 (posK (sg o) ⟨x, y⟩ (Lib.repeatL L i)).x, .int .i64 (posK (sg o) ⟨x, y⟩ (Lib.repeatL L i)).y] 43 (0, 0)) ∧ Hid (wi.ownsRow (w.heap.size + 1) 43 2 lv (walkK (sg o) ⟨x, y⟩ (Lib.repeatL L i)).length (kcellsL (walkK (sg o) ⟨x, y⟩ (Lib.repeatL L i)))) ∧ Below w.heap.size w wi)
  case atStart => exact ⟨0, by omega, by omega, rfl, k2, HR2, B2⟩
  case round =>
    clear k2 HR2 B2
    obtain ⟨i, hg, hic, rfl, hk, hown, hb⟩ := hrel
    by_cases hlt : i < c
    · have hpl : (Lib.repeatL L i).length = i * s.size := by rw [Lib.repeatL_length, HSZ.out]
      have hil : i * s.size + s.size ≤ 256 := by
        have h1 : (i + 1) * s.size ≤ c * s.size := Nat.mul_le_mul_right _ hlt
        rw [Nat.add_mul, Nat.one_mul] at h1
        omega
      have HNX := Lib.hid (show Lib.repeatL L i ++ L.take s.size = Lib.repeatL L (i + 1) by rw [List.take_of_length_le (by rw [HSZ.out]; exact Nat.le_refl _), repeat_comm]; rfl)
      obtain ⟨R, hR⟩ : ∃ R, Lib.repeatL L i = R := ⟨_, rfl⟩
      rw [hR] at hpl HNX hk hown
      have HPL := Lib.hid hpl
      clear hR hpl
      go_wp2_with fail
      go_loopg [9, 11, 12] s.size (fun g lv mv _ wi => ∃ m : Nat, g = s.size - m ∧ m ≤ s.size ∧ mv = .int .i64 m ∧ wi.heap[w.heap.size]? = some (.cells #[.int .i64 (posK (sg o) ⟨x, y⟩ (R ++ L.take m)).x, .int .i64 (posK (sg o) ⟨x, y⟩ (R ++ L.take m)).y] 43 (0, 0)) ∧ Hid (wi.ownsRow (w.heap.size + 1) 43 2 lv (walkK (sg o) ⟨x, y⟩ (R ++ L.take m)).length (kcellsL (walkK (sg o) ⟨x, y⟩ (R ++ L.take m)))) ∧ Below w.heap.size w wi)
      case atStart => exact ⟨0, by omega, by omega, rfl, by simpa using hk, by simpa using hown, hb⟩
      case round =>
        clear hk hown hb
        obtain ⟨m, hg2, hm, rfl, hk, hown, hb⟩ := hrel
        by_cases hml : m < s.size
        · have hmL : m < L.length := by rw [← HSZ.out]; exact hml
          have hel := HLB.out m hml hmL
          have hcl := HLL.out _ (List.getElem_mem hmL)
          have HT := Lib.hid (show R ++ L.take (m + 1) = (R ++ L.take m) ++ [L[m]] by rw [List.take_succ_eq_append_getElem hmL, List.append_assoc])
          have hln : (R ++ L.take m).length ≤ 256 := by rw [List.length_append, HPL.out, List.length_take]; omega
          obtain ⟨Q, hQ⟩ : ∃ Q, R ++ L.take m = Q := ⟨_, rfl⟩
          rw [hQ] at HT hk hown hln
          have hnear := posK_near o Q ⟨x, y⟩
          have hqn : (Q.length : Int) ≤ 256 := by omega
          obtain ⟨q, hq⟩ : ∃ q, L[m] = q := ⟨_, rfl⟩
          rw [hq] at hel hcl HT
          have HWS := Lib.hid (walkK_snoc (sg o) ⟨x, y⟩ Q q)
          have HPS := Lib.hid (posK_snoc (sg o) ⟨x, y⟩ Q q)
          have HWL := Lib.hid (walkK_length (sg o) ⟨x, y⟩ Q)
          have hwl : (walkK (sg o) ⟨x, y⟩ Q).length ≤ 257 := by rw [walkK_length]; omega
          obtain ⟨K, hK⟩ : ∃ K, posK (sg o) ⟨x, y⟩ Q = K := ⟨_, rfl⟩
          rw [hK] at hk hnear HPS
          obtain ⟨n1, n2, n3, n4⟩ := hnear
          simp only at n1 n2 n3 n4
          obtain ⟨W, hW⟩ : ∃ W, walkK (sg o) ⟨x, y⟩ Q = W := ⟨_, rfl⟩
          rw [hW] at hown HWS HWL hwl
          have hK1 : -200000 ≤ K.x := by omega
          have hK2 : K.x ≤ 200000 := by omega
          have hK3 : -200000 ≤ K.y := by omega
          have hK4 : K.y ≤ 200000 := by omega
          have d4 := dL_near q
          obtain ⟨a, hA⟩ : ∃ a, dxL q = a := ⟨_, rfl⟩
          obtain ⟨b, hB⟩ : ∃ b, dyL q = b := ⟨_, rfl⟩
          have HST := Lib.hid (show stepK (sg o) K q = ⟨K.x + (if o = true then a else -a), K.y + b⟩ by
            rw [stepK, hA, hB]
            cases o <;> simp [sg])
          have HSTEP := Lib.hid (show ∀ W : World, Calls Tryz.prog 66 #[.int .u8 q.toNat] W fun e w' => e = .returned (.agg #[.int .i64 a, .int .i64 b]) ∧ Below W.heap.size W w' from fun W => by
            have h := refStep q W hcl
            rwa [hA, hB] at h)
          rw [hA, hB] at d4
          obtain ⟨a0, a1, b0, b1⟩ := d4
          have m0 : (0 : Int) ≤ (m : Int) := by omega
          have m1 : (m : Int) < (s.size : Int) := by omega
          have HPN := Lib.hid (show posK (sg o) ⟨x, y⟩ (R ++ L.take (m + 1)) = ⟨K.x + (if o = true then a else -a), K.y + b⟩ by rw [HT.out, HPS.out, HST.out])
          have HWN := Lib.hid (show walkK (sg o) ⟨x, y⟩ (R ++ L.take (m + 1)) = W ++ [⟨K.x + (if o = true then a else -a), K.y + b⟩] by rw [HT.out, HWS.out, HPS.out, HST.out])
          have hzk := (Array.getElem?_eq_some_iff.1 hk).1
          clear hA hB hcl hK hW hq HT HWS HPS HST HWL hln hqn hmL n1 n2 n3 n4
          go_wp2_with fail
          refine (HSTEP.out _).mono ?_
          rintro e w3 ⟨rfl, hb3⟩
          obtain ⟨w4, hw4, k4, hb4, hz4⟩ := boxH2 w3 (.int .i64 a) (.int .i64 b) 66
          have b34 := hb3.trans (hb4.mono hb3.size)
          have hk4 := (b34.block _ hzk).trans hk
          have HO4 := Lib.hid (ownsRow_below hown.out b34)
          have HLT := Lib.hid (fun g e => Nat.lt_of_lt_of_le (ownsRow_lt hown.out (g := g) e) hb3.size)
          have B4 := hb.trans (b34.mono hb.size)
          have hw4' := hw4.symm
          obtain ⟨p0, p1, p2, p3⟩ := two_cell hk4
          have hgz : w.heap.size < w3.heap.size := Nat.lt_of_lt_of_le hzk hb3.size
          obtain ⟨gs, hgs⟩ : ∃ g, w3.heap.size = g := ⟨_, rfl⟩
          rw [hgs] at k4 hgz HLT
          obtain ⟨q0, q1, q2, q3⟩ := two_cell k4
          clear hw4 hb3 hb4 b34 hk hown hb HSTEP hzk
          cases o with
          | true =>
            obtain ⟨s1, s2⟩ := two_set hk4 (.int .i64 (K.x + a)) (.int .i64 (K.y + b))
            obtain ⟨w5, hw5⟩ : ∃ w5, (w4.setCell ⟨w.heap.size, 0, none⟩ (.int .i64 (K.x + a))).setCell ⟨w.heap.size, 1, none⟩ (.int .i64 (K.y + b)) = w5 := ⟨_, rfl⟩
            rw [hw5] at s1 s2
            have HO5 := Lib.hid (HO4.out.kept s2 (.inr fun e => by have := ownsRow_above HO4.out e; omega))
            have B5 := B4.grown s2 B4.size (fun j e => by cases e; omega)
            obtain ⟨r0, r1, -, -⟩ := two_cell s1
            clear s2 HO4 B4 hk4
            go_wp2_with (at_builtin; refine wpList_append_own _ rfl _ _ 46 rfl (w.heap.size + 1) 43 i0 (.agg #[.int .i64 0, .int .i64 0]) 2 16 Tryz.underlying46 HI.out HZ0.out HZ1.out HZ2.out rfl (by decide) _ _ _ rfl (HO5.out.alloc _) ⟨w5.heap.size, 0, none⟩ 1 1 [.int .i64 (K.x + a), .int .i64 (K.y + b)] rfl rfl (two_new _ _ _ _) ?c2 ?c3 ?c4 ?c5 ?_)
            case c2 => intro u hu; simp at hu; rcases hu with rfl | rfl <;> rfl
            case c3 => unfold maxLen; omega
            case c4 => omega
            case c5 => have := (Array.getElem?_eq_some_iff.1 s1).1; simp; omega
            intro v' w7 hown7 hgrow7 _
            have z5 := (Array.getElem?_eq_some_iff.1 s1).1
            have B7 : Below w.heap.size w w7 := (B5.alloc B5.size (.cells #[.int .i64 (K.x + a), .int .i64 (K.y + b)] 43)).grown hgrow7 (by simp; omega) (fun j e => by have := ownsRow_above HO5.out e; omega)
            have k7 := (hgrow7.block _ (by simp; omega) (fun h => by have := ownsRow_above HO5.out h.symm; omega)).trans ((Below.heap_alloc _ _ _ z5).trans s1)
            have HO7 := Lib.hid hown7
            clear hown7 hgrow7 s1 HO5 B5 hw5 hw4'
            go_wp2
            go_roundg (s.size - (m + 1))
            case rel => exact ⟨m + 1, by omega, by omega, by go_num, by rw [HPN.out]; exact k7, Lib.hid (by rw [HWN.out, kcellsL_snoc, List.length_append]; exact HO7.out), B7⟩
            case measure => omega
          | false =>
            obtain ⟨w4b, hw4b⟩ : ∃ w', w4.setCell ⟨gs, 0, none⟩ (.int .i64 (-a)) = w' := ⟨_, rfl⟩
            have g4b : w4.grownBy w4b (some gs) := by
              rw [← hw4b]
              exact ⟨rfl, rfl, rfl, by simp [World.setCell], fun i _ hne => Below.heap_setCell _ _ _ i (fun e => hne (by rw [e]))⟩
            have v4b : w4b.cell? ⟨gs, 0, none⟩ = some (.int .i64 (-a)) := by
              rw [← hw4b]
              simp [World.cell?, World.setCell, Array.getElem?_modify, k4]
            have v4c : w4b.cell? ⟨gs, 1, none⟩ = some (.int .i64 b) := by
              rw [← hw4b]
              simp [World.cell?, World.setCell, Array.getElem?_modify, k4]
            have hk4b := (g4b.block _ (Array.getElem?_eq_some_iff.1 hk4).1 (fun e => by injection e; omega)).trans hk4
            have HO4b := Lib.hid (HO4.out.kept g4b (.inr fun e => by have := HLT.out _ e; omega))
            have B4b := B4.grown g4b B4.size (fun j e => by cases e; omega)
            obtain ⟨r0, r1, r2, r3⟩ := two_cell hk4b
            obtain ⟨s1, s2⟩ := two_set hk4b (.int .i64 (K.x + -a)) (.int .i64 (K.y + b))
            obtain ⟨w5, hw5⟩ : ∃ w5, (w4b.setCell ⟨w.heap.size, 0, none⟩ (.int .i64 (K.x + -a))).setCell ⟨w.heap.size, 1, none⟩ (.int .i64 (K.y + b)) = w5 := ⟨_, rfl⟩
            rw [hw5] at s1 s2
            have HO5 := Lib.hid (HO4b.out.kept s2 (.inr fun e => by have := ownsRow_above HO4b.out e; omega))
            have B5 := B4b.grown s2 B4b.size (fun j e => by cases e; omega)
            obtain ⟨t0, t1, -, -⟩ := two_cell s1
            clear s2 HO4 HO4b B4 B4b hk4 hk4b g4b
            go_wp2_with (at_builtin; refine wpList_append_own _ rfl _ _ 46 rfl (w.heap.size + 1) 43 i0 (.agg #[.int .i64 0, .int .i64 0]) 2 16 Tryz.underlying46 HI.out HZ0.out HZ1.out HZ2.out rfl (by decide) _ _ _ rfl (HO5.out.alloc _) ⟨w5.heap.size, 0, none⟩ 1 1 [.int .i64 (K.x + -a), .int .i64 (K.y + b)] rfl rfl (two_new _ _ _ _) ?d2 ?d3 ?d4 ?d5 ?_)
            case d2 => intro u hu; simp at hu; rcases hu with rfl | rfl <;> rfl
            case d3 => unfold maxLen; omega
            case d4 => omega
            case d5 => have := (Array.getElem?_eq_some_iff.1 s1).1; simp; omega
            intro v' w7 hown7 hgrow7 _
            have z5 := (Array.getElem?_eq_some_iff.1 s1).1
            have B7 : Below w.heap.size w w7 := (B5.alloc B5.size (.cells #[.int .i64 (K.x + -a), .int .i64 (K.y + b)] 43)).grown hgrow7 (by simp; omega) (fun j e => by have := ownsRow_above HO5.out e; omega)
            have k7 := (hgrow7.block _ (by simp; omega) (fun h => by have := ownsRow_above HO5.out h.symm; omega)).trans ((Below.heap_alloc _ _ _ z5).trans s1)
            have HO7 := Lib.hid hown7
            clear hown7 hgrow7 s1 HO5 B5 hw5 hw4' hw4b
            go_wp2
            go_roundg (s.size - (m + 1))
            case rel => exact ⟨m + 1, by omega, by omega, by go_num, by rw [HPN.out]; exact k7, Lib.hid (by rw [HWN.out, kcellsL_snoc, List.length_append]; exact HO7.out), B7⟩
            case measure => omega
        · obtain rfl : m = s.size := by omega
          rw [HNX.out] at hk hown
          go_wp2
          go_roundg (c - (i + 1))
          case rel => exact ⟨i + 1, by omega, by omega, by go_num, hk, hown, hb⟩
          case measure => omega
    · obtain rfl : i = c := by omega
      go_wp2
      go_ret
      exact ⟨_, rfl, ownsRow_lower hown.out (by omega), hb⟩
end Go.Proofs.YtfmfpnnglogkmaaGreatDoor

/- An append leaves the row to which it appends: its first elements lie as they lay. -/
namespace Go.Proofs.YtfmfpnnglogkmaaGreatDoor
open Go.RowKit

theorem run_append_keeps {P : Program} (w : World) (t ty : TypeId) (base : Nat) (e : TypeId) (i : TypeInfo) (z : Value) (size bytes : Nat) (ht : P.underlying t = some (.slice e)) (hi : P.info? e = some i) (hz : i.zero = some z)
    (hsize : i.size = size) (hby : i.bytes = bytes) (hzs : z.cells.size = size) (hsz : 0 < size)
    (v : Value) (n : Nat) (xs : List Value) (hown : w.ownsRow base e size v n xs)
    (ad : Addr) (m c : Nat) (news : List Value) (hl : news.length = m * size) (hnews : ∀ j u, news[j]? = some u → w.cell? (ad.add j) = some u) (h1 : ∀ u ∈ news, u.oneCell' = true)
    (hm : 0 < m) (h63 : n + m ≤ maxLen) (hbytes : (n + m) * bytes ≤ 140737488355328) (hbase : base ≤ w.heap.size) (H : Nat) (hH : w.heap.size = H) :
    ∃ g cap w', (Builtin.append_ #[t, t] ty #[v, .slice (some ad) m c]).run P w = .ok (.slice (some ⟨g, 0, none⟩) (n + m) cap) w' ∧
      w'.ownsRow base e size (.slice (some ⟨g, 0, none⟩) (n + m) cap) (n + m) (xs ++ news) ∧ w.grownBy w' v.ownBlock ∧ w'.ownsRow base e size v n xs := by
  obtain ⟨g, cap, w', hr, h2, h3, -, -⟩ := run_append_lies (P := P) w t ty base e i z size bytes ht hi hz hsize hby hzs hsz v n xs hown ad m c news hl hnews h1 hm h63 hbytes hbase H hH
  refine ⟨g, cap, w', hr, h2, h3, hown.1, ?_⟩
  subst hsize
  subst hby
  rcases hown.2 with h0 | ⟨g0, cap0, cur, rfl, hbg, hg, hnc, hcm, hcs, htake⟩
  · exact .inl h0
  · refine .inr ?_
    by_cases hroom : n + m ≤ cap0
    · have hfit : n * i.size + news.length ≤ cur.size := by rw [hl, hcs, ← Nat.add_mul]; exact Nat.mul_le_mul_right _ hroom
      have hr' := run_append_room (P := P) w t ty e i ht hi g0 n cap0 cur hg ad m c news hl hnews h1 hroom hfit
      rw [hr] at hr'
      injection hr' with _ hw
      subst hw
      refine ⟨g0, cap0, _, rfl, hbg, setRow_heap w g0 cur _ e _ hg, hnc, hcm, ?_, ?_⟩
      · simp only [List.size_toArray, List.length_append, List.length_take, List.length_drop, Array.length_toList]
        omega
      · rw [htake, List.append_assoc]
        have : n * i.size = xs.length := hown.1.symm
        rw [this]
        exact List.take_left
    · have hsmall : n + m ≤ 9223372036854775807 := by simp only [maxLen] at h63; omega
      have holds : ∀ j u, xs[j]? = some u → w.cell? ((⟨g0, 0, none⟩ : Addr).add j) = some u := hown.cells (g := g0) rfl
      have hr' := run_append_grow (P := P) w t ty e i z ht hi hz ⟨g0, 0, none⟩ n cap0 xs hown.1 holds ad m c news hl hnews (by omega) (by omega) (growslice_fits (by omega) hbytes)
      rw [hr] at hr'
      injection hr' with _ hw
      subst hw
      exact ⟨g0, cap0, cur, rfl, hbg, (heap_alloc_old w.drew _ (r := g0) (by exact (Array.getElem?_eq_some_iff.1 hg).1)).trans hg, hnc, hcm, hcs, htake⟩
theorem step_append_keeps {P : Program} (w : World) {ops : Array Oper} {o : Oper} {a : Act} {K : Act → World → Prop} {Q : Exit → Act → World → Prop} {E : Prop} (hgd : o.guard = none) (s x : Operand) (t : TypeId)
    (ho : o.op = .call { callee := .builtin .append, args := #[s, x], argTypes := #[t, t] })
    (base : Nat) (e : TypeId) (i : TypeInfo) (z : Value) (size bytes : Nat) (ht : P.underlying t = some (.slice e)) (hi : P.info? e = some i) (hz : i.zero = some z)
    (hsize : i.size = size) (hby : i.bytes = bytes) (hzs : z.cells.size = size) (hsz : 0 < size)
    (v : Value) (n : Nat) (xs : List Value) (hs : a.eval s = v) (hown : w.ownsRow base e size v n xs)
    (ad : Addr) (m c : Nat) (news : List Value) (hx : a.eval x = .slice (some ad) m c) (hl : news.length = m * size) (hnews : ∀ j u, news[j]? = some u → w.cell? (ad.add j) = some u) (h1 : ∀ u ∈ news, u.oneCell' = true)
    (hm : 0 < m) (h63 : n + m ≤ maxLen) (hbytes : (n + m) * bytes ≤ 140737488355328) (hbase : base ≤ w.heap.size)
    (h : ∀ g cap w', w'.ownsRow base e size (.slice (some ⟨g, 0, none⟩) (n + m) cap) (n + m) (xs ++ news) → w.grownBy w' v.ownBlock → w'.ownsRow base e size v n xs → K (a.put o.dst (.slice (some ⟨g, 0, none⟩) (n + m) cap)) w') :
    if Region.wanted o (yielded ops a.tmps) = true then Oper.wp P o a w K Q else E := by
  have hw : Region.wanted o (yielded ops a.tmps) = true := by simp [Region.wanted, hgd]
  rw [if_pos hw]
  obtain ⟨g, cap, w', hr, h2, h3, h4⟩ := run_append_keeps (P := P) w t o.type base e i z size bytes ht hi hz hsize hby hzs hsz v n xs hown ad m c news hl hnews h1 hm h63 hbytes hbase _ rfl
  unfold Oper.wp execOp
  simp only [ho, resolve, invoke, builtin, Sem.run_bind, Sem.run_pure, Result.andThen_ok, List.map_toArray, List.map_cons, List.map_nil, hs, hx, hr]
  exact h g cap w' h2 h3 h4
end Go.Proofs.YtfmfpnnglogkmaaGreatDoor

/- Bars of the reference of chapter 2. -/
namespace Go.Proofs.YtfmfpnnglogkmaaGreatDoor
open Go.RowKit Go.Shelf Ck

theorem barsP_snoc (σ : Int) (k : Knot) (L : List UInt8) (c : UInt8) : barsP σ k (L ++ [c]) = barsP σ k L ++ (if c = 66 then [⟨(posK σ k L).x, (posK σ k L).y, (stepK σ (posK σ k L) c).x - (posK σ k L).x⟩] else []) := by
  rw [← barsOf_legs, ← barsOf_legs, legsL_snoc, barsOf_snoc]
theorem barsP_le (σ : Int) : ∀ (L : List UInt8) (k : Knot), (barsP σ k L).length ≤ L.length
  | [], _ => Nat.le_refl _
  | c :: r, k => by
    have ih := barsP_le σ r (stepK σ k c)
    rw [barsP_cons, List.length_cons]
    split
    · rw [List.length_cons]; omega
    · omega
theorem stepK_one (o : Bool) (k : Knot) {c : UInt8} (hc : isL c) : (((stepK (sg o) k c).y - k.y == 1) = true ↔ c = 66) := by
  rcases hc with rfl | rfl | rfl <;> simp [stepK, dyL] <;> omega
/-- A row of the call's own lies on where a row of another type grows. -/
theorem row_apart {w w' : World} {v v2 : Value} {b1 b2 e1 e2 z1 z2 n1 n2 : Nat} {xs ys : List Value} {tmp : Obj} (h : w.ownsRow b1 e1 z1 v n1 xs) (hrow : w.ownsRow b2 e2 z2 v2 n2 ys) (he : e1 ≠ e2) (hg : (w.alloc tmp).grownBy w' v2.ownBlock) : w'.ownsRow b1 e1 z1 v n1 xs := by
  refine (h.alloc _).kept hg ?_
  rcases h.2 with ⟨rfl, -⟩ | ⟨g, cap, cur, rfl, -, hgb, -⟩
  · exact .inl rfl
  · refine .inr fun e => ?_
    rcases hrow.2 with ⟨rfl, -⟩ | ⟨g2, cap2, cur2, rfl, -, hgb2, -⟩
    · simp [Value.ownBlock] at e
    · simp only [Value.ownBlock, Option.some.injEq] at e
      subst e
      rw [hgb] at hgb2
      injection hgb2 with h1
      injection h1 with _ h2 _
      exact he h2
theorem row_knot {w : World} {b t gk cap : Nat} {l : List Knot} (h : w.ownsRow b t 2 (.slice (some ⟨gk, 0, none⟩) l.length cap) l.length (kcellsL l)) {i : Nat} {p : Knot} (hp : l[i]? = some p) :
    gk < w.heap.size ∧ w.cell? ⟨gk, i * 2, none⟩ = some (.int .i64 p.x) ∧ w.cell? ⟨gk, i * 2 + 1, none⟩ = some (.int .i64 p.y) := by
  obtain ⟨hlt, rfl⟩ := List.getElem?_eq_some_iff.1 hp
  obtain ⟨a, c', e, hr⟩ := own_rkW h
  injection e with e1 _ _
  subst e1
  obtain ⟨b', off', e, hb, hc⟩ := hr (by omega)
  simp only [Option.some.injEq, Addr.mk.injEq] at e
  obtain ⟨rfl, rfl, -⟩ := e
  exact ⟨hb, by simpa using hc i hlt⟩
/-- What lies while a round appends: the knots and the row so far. -/
structure Sev (w0 : World) (gk cap : Nat) (K : List Knot) (e z : Nat) (v : Value) (n : Nat) (xs : List Value) (w : World) : Prop where
  kn : w.ownsRow w0.heap.size 43 2 (.slice (some ⟨gk, 0, none⟩) K.length cap) K.length (kcellsL K)
  row : w.ownsRow w0.heap.size e z v n xs
  b : Below w0.heap.size w0 w
theorem Sev.below {w0 w w' : World} {gk cap e z n : Nat} {K : List Knot} {v : Value} {xs : List Value} (h : Sev w0 gk cap K e z v n xs w) (hb : Below w.heap.size w w') : Sev w0 gk cap K e z v n xs w' :=
  ⟨ownsRow_below h.kn hb, ownsRow_below h.row hb, h.b.trans (hb.mono h.b.size)⟩
theorem Sev.grown {w0 w w' : World} {gk cap e z n : Nat} {K : List Knot} {v : Value} {xs : List Value} (h : Sev w0 gk cap K e z v n xs w) (he : 43 ≠ e) (hg : w.grownBy w' v.ownBlock) (hr : w'.ownsRow w0.heap.size e z v n xs) : Sev w0 gk cap K e z v n xs w' := by
  refine ⟨h.kn.kept hg ?_, hr, h.b.grown hg h.b.size (ownsRow_base h.row)⟩
  refine .inr fun e' => ?_
  rcases h.row.2 with ⟨rfl, -⟩ | ⟨g2, cap2, cur2, rfl, -, hgb2, -⟩
  · simp [Value.ownBlock] at e'
  · rcases h.kn.2 with ⟨h1, -⟩ | ⟨g1, cap1, cur1, h1, -, hgb1, -⟩
    · cases h1
    · injection h1 with h1 _ _
      injection h1 with h1
      injection h1 with h1 _ _
      subst h1
      simp only [Value.ownBlock, Option.some.injEq] at e'
      subst e'
      rw [hgb1] at hgb2
      injection hgb2 with h3
      injection h3 with _ h4 _
      exact he h4
/-- What the walk over the knots makes, as bars. -/
def RowPost (t : TypeId) (z : Nat) (n : Nat) (xs : List Value) (w : World) (e : Ending) (w' : World) : Prop := ∃ v, e = .returned v ∧ w'.ownsRow w.heap.size t z v n xs ∧ Below w.heap.size w w'
set_option maxHeartbeats 8000000 in
set_option maxRecDepth 100000 in
theorem rfBars (x y : Int) (s : ByteArray) (c : Nat) (o : Bool) (w : World) (h : EdgeG x y s c o) :
    Calls Tryz.prog 24 #[.agg #[.int .i64 x, .int .i64 y], .string s, .int .i64 c, .bool o] w (RowPost 74 3 (barsP (sg o) ⟨x, y⟩ (Lib.repeatL s.data.toList c)).length (bcellsL (barsP (sg o) ⟨x, y⟩ (Lib.repeatL s.data.toList c))) w) := by
  have HE := Lib.hid h
  have HLEN := Lib.hid (show (Lib.repeatL s.data.toList c).length ≤ 256 by rw [rep_len]; exact h.2.2.1)
  have HLET := Lib.hid (rep_letters h.1 c)
  obtain ⟨ib, hib, hi0, hi1, hi2⟩ := info_parts Tryz.info74
  have HB := Lib.hid hib
  have HB0 := Lib.hid hi0
  have HB1 := Lib.hid hi1
  have HB2 := Lib.hid hi2
  obtain ⟨w1, hw1, k0, hb1, hz⟩ := boxH2 w (.int .i64 x) (.int .i64 y) 43
  have HW1 := Lib.hid hw1
  obtain ⟨c0, c1, -, -⟩ := two_cell k0
  clear hw1 k0 h hib hi0 hi1 hi2
  go_enter Tryz.func24, Tryz.ntmps24
  go_wp2_with fail
  rw [← HW1.out]
  refine (rfWalk x y s c o _ HE.out.1 HE.out.2.2.1 HE.out.2.2.2.1).mono ?_
  rintro e w2 ⟨kv, rfl, hrow, hb2⟩
  have B2 := hb1.trans (hb2.mono hb1.size)
  obtain ⟨L, hL⟩ : ∃ L, Lib.repeatL s.data.toList c = L := ⟨_, rfl⟩
  rw [hL] at HLEN HLET hrow
  have HLL := Lib.hid hL
  have HK0 := Lib.hid (ownsRow_lower hrow (by omega : w.heap.size ≤ w1.heap.size))
  obtain ⟨K, hK⟩ : ∃ K, walkK (sg o) ⟨x, y⟩ L = K := ⟨_, rfl⟩
  have HKK := Lib.hid hK
  have hkl : K.length = L.length + 1 := by rw [← hK, walkK_length]
  rw [hK] at HK0
  rcases HK0.out.2 with ⟨-, h0⟩ | ⟨bq, cap, cur, rfl, -⟩
  · exact absurd h0 (by omega)
  have hlen := HLEN.out
  clear hL hK hrow hb1 hb2 c0 c1
  go_wp2_with fail
  go_loopg [10, 11] L.length (fun g bv iv wi => ∃ i : Nat, g = L.length - i ∧ i ≤ L.length ∧ iv = .int .i64 i ∧ Hid (wi.ownsRow w.heap.size 74 3 bv (barsP (sg o) ⟨x, y⟩ (L.take i)).length (bcellsL (barsP (sg o) ⟨x, y⟩ (L.take i)))) ∧ Hid (wi.ownsRow w.heap.size 43 2 (.slice (some ⟨bq, 0, none⟩) K.length cap) K.length (kcellsL K)) ∧ Below w.heap.size w wi)
  case atStart => exact ⟨0, by omega, by omega, rfl, Lib.hid ⟨rfl, .inl ⟨rfl, rfl⟩⟩, HK0, B2⟩
  case round =>
    clear B2 HK0
    obtain ⟨i, hg, hi, rfl, HR, HK, hb⟩ := hrel
    by_cases hlt : i < L.length
    · have hq := HLET.out _ (List.getElem_mem hlt)
      have hT : L.take (i + 1) = L.take i ++ [L[i]] := List.take_succ_eq_append_getElem hlt
      have HSN := Lib.hid (show barsP (sg o) ⟨x, y⟩ (L.take (i + 1)) = _ by rw [hT, barsP_snoc])
      have g1 := HKK.out ▸ walkK_get (σ := sg o) (k := ⟨x, y⟩) (L := L) (i := i) (by omega)
      have g2 := HKK.out ▸ walkK_get (σ := sg o) (k := ⟨x, y⟩) (L := L) (i := i + 1) (by omega)
      rw [hT, posK_snoc] at g2
      obtain ⟨P, hP⟩ : ∃ P, posK (sg o) ⟨x, y⟩ (L.take i) = P := ⟨_, rfl⟩
      obtain ⟨a, ha⟩ : ∃ a, L[i] = a := ⟨_, rfl⟩
      rw [hP, ha] at HSN g2
      rw [hP] at g1
      rw [ha] at hq
      obtain ⟨Q, hQ⟩ : ∃ Q, stepK (sg o) P a = Q := ⟨_, rfl⟩
      have hone := stepK_one o P hq
      have hnr := stepK_near o P a
      rw [hQ] at HSN g2 hone hnr
      have hpn := posK_near o (L.take i) ⟨x, y⟩
      rw [hP] at hpn
      have htl : (L.take i).length ≤ 256 := by rw [List.length_take]; omega
      obtain ⟨⟨x1, x2⟩, ⟨y1, y2⟩, -⟩ := HE.out.2.2.2.1
      simp only at x1 x2 y1 y2 hpn
      obtain ⟨m1, m2, m3, m4⟩ := hpn
      obtain ⟨n1, n2, n3, n4⟩ := hnr
      obtain ⟨hgk, k10, k11⟩ := row_knot HK.out g1
      obtain ⟨-, k20, k21⟩ := row_knot HK.out g2
      have w1' : IntKind.i64.wrap ((i : Int) + 1) = (i : Int) + 1 := by rw [IntKind.wrap_i64]; omega
      have w2' : IntKind.i64.wrap (Q.y - P.y) = Q.y - P.y := by rw [IntKind.wrap_i64]; omega
      have w3' : IntKind.i64.wrap (Q.x - P.x) = Q.x - P.x := by rw [IntKind.wrap_i64]; omega
      have hl1 : (i : Int) + 1 < (K.length : Int) := by omega
      have hl2 : (i : Int) < (K.length : Int) := by omega
      have hl3 : (0 : Int) ≤ (i : Int) := by omega
      have hl4 : (0 : Int) ≤ (i : Int) + 1 := by omega
      have hn1 : ((i : Int)).toNat = i := by omega
      have hn2 : ((i : Int) + 1).toNat = i + 1 := by omega
      have d1 : decide (K.length ≤ i) = false := decide_eq_false (by omega)
      have d2 : decide (K.length ≤ i + 1) = false := decide_eq_false (by omega)
      have HP := Lib.hid hP
      have HG1 := Lib.hid g1
      have HG2 := Lib.hid g2
      have HQ := Lib.hid hQ
      clear hT g1 g2 ha hP hQ m1 m2 m3 m4 n1 n2 n3 n4 htl x1 x2 y1 y2 hq
      go_wp2_with fail
      go_quiet (fail)
      have bd : Below wr.heap.size wr (World.drewN wr nq) := below_drewN (Below.refl _ _) _
      have HR1 := Lib.hid (ownsRow_below HR.out bd)
      have HK1 := Lib.hid (ownsRow_below HK.out bd)
      have B1 := hb.trans (bd.mono hb.size)
      clear HR HK hb bd k10 k11 k20 k21
      generalize World.drewN wr nq = w3 at *
      obtain ⟨-, k10, k11⟩ := row_knot HK1.out HG1.out
      obtain ⟨-, k20, k21⟩ := row_knot HK1.out HG2.out
      by_cases h66 : a = 66
      · have hb1 : (Q.y - P.y == 1) = true := hone.2 h66
        rw [if_pos h66] at HSN
        have hbl := Nat.le_trans (barsP_le (sg o) (L.take i) ⟨x, y⟩) (show (L.take i).length ≤ 256 by rw [List.length_take]; omega)
        obtain ⟨bs, hbs⟩ : ∃ bs, barsP (sg o) ⟨x, y⟩ (L.take i) = bs := ⟨_, rfl⟩
        rw [hbs] at HR1 HSN hbl
        clear hbs
        have B1z := B1.size
        have hq1 : (i : Int) < (L.length : Int) + 1 := by omega
        have hq2 : (i : Int) + 1 < (L.length : Int) + 1 := by omega
        have HV : Sev w bq cap K 74 3 u10 bs.length (bcellsL bs) w3 := ⟨HK1.out, HR1.out, B1⟩
        have HS7 : ∀ w', Sev w bq cap K 74 3 u10 bs.length (bcellsL bs) w' → (w'.cell? ⟨bq, i * 2, none⟩ = some (.int .i64 P.x) ∧ w'.cell? ⟨bq, i * 2 + 1, none⟩ = some (.int .i64 P.y) ∧ w'.cell? ⟨bq, (i + 1) * 2, none⟩ = some (.int .i64 Q.x)) ∧ Sev w bq cap K 74 3 u10 bs.length (bcellsL bs) w' := fun w' h => ⟨⟨(row_knot h.kn HG1.out).2.1, (row_knot h.kn HG1.out).2.2, (row_knot h.kn HG2.out).2.1⟩, h⟩
        have HS := Lib.hid HS7
        have HVV := Lib.hid HV
        clear HS7 HV
        go_wp2_with fail
        go_region_held3 (fun w' => (w'.cell? ⟨bq, i * 2, none⟩ = some (.int .i64 P.x) ∧ w'.cell? ⟨bq, i * 2 + 1, none⟩ = some (.int .i64 P.y) ∧ w'.cell? ⟨bq, (i + 1) * 2, none⟩ = some (.int .i64 Q.x)) ∧ Sev w bq cap K 74 3 u10 bs.length (bcellsL bs) w')
          (first
            | exact HS.out _ (HVV.out.below (below_drew (Below.refl _ _)))
            | (rename_i hv7 _ _; exact HS.out _ (hv7.2.below ((Below.refl _ _).alloc (Nat.le_refl _) _)))
            | exact HS.out _ (by assumption))
          ((
           rename_i hv7 _ _
           obtain ⟨-, hv7⟩ := hv7
           refine step_append_keeps _ rfl (.tmp 37) (.tmp 61) 49 rfl w.heap.size 74 ib (.agg #[.int .i64 0, .int .i64 0, .int .i64 0]) 3 24 Tryz.underlying49 HB.out HB0.out HB1.out HB2.out rfl (by decide) u10 bs.length (bcellsL bs) (by rfl) hv7.row ⟨_, 0, none⟩ 1 1 [.int .i64 P.x, .int .i64 P.y, .int .i64 (Q.x - P.x)] (by rfl) rfl (by exact three_new _ _ _ _ _) (by intro u hu; simp at hu; rcases hu with rfl | rfl | rfl <;> rfl) (by decide) (by unfold maxLen; omega) (by omega) hv7.b.size ?_
           intro g5 cap5 w5 hown5 hgrow5 hold5
           have hS5 : Sev w bq cap K 74 3 u10 bs.length (bcellsL bs) w5 := hv7.grown (by decide) hgrow5 hold5))
        have HR5 := Lib.hid hown5
        have HK5 := Lib.hid hS5.kn
        have B5 := hS5.b
        clear hown5 hgrow5 hold5 hS5 hv7 HS HVV
        go_wp2
        go_roundg (L.length - (i + 1))
        case rel => exact ⟨i + 1, by omega, by omega, by go_num, Lib.hid (by rw [HSN.out, List.length_append, bcellsL_snoc]; exact HR5.out), HK5, B5⟩
        case measure => omega
      · have hb1 : (Q.y - P.y == 1) = false := by rw [Bool.eq_false_iff]; exact fun hh => h66 (hone.1 hh)
        rw [if_neg h66, List.append_nil] at HSN
        go_wp2
        go_roundg (L.length - (i + 1))
        case rel => exact ⟨i + 1, by omega, by omega, by go_num, by rw [HSN.out]; exact HR1, HK1, B1⟩
        case measure => omega
    · obtain rfl : i = L.length := by omega
      have hl1 : ¬ (L.length : Int) + 1 < (K.length : Int) := by omega
      have w1' : IntKind.i64.wrap ((L.length : Int) + 1) = (L.length : Int) + 1 := by rw [IntKind.wrap_i64]; omega
      rw [List.take_length] at HR
      go_wp2
      go_ret
      exact ⟨_, rfl, by rw [HLL.out]; exact HR.out, hb⟩
end Go.Proofs.YtfmfpnnglogkmaaGreatDoor

/- Meshes of the reference of chapter 2. -/
namespace Go.Proofs.YtfmfpnnglogkmaaGreatDoor
open Go.RowKit Go.Shelf Ck

theorem midsP_snoc (σ : Int) (k : Knot) (L : List UInt8) (c : UInt8) : midsP σ k (L ++ [c]) = midsP σ k L ++ (if c = 66 then [] else [midK σ (posK σ k L) c]) := by
  rw [← midsOf_legs, ← midsOf_legs, legsL_snoc, midsOf_snoc]
theorem midsP_le (σ : Int) : ∀ (L : List UInt8) (k : Knot), (midsP σ k L).length ≤ L.length
  | [], _ => Nat.le_refl _
  | c :: r, k => by
    have ih := midsP_le σ r (stepK σ k c)
    rw [midsP, List.length_cons]
    split
    · omega
    · rw [List.length_cons]; omega
set_option maxHeartbeats 8000000 in
set_option maxRecDepth 100000 in
theorem rfMeshes (x y : Int) (s : ByteArray) (c : Nat) (o : Bool) (w : World) (h : EdgeG x y s c o) :
    Calls Tryz.prog 26 #[.agg #[.int .i64 x, .int .i64 y], .string s, .int .i64 c, .bool o] w (RowPost 66 2 (midsP (sg o) ⟨x, y⟩ (Lib.repeatL s.data.toList c)).length (kcellsL (midsP (sg o) ⟨x, y⟩ (Lib.repeatL s.data.toList c))) w) := by
  have HE := Lib.hid h
  have HLEN := Lib.hid (show (Lib.repeatL s.data.toList c).length ≤ 256 by rw [rep_len]; exact h.2.2.1)
  have HLET := Lib.hid (rep_letters h.1 c)
  obtain ⟨ib, hib, hi0, hi1, hi2⟩ := info_parts infoP
  have HB := Lib.hid hib
  have HB0 := Lib.hid hi0
  have HB1 := Lib.hid hi1
  have HB2 := Lib.hid hi2
  obtain ⟨w1, hw1, k0, hb1, hz⟩ := boxH2 w (.int .i64 x) (.int .i64 y) 43
  have HW1 := Lib.hid hw1
  obtain ⟨c0, c1, -, -⟩ := two_cell k0
  clear hw1 k0 h hib hi0 hi1 hi2
  go_enter Tryz.func26, Tryz.ntmps26
  go_wp2_with fail
  rw [← HW1.out]
  refine (rfWalk x y s c o _ HE.out.1 HE.out.2.2.1 HE.out.2.2.2.1).mono ?_
  rintro e w2 ⟨kv, rfl, hrow, hb2⟩
  have B2 := hb1.trans (hb2.mono hb1.size)
  obtain ⟨L, hL⟩ : ∃ L, Lib.repeatL s.data.toList c = L := ⟨_, rfl⟩
  rw [hL] at HLEN HLET hrow
  have HLL := Lib.hid hL
  have HK0 := Lib.hid (ownsRow_lower hrow (by omega : w.heap.size ≤ w1.heap.size))
  obtain ⟨K, hK⟩ : ∃ K, walkK (sg o) ⟨x, y⟩ L = K := ⟨_, rfl⟩
  have HKK := Lib.hid hK
  have hkl : K.length = L.length + 1 := by rw [← hK, walkK_length]
  rw [hK] at HK0
  rcases HK0.out.2 with ⟨-, h0⟩ | ⟨bq, cap, cur, rfl, -⟩
  · exact absurd h0 (by omega)
  have hlen := HLEN.out
  clear hL hK hrow hb1 hb2 c0 c1
  go_wp2_with fail
  go_loopg [10, 11] L.length (fun g bv iv wi => ∃ i : Nat, g = L.length - i ∧ i ≤ L.length ∧ iv = .int .i64 i ∧ Hid (wi.ownsRow w.heap.size 66 2 bv (midsP (sg o) ⟨x, y⟩ (L.take i)).length (kcellsL (midsP (sg o) ⟨x, y⟩ (L.take i)))) ∧ Hid (wi.ownsRow w.heap.size 43 2 (.slice (some ⟨bq, 0, none⟩) K.length cap) K.length (kcellsL K)) ∧ Below w.heap.size w wi)
  case atStart => exact ⟨0, by omega, by omega, rfl, Lib.hid ⟨rfl, .inl ⟨rfl, rfl⟩⟩, HK0, B2⟩
  case round =>
    clear B2 HK0
    obtain ⟨i, hg, hi, rfl, HR, HK, hb⟩ := hrel
    by_cases hlt : i < L.length
    · have hq := HLET.out _ (List.getElem_mem hlt)
      have hT : L.take (i + 1) = L.take i ++ [L[i]] := List.take_succ_eq_append_getElem hlt
      have HSN := Lib.hid (show midsP (sg o) ⟨x, y⟩ (L.take (i + 1)) = _ by rw [hT, midsP_snoc])
      have g1 := HKK.out ▸ walkK_get (σ := sg o) (k := ⟨x, y⟩) (L := L) (i := i) (by omega)
      have g2 := HKK.out ▸ walkK_get (σ := sg o) (k := ⟨x, y⟩) (L := L) (i := i + 1) (by omega)
      rw [hT, posK_snoc] at g2
      obtain ⟨P, hP⟩ : ∃ P, posK (sg o) ⟨x, y⟩ (L.take i) = P := ⟨_, rfl⟩
      obtain ⟨a, ha⟩ : ∃ a, L[i] = a := ⟨_, rfl⟩
      rw [hP, ha] at HSN g2
      rw [hP] at g1
      rw [ha] at hq
      obtain ⟨Q, hQ⟩ : ∃ Q, stepK (sg o) P a = Q := ⟨_, rfl⟩
      have hone := stepK_one o P hq
      have hhalf := fun h66 => mids_half o (k := P) hq h66
      have hmn := mid_near o P a
      have hnr := stepK_near o P a
      obtain ⟨M, hM⟩ : ∃ M, midK (sg o) P a = M := ⟨_, rfl⟩
      rw [hM] at HSN hhalf hmn
      rw [hQ] at g2 hone hnr hhalf
      have HM := Lib.hid hM
      have hpn := posK_near o (L.take i) ⟨x, y⟩
      rw [hP] at hpn
      have htl : (L.take i).length ≤ 256 := by rw [List.length_take]; omega
      obtain ⟨⟨x1, x2⟩, ⟨y1, y2⟩, -⟩ := HE.out.2.2.2.1
      simp only at x1 x2 y1 y2 hpn
      obtain ⟨m1, m2, m3, m4⟩ := hpn
      obtain ⟨n1, n2, n3, n4⟩ := hnr
      obtain ⟨r1, r2, r3, r4⟩ := hmn
      obtain ⟨hgk, k10, k11⟩ := row_knot HK.out g1
      obtain ⟨-, k20, k21⟩ := row_knot HK.out g2
      have w1' : IntKind.i64.wrap ((i : Int) + 1) = (i : Int) + 1 := by rw [IntKind.wrap_i64]; omega
      have w2' : IntKind.i64.wrap (Q.y - P.y) = Q.y - P.y := by rw [IntKind.wrap_i64]; omega
      have w3' : IntKind.i64.wrap (P.x + Q.x) = P.x + Q.x := by rw [IntKind.wrap_i64]; omega
      have w4' : IntKind.i64.wrap (P.y + Q.y) = P.y + Q.y := by rw [IntKind.wrap_i64]; omega
      have w5' : IntKind.i64.wrap M.x = M.x := by rw [IntKind.wrap_i64]; omega
      have w6' : IntKind.i64.wrap M.y = M.y := by rw [IntKind.wrap_i64]; omega
      have hl1 : (i : Int) + 1 < (K.length : Int) := by omega
      have hl2 : (i : Int) < (K.length : Int) := by omega
      have hl3 : (0 : Int) ≤ (i : Int) := by omega
      have hl4 : (0 : Int) ≤ (i : Int) + 1 := by omega
      have hn1 : ((i : Int)).toNat = i := by omega
      have hn2 : ((i : Int) + 1).toNat = i + 1 := by omega
      have d1 : decide (K.length ≤ i) = false := decide_eq_false (by omega)
      have d2 : decide (K.length ≤ i + 1) = false := decide_eq_false (by omega)
      have HP := Lib.hid hP
      have HG1 := Lib.hid g1
      have HG2 := Lib.hid g2
      have HQ := Lib.hid hQ
      clear hT g1 g2 ha hP hQ hM m1 m2 m3 m4 n1 n2 n3 n4 r1 r2 r3 r4 htl x1 x2 y1 y2 hq
      go_wp2_with fail
      go_quiet (fail)
      have bd : Below wr.heap.size wr (World.drewN wr nq) := below_drewN (Below.refl _ _) _
      have HR1 := Lib.hid (ownsRow_below HR.out bd)
      have HK1 := Lib.hid (ownsRow_below HK.out bd)
      have B1 := hb.trans (bd.mono hb.size)
      clear HR HK hb bd k10 k11 k20 k21
      generalize World.drewN wr nq = w3 at *
      obtain ⟨-, k10, k11⟩ := row_knot HK1.out HG1.out
      obtain ⟨-, k20, k21⟩ := row_knot HK1.out HG2.out
      by_cases h66 : a = 66
      · have hb1 : (Q.y - P.y != 1) = false := by
          have := hone.2 h66
          simp only [beq_iff_eq] at this
          rw [this]; rfl
        rw [if_pos h66, List.append_nil] at HSN
        go_wp2
        go_roundg (L.length - (i + 1))
        case rel => exact ⟨i + 1, by omega, by omega, by go_num, by rw [HSN.out]; exact HR1, HK1, B1⟩
        case measure => omega
      · have hb1 : (Q.y - P.y != 1) = true := by
          rw [bne_iff_ne]
          intro e
          exact h66 (hone.1 (by rw [e]; rfl))
        obtain ⟨hm1, hm2⟩ := hhalf h66
        rw [if_neg h66] at HSN
        have hbl := Nat.le_trans (midsP_le (sg o) (L.take i) ⟨x, y⟩) (show (L.take i).length ≤ 256 by rw [List.length_take]; omega)
        obtain ⟨bs, hbs⟩ : ∃ bs, midsP (sg o) ⟨x, y⟩ (L.take i) = bs := ⟨_, rfl⟩
        rw [hbs] at HR1 HSN hbl
        clear hbs
        have B1z := B1.size
        have hq1 : (i : Int) < (L.length : Int) + 1 := by omega
        have hq2 : (i : Int) + 1 < (L.length : Int) + 1 := by omega
        have HV : Sev w bq cap K 66 2 u10 bs.length (kcellsL bs) w3 := ⟨HK1.out, HR1.out, B1⟩
        have HS7 : ∀ w', Sev w bq cap K 66 2 u10 bs.length (kcellsL bs) w' → (w'.cell? ⟨bq, i * 2, none⟩ = some (.int .i64 P.x) ∧ w'.cell? ⟨bq, i * 2 + 1, none⟩ = some (.int .i64 P.y) ∧ w'.cell? ⟨bq, (i + 1) * 2, none⟩ = some (.int .i64 Q.x) ∧ w'.cell? ⟨bq, (i + 1) * 2 + 1, none⟩ = some (.int .i64 Q.y)) ∧ Sev w bq cap K 66 2 u10 bs.length (kcellsL bs) w' := fun w' h => ⟨⟨(row_knot h.kn HG1.out).2.1, (row_knot h.kn HG1.out).2.2, (row_knot h.kn HG2.out).2.1, (row_knot h.kn HG2.out).2.2⟩, h⟩
        have HS := Lib.hid HS7
        have HVV := Lib.hid HV
        clear HS7 HV
        go_wp2_with fail
        go_region_held3 (fun w' => (w'.cell? ⟨bq, i * 2, none⟩ = some (.int .i64 P.x) ∧ w'.cell? ⟨bq, i * 2 + 1, none⟩ = some (.int .i64 P.y) ∧ w'.cell? ⟨bq, (i + 1) * 2, none⟩ = some (.int .i64 Q.x) ∧ w'.cell? ⟨bq, (i + 1) * 2 + 1, none⟩ = some (.int .i64 Q.y)) ∧ Sev w bq cap K 66 2 u10 bs.length (kcellsL bs) w')
          (first
            | exact HS.out _ (HVV.out.below (below_drew (Below.refl _ _)))
            | (rename_i hv7 _ _; exact HS.out _ (hv7.2.below ((Below.refl _ _).alloc (Nat.le_refl _) _)))
            | exact HS.out _ (by assumption))
          ((
           rename_i hv7 _ _
           obtain ⟨-, hv7⟩ := hv7
           refine step_append_keeps _ rfl (.tmp 37) (.tmp 65) 52 rfl w.heap.size 66 ib (.agg #[.int .i64 0, .int .i64 0]) 2 16 Tryz.underlying52 HB.out HB0.out HB1.out HB2.out rfl (by decide) u10 bs.length (kcellsL bs) (by rfl) hv7.row ⟨_, 0, none⟩ 1 1 [.int .i64 M.x, .int .i64 M.y] (by rfl) rfl (by exact two_new _ _ _ _) (by intro u hu; simp at hu; rcases hu with rfl | rfl <;> rfl) (by decide) (by unfold maxLen; omega) (by omega) hv7.b.size ?_
           intro g5 cap5 w5 hown5 hgrow5 hold5
           have hS5 : Sev w bq cap K 66 2 u10 bs.length (kcellsL bs) w5 := hv7.grown (by decide) hgrow5 hold5))
        have HR5 := Lib.hid hown5
        have HK5 := Lib.hid hS5.kn
        have B5 := hS5.b
        clear hown5 hgrow5 hold5 hS5 hv7 HS HVV
        go_wp2
        go_roundg (L.length - (i + 1))
        case rel => exact ⟨i + 1, by omega, by omega, by go_num, Lib.hid (by rw [HSN.out, List.length_append, kcellsL_snoc]; exact HR5.out), HK5, B5⟩
        case measure => omega
    · obtain rfl : i = L.length := by omega
      have hl1 : ¬ (L.length : Int) + 1 < (K.length : Int) := by omega
      have w1' : IntKind.i64.wrap ((L.length : Int) + 1) = (L.length : Int) + 1 := by rw [IntKind.wrap_i64]; omega
      rw [List.take_length] at HR
      go_wp2
      go_ret
      exact ⟨_, rfl, by rw [HLL.out]; exact HR.out, hb⟩
end Go.Proofs.YtfmfpnnglogkmaaGreatDoor

/- A loop over a function that keeps a variable of its own in a box of the type e: the body may leave the loop. -/
namespace Go.Proofs.YtfmfpnnglogkmaaGreatDoor
open Go.RowKit Go.Shelf

/-- A round either goes on, or leaves the function by a return. -/
def RoundEndL {α : Type} (B : Nat) (Kp : World → World → Prop) (I Ix : List α → World → Prop) (xs : List α) (W : World) : Exit → Act → World → Prop
  | .normal, _, W' => Book B W W' ∧ Kp W W' ∧ I xs W'
  | .ret, _, W' => Book B W W' ∧ Ix xs W'
  | _, _, _ => False

/-- What the loop asks of the function over which it goes. -/
def VisitsL {α : Type} (P : Program) (n : Nat) (e : TypeId) (gf : Nat) (lb : Array Value) (encs : α → Array Value) (Kp : World → World → Prop) (S : List α → Prop) (G : List α → α → Prop) (w : World) : Prop :=
  ∀ (l : Nat) (J Jx : List α → World → Prop) (W : World), Below w.heap.size w W → Bides W.heap.size e J → Bides W.heap.size e Jx →
    (∀ pre x W1, J pre W1 → G pre x → YieldAt Fence.wide (n - 1) P l (encs x) W1 fun en W' => (en = .returned (.bool true) ∧ J (pre ++ [x]) W' ∧ Kp W1 W') ∨ (en = .returned (.bool false) ∧ Jx (pre ++ [x]) W')) →
    J [] W → CallsIn Fence.wide n P gf (#[.func (.yield l) #[] #[]] ++ lb) W fun en W' => (∃ v, en = .returned v) ∧ ((∃ xs, S xs ∧ J xs W') ∨ ∃ pre, Jx pre W')

theorem wpIn_visitsL {α : Type} {P : Program} {n : Nat} {e : TypeId} {g : Operand} {ps : Array Tmp} {assign body : Code} {Q : Exit → Act → World → Prop} {a : Act} {w : World} (h1 : 1 ≤ n)
    {gf : Nat} {lb : Array Value} (hg : a.eval g = .func (.func gf) #[] lb) (eg : ∀ args w, (callFunc gf args).run P w = .ok (.enter gf args) w)
    {encs : α → Array Value} {Kp : World → World → Prop} {S : List α → Prop} {G : List α → α → Prop} (hseq : VisitsL P (n - 1) e gf lb encs Kp S G w)
    (hKt : ∀ {A B C : World}, Kp A B → Kp B C → Kp A C) (hKb : ∀ (W : World) (l : Nat) (o o' : Obj), w.heap.size ≤ l → W.heap[l]? = some o → o.isCells = false → o.isWalk = false → Kp W (W.putObj l o')) (hps : ∀ x, (encs x).size = ps.size)
    (I Ix : List α → World → Prop) (hI : Bides w.heap.size e I) (hIx : Bides w.heap.size e Ix) (h0 : I [] w)
    (hround : ∀ (l : Nat) (pre : List α) (x : α) (W : World), w.heap.size + 2 ≤ W.heap.size → I pre W → G pre x →
      assign.wpIn (Fence.wide.inRound l) (n - 1 - 1) P (Exit.then (fun a' Wa => Book w.heap.size W Wa ∧ Kp W Wa ∧
        ∀ Wb, Wa.grownBy Wb (some (w.heap.size + 1)) → (∃ o, Wa.heap[w.heap.size + 1]? = some o ∧ o.isCells = false) → ((∃ o, Wb.heap[w.heap.size]? = some o ∧ o.isCells = false) ∧ ∃ o, Wb.heap[w.heap.size + 1]? = some o ∧ o.isCells = false) → body.wpIn (Fence.wide.inRound l) (n - 1 - 1) P (RoundEndL w.heap.size Kp I Ix (pre ++ [x]) Wb) a' Wb) (fun _ _ _ => False))
        { tmps := (ps.zip (encs x)).foldl (fun t (p, v) => t.setIfInBounds p v) a.tmps, defers := [] } W)
    (hdone : ∀ (D : Nat) (xs : List α) (W : World), w.heap.size ≤ D → S xs → I xs W → W.heap[D]? = some (.deferred (some [])) → Q .normal { a with defers := { target := .collected D, args := #[] } :: a.defers } W)
    (hstop : ∀ (D : Nat) (pre : List α) (W : World), w.heap.size ≤ D → Ix pre W → W.heap[D]? = some (.deferred (some [])) → Q .ret { a with defers := { target := .collected D, args := #[] } :: a.defers } W) :
    (Code.rangeFunc g ps assign body).wpIn Fence.wide n P Q a w := by
  refine wpIn_rangeFunc fun fn _ => ?_
  obtain ⟨L, hL⟩ : ∃ L : LoopState → Option Code → Loop, L = fun s j => { state := s, pending := j, fn, tmps := a.tmps, params := ps, assign, body, defers := w.heap.size } := ⟨_, rfl⟩
  obtain ⟨W1, hW1⟩ : ∃ W1, W1 = (w.alloc (.deferred (some []))).alloc (.loop (L .ready none)) := ⟨_, rfl⟩
  have s1 : W1.heap.size = w.heap.size + 2 := by rw [hW1]; simp
  have b1 : Below w.heap.size w W1 := by rw [hW1]; exact ((Below.refl _ _).alloc (Nat.le_refl _) _).alloc (by simp) _
  have r1 : W1.heap[w.heap.size + 1]? = some (.loop (L .ready none)) := by
    rw [hW1]
    have := World.alloc_heap_new (w.alloc (.deferred (some []))) (.loop (L .ready none))
    rwa [World.size_alloc] at this
  have d1 : W1.heap[w.heap.size]? = some (.deferred (some [])) := by
    rw [hW1, Below.heap_alloc _ _ _ (by simp)]
    exact World.alloc_heap_new w _
  refine ⟨w.heap.size + 1, [{ target := .collected w.heap.size, args := #[] }], W1, { target := .fn (.func gf) lb, args := #[.func (.yield (w.heap.size + 1)) #[] #[]] }, W1, gf,
    #[.func (.yield (w.heap.size + 1)) #[] #[]] ++ lb, W1, by rw [hW1, hL]; exact run_enterLoop_outer _ _ _ _ _, ?_, fun _ _ => trivial, by simp [invoke, go_sem, eg], fun _ => h1, ?_⟩
  · simp only [resolve, hg]
    simp [go_sem]
  refine (hseq (w.heap.size + 1) (fun pre W => I pre W ∧ (W.heap[w.heap.size]? = some (.deferred (some [])) ∧ W.heap[w.heap.size + 1]? = some (.loop (L .ready none))))
    (fun pre W => Ix pre W ∧ (W.heap[w.heap.size]? = some (.deferred (some [])) ∧ W.heap[w.heap.size + 1]? = some (.loop (L .done (some .ret))))) W1 b1 ?bid ?bix ?yields ⟨hI.below h0 b1, d1, r1⟩).mono ?after
  case bid =>
    intro s X Y r hs hgr hr
    refine ⟨hI s X Y r hs.1 hgr fun b hb => ?_, ?_, ?_⟩
    · obtain ⟨h, o, ho⟩ := hr b hb
      exact ⟨by omega, o, ho⟩
    · exact (hgr.block _ (Array.getElem?_eq_some_iff.1 hs.2.1).1 (fun h => by have := (hr _ h.symm).1; omega)).trans hs.2.1
    · exact (hgr.block _ (Array.getElem?_eq_some_iff.1 hs.2.2).1 (fun h => by have := (hr _ h.symm).1; omega)).trans hs.2.2
  case bix =>
    intro s X Y r hs hgr hr
    refine ⟨hIx s X Y r hs.1 hgr fun b hb => ?_, ?_, ?_⟩
    · obtain ⟨h, o, ho⟩ := hr b hb
      exact ⟨by omega, o, ho⟩
    · exact (hgr.block _ (Array.getElem?_eq_some_iff.1 hs.2.1).1 (fun h => by have := (hr _ h.symm).1; omega)).trans hs.2.1
    · exact (hgr.block _ (Array.getElem?_eq_some_iff.1 hs.2.2).1 (fun h => by have := (hr _ h.symm).1; omega)).trans hs.2.2
  case yields =>
    rintro pre x W ⟨hi, hd, hl⟩ hlen
    have hz := (Array.getElem?_eq_some_iff.1 hl).1
    have hy := run_yield (P := P) (args := encs x) hl (by rw [hL]; exact hps x)
    rw [hL] at hy
    refine ⟨fn, _, assign, body, hy, roundIn_of_wpIn trivial (wpIn_mono (hround _ pre x W (by omega) hi hlen) ?_)⟩
    rintro en a' Wa hp
    cases en with
    | normal =>
      obtain ⟨⟨k1, k2, k3⟩, kp, hbody⟩ := hp
      have hla := k2.trans hl
      have hza := (Array.getElem?_eq_some_iff.1 hla).1
      refine ⟨_, run_beginRound hla (by rw [hL]), ?_⟩
      have hlb : (Wa.putObj (w.heap.size + 1) (.loop { L .ready none with state := .busy })).heap[w.heap.size + 1]? = some (.loop { L .ready none with state := .busy }) := World.putObj_heap_same hza
      have hdb : (Wa.putObj (w.heap.size + 1) (.loop { L .ready none with state := .busy })).heap[w.heap.size]? = some (.deferred (some [])) := (World.putObj_heap_other (by omega)).trans (k1.trans hd)
      have kb : Kp Wa (Wa.putObj (w.heap.size + 1) (.loop { L .ready none with state := .busy })) := hKb _ _ _ _ (by omega) hla rfl rfl
      refine wpIn_mono (hbody _ (grownBy_putObj' _ _ _) ⟨_, hla, rfl⟩ ⟨⟨_, hdb, rfl⟩, ⟨_, hlb, rfl⟩⟩) ?_
      rintro e3 a3 W3 hp3
      cases e3 with
      | normal =>
        obtain ⟨⟨m1, m2, m3⟩, kp3, hi3⟩ := hp3
        have hl3 := m2.trans hlb
        have hz3 := (Array.getElem?_eq_some_iff.1 hl3).1
        refine ⟨_, _, run_endRound none hl3, .inl ⟨rfl, ⟨hI.put _ hi3 (by omega) hl3 rfl, (World.putObj_heap_other (by omega)).trans (m1.trans hdb), ?_⟩, hKt kp (hKt (hKt kb kp3) (hKb _ _ _ _ (by omega) hl3 rfl rfl))⟩⟩
        rw [World.putObj_heap_same hz3, hL]
        rfl
      | ret =>
        obtain ⟨⟨m1, m2, m3⟩, hi3⟩ := hp3
        have hl3 := m2.trans hlb
        have hz3 := (Array.getElem?_eq_some_iff.1 hl3).1
        refine ⟨_, _, run_endRound (some .ret) hl3, .inr ⟨rfl, hIx.put _ hi3 (by omega) hl3 rfl, (World.putObj_heap_other (by omega)).trans (m1.trans hdb), ?_⟩⟩
        rw [World.putObj_heap_same hz3, hL]
        rfl
      | _ => exact hp3.elim
    | _ => exact hp.elim
  case after =>
    rintro en W2 ⟨⟨v, rfl⟩, ⟨xs, hS, hi, hd, hl⟩ | ⟨pre, hi, hd, hl⟩⟩
    · exact ⟨none, _, by have := run_endLoop (P := P) hl (by rw [hL]; simp); rw [hL] at this; exact this, hdone _ xs _ (Nat.le_refl _) hS (hI.put _ hi (by omega) hl rfl) ((World.putObj_heap_other (by omega)).trans hd)⟩
    · exact ⟨some .ret, _, by have := run_endLoop (P := P) hl (by rw [hL]; simp); rw [hL] at this; exact this, wpIn_ret (hstop _ pre _ (Nat.le_refl _) (hIx.put _ hi (by omega) hl rfl) ((World.putObj_heap_other (by omega)).trans hd))⟩
end Go.Proofs.YtfmfpnnglogkmaaGreatDoor

/- The letters of an edge, one after another, where the loop's body may leave: what legs visits. -/
namespace Go.Proofs.YtfmfpnnglogkmaaGreatDoor
open Go.RowKit Go.Shelf Ck

set_option maxHeartbeats 4000000 in
set_option maxRecDepth 100000 in
theorem legs_visitsL (B1 n Ba Bs Bn Bb : Nat) (te : TypeId) (hn : 3 ≤ n) (x y : Int) (s : ByteArray) (c : Nat) (o : Bool) (w : World) (ht2 : 4 ≠ te) (hs : Word s) (hlen : c * s.size ≤ 256) (hx1 : -100000 ≤ x) (hx2 : x ≤ 100000) (hy1 : -100000 ≤ y) (hy2 : y ≤ 100000)
    (hBb1 : B1 ≤ Bb) (_ : B1 ≤ w.heap.size)
    (ha : w.heap[Ba]? = some (.cells #[.int .i64 x, .int .i64 y] 43 (0, 0))) (hb : w.heap[Bs]? = some (.cells #[.string s] 9 (0, 0))) (hcn : w.heap[Bn]? = some (.cells #[.int .i64 c] 3 (0, 0))) (ho : w.heap[Bb]? = some (.cells #[.bool o] 4 (0, 0))) :
    VisitsL Tryz.prog n 43 99 #[.pointer (some ⟨Ba, 0, none⟩), .pointer (some ⟨Bs, 0, none⟩), .pointer (some ⟨Bn, 0, none⟩), .pointer (some ⟨Bb, 0, none⟩)] legArr (KT B1 te) (fun ss => ss = legsL (sg o) ⟨x, y⟩ (Lib.repeatL s.data.toList c)) (fun pre x' => ∃ r, legsL (sg o) ⟨x, y⟩ (Lib.repeatL s.data.toList c) = pre ++ x' :: r) w := by
  intro l J Jx W hbw hJ hJx hY h0
  have h1n : 1 ≤ n := by omega
  have fv : Fence.wide.fn 100 := trivial
  have fr : Fence.wide.fn 83 := trivial
  have ff : Fence.wide.fn 101 := trivial
  have za := (Array.getElem?_eq_some_iff.1 ha).1
  have zb := (Array.getElem?_eq_some_iff.1 hb).1
  have zc := (Array.getElem?_eq_some_iff.1 hcn).1
  have zo := (Array.getElem?_eq_some_iff.1 ho).1
  have hWz := hbw.size
  -- what is repeated
  have hc256 : c ≤ 256 := by have := Nat.mul_le_mul_left c hs.2.1; omega
  obtain ⟨L, hL⟩ : ∃ L, Lib.repeatL s.data.toList c = L := ⟨_, rfl⟩
  have hLl : L.length ≤ 256 := by rw [← hL, Lib.repeatL_length, ← Lib.size_eq]; exact hlen
  have hLL : ∀ q ∈ L, isL q := by
    rw [← hL]
    clear hL hLl hlen hcn hc256 hY
    induction c with
    | zero => intro q hq; simp [Lib.repeatL] at hq
    | succ c ih => intro q hq; rw [Lib.repeatL, List.mem_append] at hq; exact hq.elim (hs.1 q) (ih q)
  obtain ⟨S, hS⟩ : ∃ S : ByteArray, S = ⟨L.toArray⟩ := ⟨_, rfl⟩
  have hSz : S.size = L.length := by rw [hS]; simp [ByteArray.size]
  have hSd : S.data.toList = L := by rw [hS]
  have HS := Lib.hid hS
  have HSZ := Lib.hid hSz
  have HSD := Lib.hid hSd
  clear hS hSz hSd
  obtain ⟨a0, a1, -, -⟩ := two_cell ((hbw.block Ba za).trans ha)
  have b0 := one_cell ((hbw.block Bs zb).trans hb)
  have c0 := one_cell ((hbw.block Bn zc).trans hcn)
  have hoW := (hbw.block Bb zo).trans ho
  refine callsIn_of_wp Tryz.func99 rfl trivial ?_ rfl
  simp only [Tryz.ntmps99, List.size_toArray, List.length_cons, List.length_nil, Nat.reduceAdd, Nat.reduceSub, Array.replicate_succ, Array.replicate_zero, List.push_toArray, List.append_toArray, List.nil_append, List.cons_append]
  have hj0 := h0
  clear h0
  gi_wp2_with (first
    | (gi_at_call 100; refine (callsIn_wide.2 (tpVectors _)).mono ?_; rintro e w1 ⟨rfl, hv1, hb1⟩; have hzv := hv1.lt; have hz1 := hb1.size; have e0 := (hb1.cell (p := ⟨Ba, 0, none⟩) (by show Ba < _; omega)).trans a0; have e1 := (hb1.cell (p := ⟨Ba, 1, none⟩) (by show Ba < _; omega)).trans a1; obtain ⟨w2, hw2, -, -, hb2, hz2⟩ := box2 w1 (.int .i64 x) (.int .i64 y) 43; have e2 := ((hb2.cell (p := ⟨Bs, 0, none⟩) (by show Bs < _; omega)).trans (hb1.cell (p := ⟨Bs, 0, none⟩) (by show Bs < _; omega))).trans b0; have e3 := ((hb2.cell (p := ⟨Bn, 0, none⟩) (by show Bn < _; omega)).trans (hb1.cell (p := ⟨Bn, 0, none⟩) (by show Bn < _; omega))).trans c0; have hw2' := hw2.symm; clear hw2)
    | (gi_at_call 83; refine (callsIn_wide.2 (tpRepeated s c _ (by have := hs.2.2; omega) hc256)).mono ?_; rintro e w3 ⟨rfl, hb3⟩; rw [hL, ← HS.out]))
  have HJ := Lib.hid hJ
  have hz3 := hb3.size
  -- the worlds up to the loop
  have hjr : J [] (w3.iter S 0) := hJ.below (hJ.below (hJ.below (hJ.below hj0 (hb1.mono (Nat.le_refl _))) (hw2' ▸ hb2)) hb3) ((Below.refl _ _).alloc (Nat.le_refl _) _)
  have hBw : Below W.heap.size W (w3.iter S 0) := (((hb1.trans (hb2.mono hz1)).trans (hb3.mono (by omega)))).alloc (by omega) _
  have hit0 : (w3.iter S 0).heap[w3.heap.size]? = some (.stringIter S 0) := World.iter_heap w3 S 0
  have hv3 : VecAt (w3.iter S 0) W.heap.size := by
    have q1 := hv1.lt
    refine hv1.of_block ?_
    rw [show (w3.iter S 0).heap[W.heap.size]? = w3.heap[W.heap.size]? from Below.heap_alloc _ _ _ (by omega), hb3.block _ (by omega), hb2.block _ q1]
  have hf3 : (w3.iter S 0).heap[w1.heap.size]? = some (.cells #[.int .i64 x, .int .i64 y] 43 (0, 0)) := by
    rw [show (w3.iter S 0).heap[w1.heap.size]? = w3.heap[w1.heap.size]? from Below.heap_alloc _ _ _ (by omega), hb3.block _ hz2, ← hw2']
    exact heap_alloc_new _ _
  have ho3 := (hBw.block Bb (by omega)).trans hoW
  generalize w3.iter S 0 = w4 at *
  clear hw2' hb2 hb3 hv1 hb1 e0 e1 e2 e3 hj0 a0 a1 b0 c0
  gi_loopw [9] (fun _ wr => ∃ (pos : Nat) (k : Knot), pos ≤ L.length ∧ k = posK (sg o) ⟨x, y⟩ (L.take pos) ∧ (k.x ≤ 100000 + 2 * (pos : Int) ∧ -100000 - 2 * (pos : Int) ≤ k.x ∧ k.y ≤ 100000 + 2 * (pos : Int) ∧ -100000 ≤ k.y) ∧
      wr.heap[w3.heap.size]? = some (.stringIter S pos) ∧ VecAt wr W.heap.size ∧ wr.heap[w1.heap.size]? = some (.cells #[.int .i64 k.x, .int .i64 k.y] 43 (0, 0)) ∧ wr.heap[Bb]? = some (.cells #[.bool o] 4 (0, 0)) ∧ J (legsL (sg o) ⟨x, y⟩ (L.take pos)) wr) (fun _ wr => S.size - wr.iterPos w3.heap.size)
  case atStart => exact ⟨0, ⟨x, y⟩, Nat.zero_le _, rfl, ⟨by simp; omega, by simp; omega, by simp; omega, hy1⟩, hit0, hv3, hf3, ho3, hjr⟩
  case round =>
    obtain ⟨pos, k, hpos, hk, ⟨kx1, kx2, ky1, ky2⟩, hit, hv, hf, hob, hj⟩ := hrel
    clear hit0 hv3 hf3 ho3 hjr
    by_cases hp : pos < S.size
    · have hSz := HSZ.out
      have hpl : pos < L.length := by omega
      have hkl : pos < S.data.toList.length := by rw [HSD.out]; exact hpl
      have hel : S[pos] = L[pos] := by rw [← byte_at S pos hp hkl]; simp only [HSD.out]
      obtain ⟨q, hq⟩ : ∃ q, q = L[pos] := ⟨_, rfl⟩
      have hLq : isL q := hq ▸ hLL _ (List.getElem_mem hpl)
      rw [← hq] at hel
      have hnext : ∀ ty, (Instr.next (.pointer (some ⟨w3.heap.size, 0, none⟩)) true ty).run Tryz.prog wr = _ := fun ty => Lib.run_next_ascii_at wr w3.heap.size S pos ty hit hp (by rw [hel]; exact isL_small hLq)
      rw [hel] at hnext
      have hmu : wr.iterPos w3.heap.size = pos := by simp [World.iterPos, hit]
      have hit1 := Lib.iterAt_heap wr w3.heap.size S pos (pos + 1) hit
      have hzi := (Array.getElem?_eq_some_iff.1 hit).1
      have hv1 := hv.of_block (Lib.iterAt_other wr w3.heap.size W.heap.size S (pos + 1) (by omega))
      have hf1 := (Lib.iterAt_other wr w3.heap.size w1.heap.size S (pos + 1) (by omega)).trans hf
      have hob1 := (Lib.iterAt_other wr w3.heap.size Bb S (pos + 1) (by omega)).trans hob
      have hgi : wr.grownBy (wr.iterAt w3.heap.size S (pos + 1)) (some w3.heap.size) := ⟨rfl, rfl, rfl, by simp [World.iterAt], fun i _ hi => Lib.iterAt_other _ _ _ _ _ (fun e => hi (by rw [e]))⟩
      have hj1 := HJ.out _ _ _ (some w3.heap.size) hj hgi (fun b e => by cases e; exact ⟨by omega, _, hit, .inl rfl⟩)
      generalize wr.iterAt w3.heap.size S (pos + 1) = W1 at hnext hit1 hv1 hf1 hob1 hj1
      clear hgi
      obtain ⟨f0, f1, -, -⟩ := two_cell hf1
      have o1 := one_cell hob1
      have hlk := vecLookup hv1 hLq
      obtain ⟨k', hk'⟩ : ∃ k', k' = stepK (sg o) k q := ⟨_, rfl⟩
      obtain ⟨n1, n2, n3, n4⟩ := step_near o (k := k) hLq
      rw [← hk'] at n1 n2 n3 n4
      have HK := Lib.hid hk'
      have HKK := Lib.hid hk
      have HQ := Lib.hid hq
      have HSNOC := Lib.hid (show legsL (sg o) ⟨x, y⟩ (L.take (pos + 1)) = legsL (sg o) ⟨x, y⟩ (L.take pos) ++ [(q, k, k')] by
        rw [List.take_succ_eq_append_getElem hpl, legsL_snoc, ← hk, ← hq, ← hk'])
      have HPOS := Lib.hid (show k' = posK (sg o) ⟨x, y⟩ (L.take (pos + 1)) by
        rw [List.take_succ_eq_append_getElem hpl, posK_snoc, ← hk, ← hq, ← hk'])
      have hlen' : ∃ r, legsL (sg o) ⟨x, y⟩ (Lib.repeatL s.data.toList c) = legsL (sg o) ⟨x, y⟩ (L.take pos) ++ (q, k, k') :: r := by
        refine ⟨legsL (sg o) (posK (sg o) ⟨x, y⟩ (L.take (pos + 1))) (L.drop (pos + 1)), ?_⟩
        have e1 := legsL_append (sg o) (L.take (pos + 1)) ⟨x, y⟩ (L.drop (pos + 1))
        rw [List.take_append_drop, HSNOC.out] at e1
        rw [hL, e1]
        simp
      have HLEN := Lib.hid hlen'
      clear hk' hk hq hel hkl hlen' hf hv hob hit hj
      gi_wp2_with (gi_at_call 101; refine (callsIn_wide.2 (tpFurtherK k q o _ hLq (by omega) (by omega) (by omega) (by omega))).mono ?_; rintro e W2 ⟨rfl, hb2⟩; rw [← HK.out]; have hzi2 := (Array.getElem?_eq_some_iff.1 hit1).1; have hz2' := hb2.size; have g1 := (hb2.block _ (Array.getElem?_eq_some_iff.1 hf1).1).trans hf1; obtain ⟨W3, hW3, m0, m1, hb3, hz3'⟩ := box2 W2 (.int .i64 k'.x) (.int .i64 k'.y) 43; have b13 := hb2.trans (hb3.mono hz2'); obtain ⟨g0, g1', -, -⟩ := two_cell ((b13.block _ (Array.getElem?_eq_some_iff.1 hf1).1).trans hf1); have hj3 := HJ.out.below hj1 b13; obtain ⟨fn, tmps, assign, body, hy, hR⟩ := hY _ (q, k, k') _ hj3 HLEN.out; dsimp only [legArr] at hy; have hW3' := hW3.symm; have T3 : W3.heap[W2.heap.size]? = some (.cells #[.int .i64 k'.x, .int .i64 k'.y] 43 (0, 0)) := (by rw [hW3]; exact heap_alloc_new _ _); clear hW3; have G3 := (b13.block _ (Array.getElem?_eq_some_iff.1 hf1).1).trans hf1; have I3 := (b13.block _ (Array.getElem?_eq_some_iff.1 hit1).1).trans hit1; have V3 := hv1.of_block (b13.block _ hv1.lt); have O3 := (b13.block _ (Array.getElem?_eq_some_iff.1 hob1).1).trans hob1)
      refine hR.mono ?_
      rintro e W4 (⟨rfl, hJ4, hk4⟩ | ⟨rfl, hx⟩)
      rotate_left
      · have HX := Lib.hid hx
        clear hx
        gi_wp2
        refine bodyPost_ret (results_none rfl _ _ _) rfl ?_
        exact ⟨⟨_, rfl⟩, .inr ⟨_, HX.out⟩⟩
      have hzi1 := (Array.getElem?_eq_some_iff.1 I3).1
      have T4 := hk4.2 _ _ (by omega) T3 (.inr ⟨_, _, _, rfl, .inr ⟨rfl, rfl⟩⟩)
      have G4 := hk4.2 _ _ (by omega) G3 (.inr ⟨_, _, _, rfl, .inr ⟨rfl, rfl⟩⟩)
      have I4 := hk4.2 _ _ (by omega) I3 (.inl rfl)
      have V4 : VecAt W4 W.heap.size := hk4.2 _ _ (by omega) V3 (.inl rfl)
      have O4 := hk4.2 _ _ hBb1 O3 (.inr ⟨_, _, _, rfl, .inl ht2⟩)
      obtain ⟨t0, t1, -, -⟩ := two_cell T4
      obtain ⟨u0, u1, u2, u3⟩ := two_cell G4
      clear T3 G3 I3 V3 O3 g0 g1 g1' m0 m1 f0 f1 o1 hlk hnext hW3'
      gi_wp2
      obtain ⟨G5, hg5⟩ := two_set G4 (.int .i64 k'.x) (.int .i64 k'.y)
      have hj5 := HJ.out _ _ _ (some w1.heap.size) hJ4 hg5 (fun b e => by cases e; exact ⟨hz1, _, G4, .inr ⟨_, _, rfl, rfl⟩⟩)
      rw [← HSNOC.out] at hj5
      have I5 := (hg5.block _ (Array.getElem?_eq_some_iff.1 I4).1 (fun e => by injection e; omega)).trans I4
      have V5 : VecAt _ W.heap.size := (hg5.block _ V4.lt (fun e => by injection e; omega)).trans V4
      have O5 := (hg5.block _ (Array.getElem?_eq_some_iff.1 O4).1 (fun e => by injection e; omega)).trans O4
      generalize (W4.setCell ⟨w1.heap.size, 0, none⟩ (.int .i64 k'.x)).setCell ⟨w1.heap.size, 1, none⟩ (.int .i64 k'.y) = W5 at *
      have hmu5 : W5.iterPos w3.heap.size = pos + 1 := by simp [World.iterPos, I5]
      go_roundw
      case rel => exact ⟨pos + 1, k', by omega, HPOS.out, ⟨by omega, by omega, by omega, by omega⟩, I5, V5, G5, O5, hj5⟩
      case measure =>
        rw [hmu, hmu5]
        omega
    · have hSz := HSZ.out
      obtain rfl : pos = L.length := by omega
      have hnext : ∀ ty, (Instr.next (.pointer (some ⟨w3.heap.size, 0, none⟩)) true ty).run Tryz.prog wr = _ := fun ty => Lib.run_next_end_at wr w3.heap.size S L.length ty hit hp
      rw [List.take_length] at hj
      have HJE := Lib.hid hj
      clear hj hk
      gi_wp2
      go_end0
      exact ⟨⟨_, rfl⟩, .inl ⟨_, by rw [hL], HJE.out⟩⟩
end Go.Proofs.YtfmfpnnglogkmaaGreatDoor

/- checkEdge of taper at an edge of which a knot is beyond the place. -/
namespace Go.Proofs.YtfmfpnnglogkmaaGreatDoor
open Go.RowKit Go.Shelf Ck
attribute [local go_sem] Oper.semAt_some

set_option maxHeartbeats 4000000 in
set_option maxRecDepth 100000 in
theorem tpCheckEdgeO (x y : Int) (s : ByteArray) (c : Nat) (o : Bool) (w : World) (hs : Word s) (hc1 : 1 ≤ c) (h2 : c * s.size ≤ 256) (hk : okKnot ⟨x, y⟩) (hout : ∃ q ∈ legsL (sg o) ⟨x, y⟩ (Lib.repeatL s.data.toList c), ¬ okKnot q.2.2) :
    Calls Tryz.prog 61 #[.agg #[.int .i64 x, .int .i64 y], .string s, .int .i64 c, .bool o] w fun e w' => e = .returned (.int .i64 32) ∧ Below w.heap.size w w' := by
  have HOUT := Lib.hid hout
  obtain ⟨⟨x1, x2⟩, ⟨y1, y2⟩, hp⟩ := hk
  clear hout
  simp only at x1 x2 y1 y2 hp
  have HK := Lib.hid ((knotE_ok x y).2 ⟨⟨by simp; omega, by simp; omega⟩, ⟨by simp; omega, by simp; omega⟩, hp⟩)
  have HR := Lib.hid (show (if (c : Int) < 1 ∨ 256 < (c : Int) then (3 : Int) else 0) = 0 by
    rw [if_neg]
    have := Nat.mul_le_mul_left c hs.2.1
    omega)
  have hmul : (s.size : Int) * (c : Int) ≤ 256 := by
    rw [Int.mul_comm, ← Int.natCast_mul]
    omega
  have hmul0 : 0 ≤ (s.size : Int) * (c : Int) := Int.mul_nonneg (by omega) (by omega)
  have HS := Lib.hid hs
  clear hs hp
  refine (callsIn_wide (n := 6)).1 (callsIn_of_wp_marks Tryz.func61 rfl trivial (wpIn_wide.2 ?_) rfl)
  simp only [Tryz.ntmps61, List.size_toArray, List.length_cons, List.length_nil, Nat.reduceAdd, Nat.reduceSub, Array.replicate_succ, Array.replicate_zero, List.push_toArray, List.append_toArray, List.nil_append, List.cons_append]
  obtain ⟨w1, hw1, hb1, hz1, ex, er⟩ : ∃ w1, w1 = (w.alloc (.cells #[.int .i64 x, .int .i64 y] 43)).alloc (.cells #[.int .i64 0] 30) ∧ Below w.heap.size w w1 ∧ w1.heap.size = w.heap.size + 2 ∧ w1.heap[w.heap.size]? = some (.cells #[.int .i64 x, .int .i64 y] 43 (0, 0)) ∧ w1.heap[w.heap.size + 1]? = some (.cells #[.int .i64 0] 30 (0, 0)) := by
    refine ⟨_, rfl, ((Below.refl _ _).alloc (Nat.le_refl _) _).alloc (by simp) _, by simp, ?_, ?_⟩
    · rw [Below.heap_alloc _ _ _ (by simp)]
      exact heap_alloc_new _ _
    · have := heap_alloc_new (w.alloc (.cells #[.int .i64 x, .int .i64 y] 43)) (.cells #[.int .i64 0] 30)
      rwa [World.size_alloc] at this
  have HW1 := Lib.hid hw1
  have HZ1 := Lib.hid hz1
  clear hw1 hz1
  go_wp2_with fail
  rw [← HW1.out]
  refine (netCheckKnot x y _).mono ?_
  rintro e w2 ⟨rfl, hb2⟩
  rw [HK.out]
  go_wp2_with fail
  refine (tpCheckWord s _ HS.out).mono ?_
  rintro e w3 ⟨rfl, hb3⟩
  go_wp2_with fail
  refine (tpCheckRange _ _ _ _).mono ?_
  rintro e w4 ⟨rfl, rfl⟩
  rw [HR.out]
  go_wp2_with fail
  refine (tpFirst3 _ _ 0 0 0 30 _ (by exact heap_alloc_new _ _)).mono ?_
  rintro e w5 ⟨rfl, rfl⟩
  rw [show firstE [0, 0, 0] = 0 from rfl]
  have b13 : Below w1.heap.size w1 w3 := hb2.trans (hb3.mono hb2.size)
  have b16 : Below w1.heap.size w1 (w3.alloc (.cells #[.int .i64 0, .int .i64 0, .int .i64 0] 30)) := b13.alloc b13.size _
  generalize w3.alloc (.cells #[.int .i64 0, .int .i64 0, .int .i64 0] 30) = w6 at *
  have hz1 := HZ1.out
  have ex6 := (b16.block _ (by omega)).trans ex
  have er6 := (b16.block _ (by omega)).trans er
  obtain ⟨f0, f1, -, -⟩ := two_cell ex6
  have bw6 := hb1.trans (b16.mono hb1.size)
  clear ex er hz1
  go_wp2_with fail
  refine (tpLegs x y s c o _).mono ?_
  rintro e w7 ⟨rfl, hw7⟩
  obtain ⟨W9, hW9, hb9, hz9, q0, q1, q2, q3⟩ := legs_boxes w6 x y c s o
  rw [← hW9] at hw7
  have hw7' := hw7.symm
  subst hw7'
  clear hW9
  have HZ9 := Lib.hid hz9
  have er9 := (hb9.block _ (Array.getElem?_eq_some_iff.1 er6).1).trans er6
  have her6 := (Array.getElem?_eq_some_iff.1 er6).1
  have bw9 := bw6.trans (hb9.mono bw6.size)
  clear hz9 f0 f1 hw7
  go_wp2_with fail
  have hvis := legs_visitsL w6.heap.size 4 w6.heap.size (w6.heap.size + 1) (w6.heap.size + 2) (w6.heap.size + 3) 104 (by omega) x y s c o W9 (by decide) HS.out h2 (by omega) (by omega) (by omega) (by omega) (by omega) (by rw [HZ9.out]; omega) q0 q1 q2 q3
  refine (wpIn_wide (n := 5)).1 ?_
  generalize hA0 : (Act.mk _ _) = A0
  refine wpIn_visitsL (n := 5) (by omega) (gf := 99) (lb := #[.pointer (some ⟨w6.heap.size, 0, none⟩), .pointer (some ⟨w6.heap.size + 1, 0, none⟩), .pointer (some ⟨w6.heap.size + 2, 0, none⟩), .pointer (some ⟨w6.heap.size + 3, 0, none⟩)]) (by rw [← hA0]; rfl) ?eg hvis KT.trans (KT.put (w := W9)) (fun _ => rfl)
    (fun pre W => (∀ q ∈ pre, okKnot q.2.2) ∧ Below w.heap.size w W ∧ (W.heap[w.heap.size + 1]? = some (.cells #[.int .i64 0] 30 (0, 0)) ∧ W9.heap.size ≤ W.heap.size))
    (fun _ W => Below w.heap.size w W ∧ (W.heap[w.heap.size + 1]? = some (.cells #[.int .i64 32] 30 (0, 0)) ∧ W9.heap.size ≤ W.heap.size))
    (Bides.and (fun _ _ _ _ h _ _ => h) (Bides.and (bides_below bw9.size (Nat.le_refl _)) (Bides.and (bides_block (by rw [HZ9.out]; omega)) bides_size)))
    (Bides.and (bides_below bw9.size (Nat.le_refl _)) (Bides.and (bides_block (by rw [HZ9.out]; omega)) bides_size)) ⟨by simp, bw9, er9, Nat.le_refl _⟩ ?round ?done ?stop
  case eg => exact fun _ _ => by kernel_rfl
  case round =>
    rintro l pre q W hz ⟨hpre, hbW, herW, hsW⟩ ⟨r, hr⟩
    have HPRE := Lib.hid hpre
    clear hpre hr r
    obtain ⟨z, hzk⟩ : ∃ z, knotE q.2.2.x q.2.2.y = z := ⟨_, rfl⟩
    have HKq := Lib.hid hzk
    clear hzk
    subst hA0
    dsimp only [legArr]
    gi_wp2
    have hb0 : Below W.heap.size W (W.alloc (.cells #[.int .i32 (q.1.toNat : Int), .int .i64 q.2.1.x, .int .i64 q.2.1.y, .int .i64 q.2.2.x, .int .i64 q.2.2.y] 104)) := (Below.refl _ _).alloc (Nat.le_refl _) _
    refine ⟨Book.below hz hb0, KT.of_below hb0, fun Wb hg hobj _ => ?_⟩
    have hbx : Wb.heap[W.heap.size]? = some (.cells #[.int .i32 (q.1.toNat : Int), .int .i64 q.2.1.x, .int .i64 q.2.1.y, .int .i64 q.2.2.x, .int .i64 q.2.2.y] 104 (0, 0)) :=
      (hg.block _ (by simp) (fun e => by injection e; omega)).trans (heap_alloc_new _ _)
    obtain ⟨r0, r1, r2, r3, r4, -⟩ := five_of_block hbx
    obtain ⟨o1, ho1, ho2⟩ := hobj
    have hz9 := HZ9.out
    have hfk : Fence.wide.fn 98 := trivial
    have hfk' : (Fence.wide.inRound l).fn 98 := trivial
    have hn1 : 1 ≤ 5 - 1 - 1 := by decide
    have hbb : Below w.heap.size w Wb := (hbW.trans (hb0.mono hbW.size)).grown hg (by have := hbW.size; simp; omega) (fun k e => by cases e; have := bw9.size; omega)
    have heb : Wb.heap[w.heap.size + 1]? = some (.cells #[.int .i64 0] 30 (0, 0)) := (hg.block _ (by simp; omega) (fun e => by injection e; omega)).trans ((hb0.block _ (by omega)).trans herW)
    have hsb : W9.heap.size + 2 ≤ Wb.heap.size := by have := hg.size; simp at this; omega
    obtain ⟨kb0, kb1⟩ := one_cell' heb
    by_cases hz0 : z = 0
    · subst hz0
      gi_wp2_with (gi_at_call 98; refine (CallsIn.inRound l (callsIn_wide.2 (netCheckKnot _ _ _))).mono ?_; rintro e W2 ⟨rfl, hb2⟩; rw [HKq.out])
      exact ⟨Book.below hsb hb2, KT.of_below hb2, (fun q' hq' => by
        rw [List.mem_append, List.mem_singleton] at hq'
        rcases hq' with hq' | rfl
        · exact HPRE.out q' hq'
        · exact (knotE_ok q'.2.2.x q'.2.2.y).1 HKq.out), hbb.trans (hb2.mono hbb.size), (hb2.block _ (Array.getElem?_eq_some_iff.1 heb).1).trans heb, by have := hb2.size; omega⟩
    · have hzn : (z != 0) = true := by simpa using hz0
      have hlt := (Array.getElem?_eq_some_iff.1 heb).1
      gi_wp2_with (gi_at_call 98; refine (CallsIn.inRound l (callsIn_wide.2 (netCheckKnot _ _ _))).mono ?_; rintro e W2 ⟨rfl, hb2⟩; rw [HKq.out]; have heb2 := (hb2.block _ hlt).trans heb; obtain ⟨kc0, kc1⟩ := one_cell' heb2)
      have hz2 := hb2.size
      exact ⟨Book.trans (Book.below hsb hb2) ⟨Below.heap_setCell _ _ _ _ (by show _ ≠ w.heap.size + 1; omega), Below.heap_setCell _ _ _ _ (by show _ ≠ w.heap.size + 1; omega), by simp [World.setCell]⟩, (hbb.trans (hb2.mono hbb.size)).setCell (by simp) _, one_set heb2 (.int .i64 32), by simp [World.setCell]; omega⟩
  case done =>
    rintro D ys W hD hS ⟨hall, -⟩ hK
    exfalso
    obtain ⟨q, hq, hn⟩ := HOUT.out
    subst hS
    exact hn (hall q hq)
  case stop =>
    rintro D ys W hD ⟨hbW, herW, hsW⟩ hK
    subst hA0
    simp only [Exit.inBlock, Exit.then]
    refine ⟨by simp, .inl ⟨_, _, rfl, run_takeDeferred hK, ?_⟩⟩
    have hDn : D ≠ w.heap.size + 1 := by have := HZ9.out; omega
    refine ⟨.int .i64 32, ?_, rfl, hbW.trans (belowK_b (w := W9) (n₀ := w.heap.size) bw9.size _ D _ _ hD hK rfl rfl)⟩
    have hcl := one_cell ((World.putObj_heap_other (r := D) (o := .deferred none) (k := w.heap.size + 1) (fun e => hDn e.symm)).trans herW)
    simp [results, Tryz.results61, go_sem, hcl]
end Go.Proofs.YtfmfpnnglogkmaaGreatDoor

/- checkEdge of taper at all arguments. -/
namespace Go.Proofs.YtfmfpnnglogkmaaGreatDoor
open Go.RowKit Go.Shelf Ck
attribute [local go_sem] Oper.semAt_some

set_option maxHeartbeats 4000000 in
set_option maxRecDepth 100000 in
theorem tpCheckEdgeA (x y t : Int) (s : ByteArray) (o : Bool) (w : World) (z : Int) (hz : wlk0 x y s t = z) (hzn : (z != 0) = true) :
    Calls Tryz.prog 61 #[.agg #[.int .i64 x, .int .i64 y], .string s, .int .i64 t, .bool o] w fun e w' => e = .returned (.int .i64 z) ∧ Below w.heap.size w w' := by
  obtain ⟨r, hr⟩ : ∃ r : Int, (if t < 1 ∨ 256 < t then (3 : Int) else 0) = r := ⟨_, rfl⟩
  have H0 := Lib.hid (show firstE [knotE x y, wordE s.data.toList, r] = z by rw [← hr]; exact hz)
  have HR := Lib.hid hr
  clear hz hr
  obtain ⟨w1, hw1, hb1, hz1, ex, er⟩ : ∃ w1, w1 = (w.alloc (.cells #[.int .i64 x, .int .i64 y] 43)).alloc (.cells #[.int .i64 0] 30) ∧ Below w.heap.size w w1 ∧ w1.heap.size = w.heap.size + 2 ∧ w1.heap[w.heap.size]? = some (.cells #[.int .i64 x, .int .i64 y] 43 (0, 0)) ∧ w1.heap[w.heap.size + 1]? = some (.cells #[.int .i64 0] 30 (0, 0)) := by
    refine ⟨_, rfl, ((Below.refl _ _).alloc (Nat.le_refl _) _).alloc (by simp) _, by simp, ?_, ?_⟩
    · rw [Below.heap_alloc _ _ _ (by simp)]
      exact heap_alloc_new _ _
    · have := heap_alloc_new (w.alloc (.cells #[.int .i64 x, .int .i64 y] 43)) (.cells #[.int .i64 0] 30)
      rwa [World.size_alloc] at this
  have HW1 := Lib.hid hw1
  have HZ1 := Lib.hid hz1
  clear hw1 hz1
  go_enter Tryz.func61, Tryz.ntmps61
  go_wp2_with fail
  rw [← HW1.out]
  refine (netCheckKnot x y _).mono ?_
  rintro e w2 ⟨rfl, hb2⟩
  go_wp2_with fail
  refine (tpCheckWordE s _).mono ?_
  rintro e w3 ⟨rfl, hb3⟩
  go_wp2_with fail
  refine (tpCheckRange _ _ _ _).mono ?_
  rintro e w4 ⟨rfl, rfl⟩
  rw [HR.out]
  go_wp2_with fail
  refine (tpFirst3 _ _ _ _ _ 30 _ (by exact heap_alloc_new _ _)).mono ?_
  rintro e w5 ⟨rfl, rfl⟩
  rw [H0.out]
  have b13 : Below w1.heap.size w1 w3 := hb2.trans (hb3.mono hb2.size)
  generalize hv : (Value.int .i64 (knotE x y)) = v1
  have b16 : Below w1.heap.size w1 (w3.alloc (.cells #[.int .i64 (knotE x y), .int .i64 (wordE s.data.toList), .int .i64 r] 30)) := b13.alloc b13.size _
  subst hv
  generalize w3.alloc (.cells #[.int .i64 (knotE x y), .int .i64 (wordE s.data.toList), .int .i64 r] 30) = w6 at *
  have hz1 := HZ1.out
  have er6 := (b16.block _ (by omega)).trans er
  have bw6 := hb1.trans (b16.mono hb1.size)
  obtain ⟨ce0, ce1⟩ := one_cell' er6
  clear ex er hz1
  go_wp2
  have hcl := one_cell (one_set er6 (.int .i64 z))
  refine bodyPost_ret (v := .int .i64 z) (by simp [results, Tryz.results61, go_sem, hcl]) rfl ⟨rfl, bw6.setCell (by simp) _⟩
set_option maxHeartbeats 4000000 in
set_option maxRecDepth 100000 in
theorem tpCheckEdgeB (x y t : Int) (s : ByteArray) (o : Bool) (w : World) (hz : wlk0 x y s t = 0) (h1 : 256 < (s.size : Int) * t) (h2 : (s.size : Int) * t ≤ 1000000) :
    Calls Tryz.prog 61 #[.agg #[.int .i64 x, .int .i64 y], .string s, .int .i64 t, .bool o] w fun e w' => e = .returned (.int .i64 26) ∧ Below w.heap.size w w' := by
  obtain ⟨r, hr⟩ : ∃ r : Int, (if t < 1 ∨ 256 < t then (3 : Int) else 0) = r := ⟨_, rfl⟩
  have H0 := Lib.hid (show firstE [knotE x y, wordE s.data.toList, r] = 0 by rw [← hr]; exact hz)
  have HR := Lib.hid hr
  clear hz hr
  obtain ⟨w1, hw1, hb1, hz1, ex, er⟩ : ∃ w1, w1 = (w.alloc (.cells #[.int .i64 x, .int .i64 y] 43)).alloc (.cells #[.int .i64 0] 30) ∧ Below w.heap.size w w1 ∧ w1.heap.size = w.heap.size + 2 ∧ w1.heap[w.heap.size]? = some (.cells #[.int .i64 x, .int .i64 y] 43 (0, 0)) ∧ w1.heap[w.heap.size + 1]? = some (.cells #[.int .i64 0] 30 (0, 0)) := by
    refine ⟨_, rfl, ((Below.refl _ _).alloc (Nat.le_refl _) _).alloc (by simp) _, by simp, ?_, ?_⟩
    · rw [Below.heap_alloc _ _ _ (by simp)]
      exact heap_alloc_new _ _
    · have := heap_alloc_new (w.alloc (.cells #[.int .i64 x, .int .i64 y] 43)) (.cells #[.int .i64 0] 30)
      rwa [World.size_alloc] at this
  have HW1 := Lib.hid hw1
  have HZ1 := Lib.hid hz1
  clear hw1 hz1
  go_enter Tryz.func61, Tryz.ntmps61
  go_wp2_with fail
  rw [← HW1.out]
  refine (netCheckKnot x y _).mono ?_
  rintro e w2 ⟨rfl, hb2⟩
  go_wp2_with fail
  refine (tpCheckWordE s _).mono ?_
  rintro e w3 ⟨rfl, hb3⟩
  go_wp2_with fail
  refine (tpCheckRange _ _ _ _).mono ?_
  rintro e w4 ⟨rfl, rfl⟩
  rw [HR.out]
  go_wp2_with fail
  refine (tpFirst3 _ _ _ _ _ 30 _ (by exact heap_alloc_new _ _)).mono ?_
  rintro e w5 ⟨rfl, rfl⟩
  rw [H0.out]
  have b13 : Below w1.heap.size w1 w3 := hb2.trans (hb3.mono hb2.size)
  generalize hv : (Value.int .i64 (knotE x y)) = v1
  have b16 : Below w1.heap.size w1 (w3.alloc (.cells #[.int .i64 (knotE x y), .int .i64 (wordE s.data.toList), .int .i64 r] 30)) := b13.alloc b13.size _
  subst hv
  generalize w3.alloc (.cells #[.int .i64 (knotE x y), .int .i64 (wordE s.data.toList), .int .i64 r] 30) = w6 at *
  have hz1 := HZ1.out
  have er6 := (b16.block _ (by omega)).trans er
  have bw6 := hb1.trans (b16.mono hb1.size)
  obtain ⟨ce0, ce1⟩ := one_cell' er6
  clear ex er hz1
  go_wp2
  have hcl := one_cell (one_set er6 (.int .i64 26))
  refine bodyPost_ret (v := .int .i64 26) (by simp [results, Tryz.results61, go_sem, hcl]) rfl ⟨rfl, bw6.setCell (by simp) _⟩
theorem tpCheckEdgeE (x y t E : Int) (s : ByteArray) (o : Bool) (w : World) (hE : wlkE x y s t o = E) :
    Calls Tryz.prog 61 #[.agg #[.int .i64 x, .int .i64 y], .string s, .int .i64 t, .bool o] w fun e w' => e = .returned (.int .i64 E) ∧ Below w.heap.size w w' := by
  by_cases h0 : wlk0 x y s t = 0
  · obtain ⟨hk, hs, c, rfl, hc1, hc2⟩ := wlk0_zero h0
    rw [wlkE, if_pos h0, Int.toNat_natCast] at hE
    have hm : ((s.size * c : Nat) : Int) = (s.size : Int) * (c : Int) := by push_cast; rfl
    have hm2 : s.size * c ≤ 64 * 256 := Nat.mul_le_mul hs.2.2 hc2
    by_cases h1 : 256 < (s.size : Int) * (c : Int)
    · rw [if_pos h1] at hE
      subst hE
      exact tpCheckEdgeB x y c s o w h0 h1 (by omega)
    · rw [if_neg h1] at hE
      have hm3 : c * s.size ≤ 256 := by rw [Nat.mul_comm]; omega
      by_cases h2 : (walkK (sg o) ⟨x, y⟩ (Lib.repeatL s.data.toList c)).any outK = true
      · rw [if_pos h2] at hE
        subst hE
        refine tpCheckEdgeO x y s c o w hs hc1 hm3 hk ?_
        obtain ⟨q, hq, ho⟩ := List.any_eq_true.1 h2
        simp only [outK, decide_eq_true_eq] at ho
        rcases walkK_mem.1 hq with rfl | ⟨p, hp, rfl⟩
        · obtain ⟨⟨a1, a2⟩, ⟨b1, b2⟩, -⟩ := hk
          simp only at a1 a2 b1 b2 ho
          omega
        · refine ⟨p, hp, fun hh => ?_⟩
          obtain ⟨⟨a1, a2⟩, ⟨b1, b2⟩, -⟩ := hh
          omega
      · rw [if_neg h2] at hE
        subst hE
        refine tpCheckEdgeG x y s c o w ⟨hs, hc1, hm3, hk, legs_in o _ _ (rep_letters hs c) hk fun q hq => ?_⟩
        have h3 : ∀ q ∈ walkK (sg o) ⟨x, y⟩ (Lib.repeatL s.data.toList c), outK q = false := by simpa using h2
        exact h3 _ (walkK_mem.2 (.inr ⟨q, hq, rfl⟩))
  · rw [wlkE, if_neg h0] at hE
    exact tpCheckEdgeA x y t s o w E hE (by subst hE; simpa using h0)
end Go.Proofs.YtfmfpnnglogkmaaGreatDoor

/- Walk, Bars, Meshes of taper where the edge is wrong. -/
namespace Go.Proofs.YtfmfpnnglogkmaaGreatDoor
open Go.RowKit Go.Shelf Ck

set_option maxHeartbeats 4000000 in
set_option maxRecDepth 100000 in
theorem tpWalkX (x y t E : Int) (s : ByteArray) (o : Bool) (w : World) (hE : wlkE x y s t o = E) (hz : (E != 0) = true) :
    Calls Tryz.prog 17 #[.agg #[.int .i64 x, .int .i64 y], .string s, .int .i64 t, .bool o] w fun e w' => e = .returned (.tuple #[.slice none 0 0, .int .i64 E]) ∧ Below w.heap.size w w' := by
  obtain ⟨w1, hw1, e0, e1, hb1, hz1⟩ := box2 w (.int .i64 x) (.int .i64 y) 43
  have HW1 := Lib.hid hw1
  clear hw1
  go_enter Tryz.func17, Tryz.ntmps17
  go_wp2_with fail
  rw [← HW1.out]
  refine (tpCheckEdgeE x y t E s o _ hE).mono ?_
  rintro e w2 ⟨rfl, hb2⟩
  go_wp2
  go_ret2
  exact ⟨rfl, hb1.trans (hb2.mono hb1.size)⟩
set_option maxHeartbeats 4000000 in
set_option maxRecDepth 100000 in
theorem tpBarsX (x y t E : Int) (s : ByteArray) (o : Bool) (w : World) (hE : wlkE x y s t o = E) (hz : (E != 0) = true) :
    Calls Tryz.prog 18 #[.agg #[.int .i64 x, .int .i64 y], .string s, .int .i64 t, .bool o] w fun e w' => e = .returned (.tuple #[.slice none 0 0, .int .i64 E]) ∧ Below w.heap.size w w' := by
  obtain ⟨w1, hw1, e0, e1, hb1, hz1⟩ := box2 w (.int .i64 x) (.int .i64 y) 43
  have HW1 := Lib.hid hw1
  clear hw1
  go_enter Tryz.func18, Tryz.ntmps18
  go_wp2_with fail
  rw [← HW1.out]
  refine (tpCheckEdgeE x y t E s o _ hE).mono ?_
  rintro e w2 ⟨rfl, hb2⟩
  go_wp2
  go_ret2
  exact ⟨rfl, hb1.trans (hb2.mono hb1.size)⟩
set_option maxHeartbeats 4000000 in
set_option maxRecDepth 100000 in
theorem tpMeshesX (x y t E : Int) (s : ByteArray) (o : Bool) (w : World) (hE : wlkE x y s t o = E) (hz : (E != 0) = true) :
    Calls Tryz.prog 19 #[.agg #[.int .i64 x, .int .i64 y], .string s, .int .i64 t, .bool o] w fun e w' => e = .returned (.tuple #[.slice none 0 0, .int .i64 E]) ∧ Below w.heap.size w w' := by
  obtain ⟨w1, hw1, e0, e1, hb1, hz1⟩ := box2 w (.int .i64 x) (.int .i64 y) 43
  have HW1 := Lib.hid hw1
  clear hw1
  go_enter Tryz.func19, Tryz.ntmps19
  go_wp2_with fail
  rw [← HW1.out]
  refine (tpCheckEdgeE x y t E s o _ hE).mono ?_
  rintro e w2 ⟨rfl, hb2⟩
  go_wp2
  go_ret2
  exact ⟨rfl, hb1.trans (hb2.mono hb1.size)⟩
end Go.Proofs.YtfmfpnnglogkmaaGreatDoor

/- The reference of chapter 2: First, outside, the checks of Spread and Mix, and Mix itself; text. -/
namespace Go.Proofs.YtfmfpnnglogkmaaGreatDoor
open Go.RowKit Go.Shelf Ck

set_option maxHeartbeats 400000 in
theorem rfFirst (b c : Nat) (es : List Int) (w : World) (hn : es.length ≤ 100) (hc : ∀ i (h : i < es.length), w.cell? ⟨b, i, none⟩ = some (.int .i64 es[i])) :
    Calls Tryz.prog 63 #[.slice (some ⟨b, 0, none⟩) es.length c] w fun e w' => e = .returned (.int .i64 (firstE es)) ∧ Below w.heap.size w w' := by
  have HC := Lib.hid hc
  have hn' : (es.length : Int) ≤ 100 := by omega
  clear hc
  go_enter Tryz.func63, Tryz.ntmps63
  go_wp2_with fail
  go_loop [3] (fun i => ∃ k : Nat, k ≤ es.length ∧ i = .int .i64 k ∧ firstE es = firstE (es.drop k)) (fun i => es.length - (intOf i).toNat)
  case atStart => exact ⟨0, Nat.zero_le _, rfl, rfl⟩
  case round =>
    obtain ⟨k, hk, rfl, he⟩ := hrel
    have HE := Lib.hid he
    clear he
    by_cases hlt : k < es.length
    · have hcell := HC.out k hlt
      have b0 : (0 : Int) ≤ (k : Int) := by omega
      have b1 : (k : Int) < (es.length : Int) := by omega
      by_cases hz : es[k] = 0
      · have HF := Lib.hid (show firstE (es.drop k) = firstE (es.drop (k + 1)) by
          rw [List.drop_eq_getElem_cons hlt]
          simp only [firstE, hz, if_true])
        rw [hz] at hcell
        clear hz
        go_wp2
        go_round
        case rel => exact ⟨k + 1, by omega, by go_num, HE.out.trans HF.out⟩
        case measure => simp [intOf]; omega
      · have HF := Lib.hid (show firstE (es.drop k) = es[k] by
          rw [List.drop_eq_getElem_cons hlt]
          simp only [firstE, if_neg hz])
        have hz1 : (es[k] != 0) = true := by rw [bne_iff_ne]; exact hz
        clear hz
        go_wp2
        go_ret
        exact ⟨ret_i (HE.out.trans HF.out).symm, Below.refl _ _⟩
    · obtain rfl : k = es.length := by omega
      have HF := Lib.hid (show firstE (es.drop es.length) = 0 by rw [List.drop_length]; rfl)
      go_wp2
      go_ret
      exact ⟨ret_i (HE.out.trans HF.out).symm, Below.refl _ _⟩
theorem rfFirst2 (g d : Nat) (a b : Int) (t : TypeId) (w : World) (h : w.heap[g]? = some (.cells #[.int .i64 a, .int .i64 b] t (0, 0))) :
    Calls Tryz.prog 63 #[.slice (some ⟨g, 0, none⟩) 2 d] w fun e w' => e = .returned (.int .i64 (firstE [a, b])) ∧ Below w.heap.size w w' :=
  rfFirst g d [a, b] w (by simp) (two_cells h)
theorem rfFirst3 (g d : Nat) (a b c : Int) (t : TypeId) (w : World) (h : w.heap[g]? = some (.cells #[.int .i64 a, .int .i64 b, .int .i64 c] t (0, 0))) :
    Calls Tryz.prog 63 #[.slice (some ⟨g, 0, none⟩) 3 d] w fun e w' => e = .returned (.int .i64 (firstE [a, b, c])) ∧ Below w.heap.size w w' :=
  rfFirst g d [a, b, c] w (by simp) (three_err h)
theorem rfFirst4 (g d : Nat) (a b c e' : Int) (t : TypeId) (w : World) (h : w.heap[g]? = some (.cells #[.int .i64 a, .int .i64 b, .int .i64 c, .int .i64 e'] t (0, 0))) :
    Calls Tryz.prog 63 #[.slice (some ⟨g, 0, none⟩) 4 d] w fun e w' => e = .returned (.int .i64 (firstE [a, b, c, e'])) ∧ Below w.heap.size w w' :=
  rfFirst g d [a, b, c, e'] w (by simp) (four_err h)
set_option maxHeartbeats 400000 in
theorem rfOutside (n lo hi : Int) (w : World) : Calls Tryz.prog 65 #[.int .i64 n, .int .i64 lo, .int .i64 hi] w fun e w' => e = .returned (.int .i64 (rngE n lo hi)) ∧ w = w' := by
  unfold rngE
  by_cases h1 : n < lo
  · go_enter Tryz.func65, Tryz.ntmps65
    go_wp2
    go_ret
    simp
  · by_cases h2 : hi < n
    all_goals
      go_enter Tryz.func65, Tryz.ntmps65
      go_wp2
      go_ret
      simp <;> omega
end Go.Proofs.YtfmfpnnglogkmaaGreatDoor

/- CheckWalk of the reference of chapter 2. -/
namespace Go.Proofs.YtfmfpnnglogkmaaGreatDoor
open Go.RowKit Go.Shelf Ck

set_option maxHeartbeats 4000000 in
set_option maxRecDepth 100000 in
theorem rfCheckWalk (x y t E : Int) (s : ByteArray) (o : Bool) (w : World) (hs : s.size ≤ 100) (hE : wlkE x y s t o = E) :
    Calls Tryz.prog 20 #[.agg #[.int .i64 x, .int .i64 y], .string s, .int .i64 t, .bool o] w fun e w' => e = .returned (.int .i64 E) ∧ Below w.heap.size w w' := by
  obtain ⟨w1, hw1, k0, hb1, hz⟩ := boxH2 w (.int .i64 x) (.int .i64 y) 43
  have HW1 := Lib.hid hw1
  obtain ⟨c0, c1, -, -⟩ := two_cell k0
  obtain ⟨r, hr⟩ : ∃ r : Int, (if t < 1 ∨ 256 < t then (3 : Int) else 0) = r := ⟨_, rfl⟩
  have H0 := Lib.hid (show firstE [knotE x y, wordE s.data.toList, r] = wlk0 x y s t by rw [← hr]; rfl)
  have HOUT := Lib.hid (show rngE t 1 256 = r by rw [← hr]; rfl)
  have HEE := Lib.hid hE
  clear hw1 hE hr
  go_enter Tryz.func20, Tryz.ntmps20
  go_wp2_with fail
  rw [← HW1.out]
  refine (refCheckKnot x y _).mono ?_
  rintro e w2 ⟨rfl, hb2⟩
  have k2 := (hb2.block _ hz).trans k0
  have B2 := hb1.trans (hb2.mono hb1.size)
  clear k0 hb1 hb2 c0 c1
  go_wp2_with fail
  refine (refCheckWord s _ (by omega)).mono ?_
  rintro e w3 ⟨rfl, rfl⟩
  go_wp2_with fail
  refine (rfOutside _ _ _ _).mono ?_
  rintro e w4 ⟨rfl, rfl⟩
  rw [HOUT.out]
  have hz2 := (Array.getElem?_eq_some_iff.1 k2).1
  go_wp2_with fail
  refine (rfFirst3 _ _ _ _ _ 3 _ (by exact heap_alloc_new _ _)).mono ?_
  rintro e w5 ⟨rfl, hb5⟩
  rw [H0.out]
  have hb6 : Below w2.heap.size w2 w5 := ((Below.refl _ _).alloc (Nat.le_refl _) _).trans (hb5.mono (by simp))
  have k5 := (hb6.block _ hz2).trans k2
  have B5 := B2.trans (hb6.mono B2.size)
  clear k2 B2 hb5 hb6 hz2
  obtain ⟨c0, c1, -, -⟩ := two_cell k5
  obtain ⟨z, hzz⟩ : ∃ z, wlk0 x y s t = z := ⟨_, rfl⟩
  have HZ := Lib.hid hzz
  rw [hzz]
  clear hzz
  by_cases h0 : z = 0
  · obtain ⟨hk, hw, c, rfl, hc1, hc2⟩ := wlk0_zero (HZ.out.trans h0)
    have hm1 : (s.size : Int) * (c : Int) = ((s.size * c : Nat) : Int) := by push_cast; rfl
    have hm2 : s.size * c ≤ 100 * 256 := Nat.mul_le_mul hs hc2
    have HE2 := Lib.hid (show (if 256 < s.size * c then (26 : Int) else if (walkK (sg o) ⟨x, y⟩ (Lib.repeatL s.data.toList c)).any outK then 32 else 0) = E by
      rw [← HEE.out, wlkE, if_pos (HZ.out.trans h0), Int.toNat_natCast]
      by_cases h : 256 < s.size * c
      · have h' : 256 < (s.size : Int) * (c : Int) := by omega
        rw [if_pos h, if_pos h']
      · have h' : ¬ 256 < (s.size : Int) * (c : Int) := by omega
        rw [if_neg h, if_neg h'])
    have hz0 : (z != 0) = false := by rw [h0]; rfl
    obtain ⟨p, hp⟩ : ∃ p, s.size * c = p := ⟨_, rfl⟩
    rw [hp] at hm1 hm2 HE2
    have HPP := Lib.hid hp
    clear hp h0
    by_cases h1 : 256 < p
    · have HE3 := Lib.hid (show (26 : Int) = E by rw [← HE2.out, if_pos h1])
      clear HE2
      go_wp2
      go_ret
      exact ⟨ret_i HE3.out, B5⟩
    · have HLEN := Lib.hid (show c * s.size ≤ 256 by rw [Nat.mul_comm, HPP.out]; omega)
      have HE3 := Lib.hid (show (if (walkK (sg o) ⟨x, y⟩ (Lib.repeatL s.data.toList c)).any outK then (32 : Int) else 0) = E by rw [← HE2.out, if_neg h1])
      clear HE2
      have hlen : (walkK (sg o) ⟨x, y⟩ (Lib.repeatL s.data.toList c)).length ≤ 257 := by
        rw [walkK_length, rep_len]
        have := HLEN.out
        omega
      obtain ⟨K, hK⟩ : ∃ K, walkK (sg o) ⟨x, y⟩ (Lib.repeatL s.data.toList c) = K := ⟨_, rfl⟩
      have HKW := Lib.hid hK
      rw [hK] at hlen HE3
      have HWD := Lib.hid hw
      have HOK := Lib.hid hk
      have hlI : (K.length : Int) ≤ 257 := by omega
      clear hK hw hk
      go_wp2_with fail
      refine (rfWalk x y s c o _ HWD.out HLEN.out HOK.out).mono ?_
      rintro e w6 ⟨v, rfl, hrow, hb6⟩
      rw [HKW.out] at hrow
      have B6 := B5.trans (hb6.mono B5.size)
      obtain ⟨ad, cp, rfl, hrk⟩ := own_rkW hrow
      have HRK := Lib.hid hrk
      clear hrow hb6 B5 k5 c0 c1 hrk
      go_wp2_with fail
      go_loop [11] (fun iv => ∃ i : Nat, i ≤ K.length ∧ iv = .int .i64 i ∧ (K.take i).any outK = false) (fun iv => K.length - (intOf iv).toNat)
      case atStart => exact ⟨0, Nat.zero_le _, rfl, rfl⟩
      case round =>
        obtain ⟨i, hi, rfl, hno⟩ := hrel
        have HNO := Lib.hid hno
        clear hno
        by_cases hlt : i < K.length
        · obtain ⟨bb, off, rfl, hbz, hcs⟩ := HRK.out (by omega)
          obtain ⟨q0, q1⟩ := hcs i hlt
          have HS := Lib.hid (show (K.take (i + 1)).any outK = outK K[i] by rw [List.take_succ_eq_append_getElem hlt, List.any_append, HNO.out]; simp)
          have HMEM := Lib.hid (List.getElem_mem hlt)
          obtain ⟨q, hq⟩ : ∃ q, K[i] = q := ⟨_, rfl⟩
          rw [hq] at q0 q1 HS HMEM
          have i0 : (0 : Int) ≤ (i : Int) := by omega
          have i1 : (i : Int) < (K.length : Int) := by omega
          clear hq hcs hbz
          have hyes : outK q = true → E = 32 := fun h => by
            rw [← HE3.out, if_pos]
            rw [List.any_eq_true]
            exact ⟨q, HMEM.out, h⟩
          have HYES := Lib.hid hyes
          clear hyes
          by_cases g1 : q.x < -100000
          · have HE4 := Lib.hid (HYES.out (decide_eq_true (.inl g1)))
            go_wp2
            go_ret
            exact ⟨ret_i HE4.out.symm, B6⟩
          · by_cases g2 : 100000 < q.x
            · have HE4 := Lib.hid (HYES.out (decide_eq_true (.inr (.inl g2))))
              go_wp2
              go_ret
              exact ⟨ret_i HE4.out.symm, B6⟩
            · by_cases g3 : 100000 < q.y
              · have HE4 := Lib.hid (HYES.out (decide_eq_true (.inr (.inr g3))))
                go_wp2
                go_ret
                exact ⟨ret_i HE4.out.symm, B6⟩
              · have HN := Lib.hid (show (K.take (i + 1)).any outK = false by rw [HS.out]; exact decide_eq_false (by omega))
                go_wp2
                go_round
                case rel => exact ⟨i + 1, by omega, by go_num, HN.out⟩
                case measure => simp [intOf]; omega
        · obtain rfl : i = K.length := by omega
          have HE4 := Lib.hid (show (0 : Int) = E by
            have h := HNO.out
            rw [List.take_length] at h
            rw [← HE3.out, h]
            rfl)
          go_wp2
          go_ret
          exact ⟨ret_i HE4.out, B6⟩
  · have hz0 : (z != 0) = true := by rw [bne_iff_ne]; exact h0
    have HE2 := Lib.hid (show z = E by rw [← HEE.out, wlkE, if_neg (fun h => h0 (HZ.out.symm.trans h)), HZ.out])
    clear h0
    go_wp2
    go_ret
    exact ⟨ret_i HE2.out, B5⟩
end Go.Proofs.YtfmfpnnglogkmaaGreatDoor

/- The boxes of the laws of edges. -/
namespace Go.Proofs.YtfmfpnnglogkmaaGreatDoor
open Go.RowKit Go.Shelf Ck

/-- The boxes of the law's two structs. -/
structure WrS (W0 : World) (x y : Int) (s : ByteArray) (z : Int) (o : Bool) (W : World) : Prop where
  a : W.heap[W0.heap.size]? = some (.cells #[.int .i64 x, .int .i64 y] 43 (0, 0))
  e : W.heap[W0.heap.size + 1]? = some (.cells #[.string s, .int .i64 z, .bool o] 45 (0, 0))
  b : Below W0.heap.size W0 W
theorem WrS.below {W0 W W' : World} {x y z : Int} {s : ByteArray} {o : Bool} (h : WrS W0 x y s z o W) (hb : Below W.heap.size W W') : WrS W0 x y s z o W' :=
  ⟨(hb.block _ (Array.getElem?_eq_some_iff.1 h.a).1).trans h.a, (hb.block _ (Array.getElem?_eq_some_iff.1 h.e).1).trans h.e, h.b.trans (hb.mono h.b.size)⟩
theorem WrS.cells {W0 W : World} {x y z : Int} {s : ByteArray} {o : Bool} (h : WrS W0 x y s z o W) : (W.cell? ⟨W0.heap.size, 0, none⟩ = some (.int .i64 x) ∧ W.cell? ⟨W0.heap.size, 1, none⟩ = some (.int .i64 y)) ∧ W.cell? ⟨W0.heap.size + 1, 0, none⟩ = some (.string s) ∧ W.cell? ⟨W0.heap.size + 1, 1, none⟩ = some (.int .i64 z) ∧ W.cell? ⟨W0.heap.size + 1, 2, none⟩ = some (.bool o) := by
  refine ⟨⟨(two_cell h.a).1, (two_cell h.a).2.1⟩, ?_, ?_, ?_⟩ <;> simp [World.cell?, h.e]
theorem wr_box (w : World) (x y z : Int) (s : ByteArray) (o : Bool) : ∃ w1, w1 = (w.alloc (.cells #[.int .i64 x, .int .i64 y] 43)).alloc (.cells #[.string s, .int .i64 z, .bool o] 45) ∧ WrS w x y s z o w1 := by
  refine ⟨_, rfl, ?_, ?_, ((Below.refl _ _).alloc (Nat.le_refl _) _).alloc (by simp) _⟩
  · rw [Below.heap_alloc _ _ _ (by simp)]
    exact heap_alloc_new _ _
  · have := heap_alloc_new (w.alloc (.cells #[.int .i64 x, .int .i64 y] 43)) (.cells #[.string s, .int .i64 z, .bool o] 45)
    rwa [World.size_alloc] at this
end Go.Proofs.YtfmfpnnglogkmaaGreatDoor

/- TaperWalks at all arguments. -/
namespace Go.Proofs.YtfmfpnnglogkmaaGreatDoor
open Go.RowKit Go.Shelf Ck

theorem exW0 (a b : Value) (w : World) : (Instr.extract (.tuple #[a, b]) 0).run Tryz.prog w = .ok a w := by kernel_rfl
theorem exW1 (a b : Value) (w : World) : (Instr.extract (.tuple #[a, b]) 1).run Tryz.prog w = .ok b w := by kernel_rfl
set_option maxHeartbeats 4000000 in
set_option maxRecDepth 100000 in
theorem lawWalksL (x y z : Int) (s : ByteArray) (o : Bool) (w : World) (h : (70 : Int) < (s.size : Int)) :
    Calls Tryz.prog 4 #[.agg #[.int .i64 x, .int .i64 y], .agg #[.string s, .int .i64 z, .bool o]] w fun e w' => e = .returned (.bool true) ∧ Below w.heap.size w w' := by
  obtain ⟨w1, hw1, S1⟩ := wr_box w x y z s o
  have HW1 := Lib.hid hw1
  clear hw1
  go_enter Tryz.func4, Tryz.ntmps4
  go_wp2_with fail
  rw [← HW1.out]
  refine (awake2 _).mono ?_
  rintro e w2 ⟨rfl, hb2⟩
  have S2 := S1.below hb2
  obtain ⟨⟨c0, c1⟩, d0, d1, d2⟩ := S2.cells
  have B2 := S2.b
  clear S1 S2 hb2
  go_wp2_with fail
  refine (awake2 _).mono ?_
  rintro e w9 ⟨rfl, hb9⟩
  go_wp2
  go_ret
  exact ⟨rfl, B2.trans (hb9.mono B2.size)⟩
set_option maxHeartbeats 8000000 in
set_option maxRecDepth 100000 in
theorem lawWalksX (x y z E : Int) (s : ByteArray) (o : Bool) (w : World) (h : ¬ (70 : Int) < (s.size : Int)) (hE : wlkE x y s z o = E) (hz : (E != 0) = true) :
    Calls Tryz.prog 4 #[.agg #[.int .i64 x, .int .i64 y], .agg #[.string s, .int .i64 z, .bool o]] w fun e w' => e = .returned (.bool true) ∧ Below w.heap.size w w' := by
  obtain ⟨w1, hw1, S1⟩ := wr_box w x y z s o
  have HW1 := Lib.hid hw1
  have HE := Lib.hid hE
  have hee : (E == E) = true := beq_self_eq_true E
  have ex0 := exW0
  have ex1 := exW1
  clear hw1 hE
  go_enter Tryz.func4, Tryz.ntmps4
  go_wp2_with fail
  rw [← HW1.out]
  refine (awake2 _).mono ?_
  rintro e w2 ⟨rfl, hb2⟩
  have S2 := S1.below hb2
  clear S1 hb2
  obtain ⟨⟨c0, c1⟩, d0, d1, d2⟩ := S2.cells
  go_wp2_with fail
  refine (tpWalkX x y z E s o _ HE.out hz).mono ?_
  rintro e w3 ⟨rfl, hb3⟩
  have S3 := S2.below hb3
  clear S2 hb3 c0 c1 d0 d1 d2
  obtain ⟨⟨c0, c1⟩, d0, d1, d2⟩ := S3.cells
  go_wp2_with fail
  refine (tpBarsX x y z E s o _ HE.out hz).mono ?_
  rintro e w4 ⟨rfl, hb4⟩
  have S4 := S3.below hb4
  clear S3 hb4 c0 c1 d0 d1 d2
  obtain ⟨⟨c0, c1⟩, d0, d1, d2⟩ := S4.cells
  go_wp2_with fail
  refine (tpMeshesX x y z E s o _ HE.out hz).mono ?_
  rintro e w5 ⟨rfl, hb5⟩
  have S5 := S4.below hb5
  clear S4 hb5 c0 c1 d0 d1 d2
  obtain ⟨⟨c0, c1⟩, d0, d1, d2⟩ := S5.cells
  go_wp2_with fail
  refine (rfCheckWalk x y z E s o _ (by omega) HE.out).mono ?_
  rintro e w6 ⟨rfl, hb6⟩
  have B6 := (S5.below hb6).b
  clear S5 hb6 c0 c1 d0 d1 d2
  go_wp2
  go_ret
  exact ⟨rfl, B6⟩
set_option maxHeartbeats 8000000 in
set_option maxRecDepth 100000 in
theorem lawWalksG (x y : Int) (s : ByteArray) (c : Nat) (o : Bool) (w : World) (h : ¬ (70 : Int) < (s.size : Int)) (hE : wlkE x y s (c : Int) o = 0) (hG : EdgeG x y s c o) :
    Calls Tryz.prog 4 #[.agg #[.int .i64 x, .int .i64 y], .agg #[.string s, .int .i64 (c : Int), .bool o]] w fun e w' => e = .returned (.bool true) ∧ Below w.heap.size w w' := by
  obtain ⟨w1, hw1, S1⟩ := wr_box w x y (c : Int) s o
  have HW1 := Lib.hid hw1
  have HE := Lib.hid hE
  have HG := Lib.hid hG
  have ex0 := exW0
  have ex1 := exW1
  have hlen : (Lib.repeatL s.data.toList c).length ≤ 256 := by rw [rep_len]; exact hG.2.2.1
  obtain ⟨K, hK⟩ : ∃ K, walkK (sg o) ⟨x, y⟩ (Lib.repeatL s.data.toList c) = K := ⟨_, rfl⟩
  obtain ⟨B, hB⟩ : ∃ B, barsP (sg o) ⟨x, y⟩ (Lib.repeatL s.data.toList c) = B := ⟨_, rfl⟩
  obtain ⟨M, hM⟩ : ∃ M, midsP (sg o) ⟨x, y⟩ (Lib.repeatL s.data.toList c) = M := ⟨_, rfl⟩
  have HKL := Lib.hid (show K.length ≤ 4096 by rw [← hK, walkK_length]; omega)
  have HBL := Lib.hid (show B.length ≤ 4096 by rw [← hB]; exact Nat.le_trans (barsP_le _ _ _) (by omega))
  have HML := Lib.hid (show M.length ≤ 4096 by rw [← hM]; exact Nat.le_trans (midsP_le _ _ _) (by omega))
  have HK := Lib.hid hK
  have HB := Lib.hid hB
  have HM := Lib.hid hM
  clear hw1 hE hG hlen hK hB hM
  go_enter Tryz.func4, Tryz.ntmps4
  go_wp2_with fail
  rw [← HW1.out]
  refine (awake2 _).mono ?_
  rintro e w2 ⟨rfl, hb2⟩
  have S2 := S1.below hb2
  clear S1 hb2
  obtain ⟨⟨c0, c1⟩, d0, d1, d2⟩ := S2.cells
  go_wp2_with fail
  refine (walkSG x y s c o K _ HK.out HG.out).mono ?_
  rintro e w3 ⟨A1, C1, rfl, k1, hb3⟩
  have S3 := S2.below hb3
  clear S2 hb3 c0 c1 d0 d1 d2
  obtain ⟨⟨c0, c1⟩, d0, d1, d2⟩ := S3.cells
  go_wp2_with fail
  refine (barsSG x y s c o B _ HB.out HG.out).mono ?_
  rintro e w4 ⟨A2, C2, rfl, k2, hb4⟩
  have S4 := S3.below hb4
  replace k1 := rkBelow k1 hb4
  clear S3 hb4 c0 c1 d0 d1 d2
  obtain ⟨⟨c0, c1⟩, d0, d1, d2⟩ := S4.cells
  go_wp2_with fail
  refine (meshesSG x y s c o M _ HM.out HG.out).mono ?_
  rintro e w5 ⟨A3, C3, rfl, k3, hb5⟩
  have S5 := S4.below hb5
  replace k1 := rkBelow k1 hb5
  replace k2 := k2.below hb5
  clear S4 hb5 c0 c1 d0 d1 d2
  obtain ⟨⟨c0, c1⟩, d0, d1, d2⟩ := S5.cells
  go_wp2_with fail
  refine (rfCheckWalk x y (c : Int) 0 s o _ (by omega) HE.out).mono ?_
  rintro e w6 ⟨rfl, hb6⟩
  have S6 := S5.below hb6
  have K1 := Lib.hid (rkBelow k1 hb6)
  have K2 := Lib.hid (k2.below hb6)
  have K3 := Lib.hid (rkBelow k3 hb6)
  clear S5 hb6 c0 c1 d0 d1 d2 k1 k2 k3
  obtain ⟨⟨c0, c1⟩, d0, d1, d2⟩ := S6.cells
  go_wp2_with fail
  refine (rfWalk x y s c o _ HG.out.1 HG.out.2.2.1 HG.out.2.2.2.1).mono ?_
  rintro e w7 ⟨v7, rfl, r7, hb7⟩
  rw [HK.out] at r7
  obtain ⟨A7, C7, rfl, q7⟩ := own_rkW r7
  have S7 := S6.below hb7
  replace K1 := Lib.hid (rkBelow K1.out hb7)
  replace K2 := Lib.hid (K2.out.below hb7)
  replace K3 := Lib.hid (rkBelow K3.out hb7)
  have Q7 := Lib.hid q7
  clear S6 hb7 c0 c1 d0 d1 d2 q7 r7
  obtain ⟨⟨c0, c1⟩, d0, d1, d2⟩ := S7.cells
  go_wp2_with fail
  refine (refSameKnots A1 A7 C1 C7 K _ HKL.out K1.out Q7.out).mono ?_
  rintro e w8 ⟨rfl, hb8⟩
  have S8 := S7.below hb8
  replace K2 := Lib.hid (K2.out.below hb8)
  replace K3 := Lib.hid (rkBelow K3.out hb8)
  clear S7 hb8 c0 c1 d0 d1 d2 K1 Q7
  obtain ⟨⟨c0, c1⟩, d0, d1, d2⟩ := S8.cells
  go_wp2_with fail
  refine (rfBars x y s c o _ HG.out).mono ?_
  rintro e w9 ⟨v9, rfl, r9, hb9⟩
  rw [HB.out] at r9
  obtain ⟨A9, C9, rfl, q9⟩ := own_oks r9
  have S9 := S8.below hb9
  replace K2 := Lib.hid (K2.out.below hb9)
  replace K3 := Lib.hid (rkBelow K3.out hb9)
  have Q9 := Lib.hid q9
  clear S8 hb9 c0 c1 d0 d1 d2 q9 r9
  obtain ⟨⟨c0, c1⟩, d0, d1, d2⟩ := S9.cells
  go_wp2_with fail
  refine (refSameBars A2 A9 C2 C9 B _ HBL.out K2.out.2.2.2 Q9.out.2.2.2).mono ?_
  rintro e w10 ⟨rfl, hb10⟩
  have S10 := S9.below hb10
  replace K3 := Lib.hid (rkBelow K3.out hb10)
  clear S9 hb10 c0 c1 d0 d1 d2 K2 Q9
  obtain ⟨⟨c0, c1⟩, d0, d1, d2⟩ := S10.cells
  go_wp2_with fail
  refine (rfMeshes x y s c o _ HG.out).mono ?_
  rintro e w11 ⟨v11, rfl, r11, hb11⟩
  rw [HM.out] at r11
  obtain ⟨A11, C11, rfl, q11⟩ := own_rkW r11
  have S11 := S10.below hb11
  replace K3 := Lib.hid (rkBelow K3.out hb11)
  have Q11 := Lib.hid q11
  clear S10 hb11 c0 c1 d0 d1 d2 q11 r11
  go_wp2_with fail
  refine (refSameMeshes A3 A11 C3 C11 M _ HML.out K3.out Q11.out).mono ?_
  rintro e w12 ⟨rfl, hb12⟩
  have B12 := (S11.below hb12).b
  clear S11 hb12 K3 Q11
  go_wp2
  go_ret
  exact ⟨rfl, B12⟩
theorem lawWalks (x y : Int) (s : ByteArray) (z : Int) (o : Bool) (w : World) :
    Calls Tryz.prog 4 #[.agg #[.int .i64 x, .int .i64 y], .agg #[.string s, .int .i64 z, .bool o]] w fun e w' => e = .returned (.bool true) ∧ Below w.heap.size w w' := by
  by_cases g1 : (70 : Int) < (s.size : Int)
  · exact lawWalksL x y z s o w g1
  by_cases g2 : wlkE x y s z o = 0
  · obtain ⟨c, rfl, hG⟩ := wlkE_zero g2
    exact lawWalksG x y s c o w g1 g2 hG
  · exact lawWalksX x y z _ s o w g1 rfl (by rw [bne_iff_ne]; exact g2)
end Go.Proofs.YtfmfpnnglogkmaaGreatDoor
