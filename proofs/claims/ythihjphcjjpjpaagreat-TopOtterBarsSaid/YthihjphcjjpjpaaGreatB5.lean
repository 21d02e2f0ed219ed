/- TopOtterBars returns true for every knot, every edging and every shift. Conditions: none. -/
import Derived.Test.YthihjphcjjpjpaaGreatB4
import Derived.Deep.RegionHeld3
import Derived.Deep.AppendLies
import Derived.Test.YthihjphcjjpjpaaGreatRows
import Derived.Shelf.SlGeneric
import Derived.Shelf.SlLaysF0
import Derived.Sort.OwnSorted
import Derived.Shelf.SlSortCmp.InsertionK
import Derived.Shelf.SlSortCmp.NoneTotal
import Derived.ProofKit
import Derived.Deep.Slices
import Derived.Deep.Fields
/- Appending nothing, at a step of a region that draws its order. -/
namespace Go.Proofs.YthihjphcjjpjpaaGreat
open Go.RowKit

variable {P : Program} {w : World} {ops : Array Oper} {o : Oper} {a : Act} {K : Act → World → Prop} {Q : Exit → Act → World → Prop} {E : Prop}
theorem run_append_zero (base : Nat) (t ty e : TypeId) (i : TypeInfo) (size : Nat) (ht : P.underlying t = some (.slice e)) (hi : P.info? e = some i) (v : Value) (n : Nat) (xs : List Value) (hown : w.ownsRow base e size v n xs) (ad : Addr) (c : Nat) :
    (Builtin.append_ #[t, t] ty #[v, .slice (some ad) 0 c]).run P w = .ok v w := by
  rcases hown.2 with ⟨rfl, rfl⟩ | ⟨g, cap, cur, rfl, _, _, hnc, _⟩
  · simp [Builtin.append_, run_underlying ht, sizeOf, typeInfo, hi, Builtin.lenOf, Builtin.firstCells, loadCells, loadCellsFrom, Result.andThen]
  · simp [Builtin.append_, run_underlying ht, sizeOf, typeInfo, hi, Builtin.lenOf, Builtin.firstCells, hnc, storeCells, loadCells, loadCellsFrom, Result.andThen]
theorem step_append_zero (hgd : o.guard = none) (s x : Operand) (t : TypeId) (ho : o.op = .call { callee := .builtin .append, args := #[s, x], argTypes := #[t, t] })
    (base : Nat) (e : TypeId) (i : TypeInfo) (size : Nat) (ht : P.underlying t = some (.slice e)) (hi : P.info? e = some i) (v : Value) (n : Nat) (xs : List Value) (hs : a.eval s = v) (hown : w.ownsRow base e size v n xs)
    (ad : Addr) (c : Nat) (hx : a.eval x = .slice (some ad) 0 c) (h : K (a.put o.dst v) w) :
    if Region.wanted o (yielded ops a.tmps) = true then Oper.wp P o a w K Q else E := by
  have hw : Region.wanted o (yielded ops a.tmps) = true := by simp [Region.wanted, hgd]
  rw [if_pos hw]
  have hr := run_append_zero (P := P) base t o.type e i size ht hi v n xs hown ad c
  unfold Oper.wp execOp
  simp only [ho, resolve, invoke, builtin, Sem.run_bind, Sem.run_pure, Result.andThen_ok, List.map_toArray, List.map_cons, List.map_nil, hs, hx, hr]
  exact h
theorem step_append_zeroA (hgd : o.guard = none) (s x : Operand) (t : TypeId) (ho : o.op = .call { callee := .builtin .append, args := #[s, x], argTypes := #[t, t] })
    (base : Nat) (e : TypeId) (i : TypeInfo) (size : Nat) (ht : P.underlying t = some (.slice e)) (hi : P.info? e = some i) (v : Value) (n : Nat) (xs : List Value) (hs : a.eval s = v) (hown : w.ownsRow base e size v n xs)
    (A : Option Addr) (c : Nat) (hx : a.eval x = .slice A 0 c) (hA : ∃ ad, A = some ad) (h : K (a.put o.dst v) w) :
    if Region.wanted o (yielded ops a.tmps) = true then Oper.wp P o a w K Q else E := by
  obtain ⟨ad, rfl⟩ := hA
  exact step_append_zero hgd s x t ho base e i size ht hi v n xs hs hown ad c hx h
theorem step_append_none (hgd : o.guard = none) (s x : Operand) (t : TypeId) (ho : o.op = .call { callee := .builtin .append, args := #[s, x], argTypes := #[t, t] })
    (base : Nat) (e : TypeId) (i : TypeInfo) (size : Nat) (ht : P.underlying t = some (.slice e)) (hi : P.info? e = some i) (v : Value) (n : Nat) (xs : List Value) (hs : a.eval s = v) (hown : w.ownsRow base e size v n xs)
    (hx : a.eval x = .slice none 0 0) (h : K (a.put o.dst v) w) :
    if Region.wanted o (yielded ops a.tmps) = true then Oper.wp P o a w K Q else E := by
  have hw : Region.wanted o (yielded ops a.tmps) = true := by simp [Region.wanted, hgd]
  rw [if_pos hw]
  have hr := run_append_owned_none (P := P) (w := w) base t o.type e i size ht hi v n xs hown
  unfold Oper.wp execOp
  simp only [ho, resolve, invoke, builtin, Sem.run_bind, Sem.run_pure, Result.andThen_ok, List.map_toArray, List.map_cons, List.map_nil, hs, hx, hr]
  exact h
end Go.Proofs.YthihjphcjjpjpaaGreat

/- The contract of the reference's SameNet at two slices with the same bars, and of CheckSheet. -/
namespace Go.Proofs.YthihjphcjjpjpaaGreat
open Go.RowKit

set_option maxHeartbeats 1000000 in
set_option maxRecDepth 100000 in
theorem refSameNet (A A' : Option Addr) (c c' : Nat) (l : List Ck.Bar) (w : World) (hl : l.length ≤ 4096) (h : RB w w.heap.size A l) (h' : RB w w.heap.size A' l) :
    Calls Tryz.prog 13 #[.slice A l.length c, .slice A' l.length c'] w fun e w' => e = .returned (.bool true) ∧ Below w.heap.size w w' := by
  have HR := Lib.hid h
  have HR' := Lib.hid h'
  clear h h'
  have hne : ((l.length : Int) != (l.length : Int)) = false := by simp
  go_enter Tryz.func13, Tryz.ntmps13
  go_wp2_with fail
  go_loopw [5] (fun i wr => ∃ k : Nat, k ≤ l.length ∧ i = .int .i64 k ∧ Below w.heap.size w wr) (fun i _ => l.length - (intOf i).toNat)
  case atStart => exact ⟨0, Nat.zero_le _, rfl, Below.refl _ _⟩
  case round =>
    obtain ⟨k, hk, rfl, hb⟩ := hrel
    by_cases hlt : k < l.length
    · have h := HR.out.below hb
      have h' := HR'.out.below hb
      obtain ⟨b, off, rfl, hB, hc⟩ := h (by omega)
      obtain ⟨b', off', rfl, hB', hc'⟩ := h' (by omega)
      obtain ⟨c0, c1, c2⟩ := hc k hlt
      obtain ⟨d0, d1, d2⟩ := hc' k hlt
      clear hc hc' h h'
      have b1 : (0 : Int) ≤ (k : Int) := by omega
      have b2 : (k : Int) < (l.length : Int) := by omega
      generalize l[k] = x at c0 c1 c2 d0 d1 d2
      go_wp2_with fail
      go_region
      go_wp2_with fail
      go_roundw
      case rel => exact ⟨k + 1, by omega, by go_num, below_drew hb⟩
      case measure => simp [intOf]; omega
    · have e : k = l.length := by omega
      subst e
      go_wp2_with fail
      go_ret
      exact ⟨rfl, hb⟩
end Go.Proofs.YthihjphcjjpjpaaGreat

/- What the walk of TopOtterBars knows: runs counted from their beginnings, mirrored and shifted edges. -/
namespace Go.Proofs.YthihjphcjjpjpaaGreat
open Go.RowKit Go.Shelf Ck

theorem starts_take : ∀ (L : List UInt8) (a : UInt8) (i : Nat) (h : i < L.length), startsR a (L.take (i + 1)) = startsR a (L.take i) + if L[i] = 66 ∧ (if i = 0 then a else L.getD (i - 1) 0) ≠ 66 then 1 else 0
  | [], _, _, h => by simp at h
  | c :: r, a, 0, _ => by simp [startsR]
  | c :: r, a, i + 1, h => by
    have hi : i < r.length := by simpa using h
    have ih := starts_take r c i hi
    have e1 : (c :: r).take (i + 1 + 1) = c :: r.take (i + 1) := rfl
    have e2 : (c :: r).take (i + 1) = c :: r.take i := rfl
    have e3 : (c :: r)[i + 1] = r[i] := rfl
    have e4 : (if i + 1 = 0 then a else (c :: r).getD (i + 1 - 1) 0) = (if i = 0 then c else r.getD (i - 1) 0) := by
      cases i with
      | zero => rfl
      | succ j => simp
    rw [e1, e2, e3, e4, startsR, startsR, ih]
    omega
theorem bars_take (L : List UInt8) (i : Nat) (h : i < L.length) : barsN (L.take (i + 1)) = barsN (L.take i) + if L[i] = 66 then 1 else 0 := by
  rw [List.take_succ_eq_append_getElem h, barsN, List.countP_append, ← barsN, List.countP_singleton]
  simp
theorem starts_le : ∀ (L : List UInt8) (a : UInt8), startsR a L ≤ L.length
  | [], _ => by simp [startsR]
  | c :: r, a => by
    have := starts_le r c
    rw [startsR, List.length_cons]
    split <;> omega
theorem starts_all (L : List UInt8) : startsR 0 L = endsR L := by
  have := starts_ends L 0
  simpa using this
theorem barsN_le (L : List UInt8) : barsN L ≤ L.length := List.countP_le_length
theorem ends_le : ∀ (L : List UInt8), endsR L ≤ barsN L
  | [] => by simp [endsR]
  | c :: r => by
    have ih := ends_le r
    have hn : barsN (c :: r) = barsN r + (if c = 66 then 1 else 0) := by simp [barsN, List.countP_cons]
    rw [endsR, hn]
    by_cases h : c = 66
    · rw [if_pos h, if_pos h]
      split <;> omega
    · rw [if_neg h, if_neg h]
      omega
structure OfF (x y d : Int) (s : ByteArray) (c : Nat) (L : List UInt8) (l : List Bar) : Prop where
  rep : Lib.repeatL s.data.toList c = L
  len : L.length ≤ 24
  lets : ∀ q ∈ L, isL q
  e1 : EdgeOk x y s c
  e2 : EdgeOk (-x) y s c
  e3 : EdgeOk (x + d) y s c
  bars : barsP (sg true) ⟨x, y⟩ L = l
  mir : barsP (sg false) ⟨-x, y⟩ L = l.map mirB
  shi : barsP (sg true) ⟨x + d, y⟩ L = l.map (Bar.shift d 0)
  net : Net l
  netm : Net (l.map mirB)
  nets : Net (l.map (Bar.shift d 0))
  num : l.length = barsN L
  parts : PartsIs l (endsR L)
  knots : nK l = barsN L + endsR L
  mesh : nM l = 0
  degs : ∀ k, mget (degsL (ends l)) k ≤ 4
theorem of_all {x y d n : Int} {s : ByteArray} (h : Short x y s n) (hd : -256 ≤ d ∧ d ≤ 256 ∧ d % 2 = 0) : ∃ (c : Nat) (L : List UInt8) (l : List Bar), n = (c : Int) ∧ OfF x y d s c L l := by
  obtain ⟨h6, hw, hn1, hn4, hk, x1, x2, y1, y2⟩ := h
  obtain ⟨c, rfl⟩ : ∃ c : Nat, n = (c : Int) := ⟨n.toNat, by omega⟩
  have hp : (x + y) % 2 = 0 := hk.2.2
  have hcl : c * s.size ≤ 24 := Nat.le_trans (Nat.mul_le_mul (by omega : c ≤ 4) h6) (by decide)
  have e1 : EdgeOk x y s c := ⟨hw, by omega, by omega, by omega, by omega, by omega, by omega, hp⟩
  have e2 : EdgeOk (-x) y s c := ⟨hw, by omega, by omega, by omega, by omega, by omega, by omega, by omega⟩
  have e3 : EdgeOk (x + d) y s c := ⟨hw, by omega, by omega, by omega, by omega, by omega, by omega, by omega⟩
  obtain ⟨L, hL⟩ : ∃ L, Lib.repeatL s.data.toList c = L := ⟨_, rfl⟩
  have hl : ∀ q ∈ L, isL q := by rw [← hL]; exact rep_letters hw c
  have hlen : L.length ≤ 24 := by rw [← hL, rep_len]; exact hcl
  have n1 := edge_net e1 true
  have n2 := edge_net e2 false
  have n3 := edge_net e3 true
  rw [hL] at n1 n2 n3
  obtain ⟨l, hb⟩ : ∃ l, barsP (sg true) ⟨x, y⟩ L = l := ⟨_, rfl⟩
  have hm : barsP (sg false) ⟨-x, y⟩ L = l.map mirB := by rw [← hb]; exact barsP_mirror (sg true) L ⟨x, y⟩
  have hs : barsP (sg true) ⟨x + d, y⟩ L = l.map (Bar.shift d 0) := by
    have := barsP_shift (sg true) d 0 L ⟨x, y⟩
    rw [hb] at this
    simp only [Int.add_zero] at this
    rw [this]
    exact List.map_congr_left fun b _ => rfl
  obtain ⟨p1, p2⟩ := barsP_parts (sg_or true) (k := ⟨x, y⟩) hl
  have p3 := barsP_meshes (σ := sg true) L ⟨x, y⟩
  have p4 := barsP_length (σ := sg true) L ⟨x, y⟩
  have p5 := fun k => degs_le (barsP_pair (σ := sg true) L ⟨x, y⟩) k
  rw [hb] at p1 p2 p3 p4 n1
  rw [hm] at n2
  rw [hs] at n3
  exact ⟨c, L, l, rfl, hL, hlen, hl, e1, e2, e3, hb, hm, hs, n1, n2, n3, p4, p1, p2, p3, fun k => by have := p5 k; rw [hb] at this; omega⟩
theorem OfF.legs {x y d : Int} {s : ByteArray} {c : Nat} {L : List UInt8} {l : List Bar} (h : OfF x y d s c L l) {K : List Knot} (hK : K = (degsL (ends l)).map (·.1)) (hn : K.Nodup) (hm : ∀ x, x ∈ K ↔ x ∈ ends l) :
    legN l 0 = 0 ∧ legN l 1 = 2 * endsR L ∧ legN l 2 + endsR L = barsN L ∧ legN l 3 = 0 ∧ legN l 4 = 0 := by
  have hb := h.bars
  subst hb
  exact edge_legs (sg_or true) h.lets hK hn hm
set_option maxRecDepth 100000 in
theorem eqFive (a b c d e : Int) (w : World) : (Op.equalIn 10000 39 (.agg #[.int .i64 a, .int .i64 b, .int .i64 c, .int .i64 d, .int .i64 e]) (.agg #[.int .i64 a, .int .i64 b, .int .i64 c, .int .i64 d, .int .i64 e])).run Tryz.prog w = .ok true w := by
  have u3 := Tryz.underlying3
  have a3 := Tryz.isAgg3
  have z3 := Tryz.sizeOf3
  have hu : Tryz.prog.underlying 39 = some (.array 5 3) := by kernel_rfl
  have hC : Tryz.prog.cellsOf 3 = 1 := by kernel_rfl
  have hs : (Tryz.prog.info? 3).isSome = true := by kernel_rfl
  obtain ⟨i, hi⟩ := Option.isSome_iff_exists.1 hs
  rw [show (10000 : Nat) = 9999 + 1 from rfl, run_equalIn_array w 9999 _ _ hu hi, hC]
  simp only [show List.range 5 = [0, 1, 2, 3, 4] from rfl, Op.eqItems]
  go_simp
theorem guardFive : Tryz.prog.eqGuardType Tryz.prog.depth 39 = false := by kernel_rfl
def TriPost (l : List Bar) (w : World) (e : Ending) (w' : World) : Prop := ∃ a c, e = .returned (.tuple #[.slice a l.length c, .int .i64 0]) ∧ OKS w' a c l ∧ Below w.heap.size w w'
theorem barsSE (x y : Int) (s : ByteArray) (c : Nat) (o : Bool) (L : List UInt8) (l : List Bar) (w : World) (hL : Lib.repeatL s.data.toList c = L) (hl : barsP (sg o) ⟨x, y⟩ L = l) (h : EdgeOk x y s c) :
    Calls Tryz.prog 6 #[.agg #[.int .i64 x, .int .i64 y], .string s, .int .i64 c, .bool o] w (PairPost l w) := by
  subst hL hl
  exact barsS x y s c o w h
end Go.Proofs.YthihjphcjjpjpaaGreat

/- Contracts of plus, the shift's closure, barBetween. -/
namespace Go.Proofs.YthihjphcjjpjpaaGreat
open Go.RowKit

set_option maxHeartbeats 1000000 in
set_option maxRecDepth 100000 in
theorem netPlus (x y a b : Int) (w : World) (h1 : -1000000 ≤ x) (h2 : x ≤ 1000000) (h3 : -1000000 ≤ y) (h4 : y ≤ 1000000) (k1 : -1000000 ≤ a) (k2 : a ≤ 1000000) (k3 : -1000000 ≤ b) (k4 : b ≤ 1000000) :
    Calls Tryz.prog 59 #[.agg #[.int .i64 x, .int .i64 y], .agg #[.int .i64 a, .int .i64 b]] w fun e w' => e = .returned (.agg #[.int .i64 (x + a), .int .i64 (y + b)]) ∧ Below w.heap.size w w' := by
  go_enter Tryz.func59, Tryz.ntmps59
  go_wp2
  exact bodyPost_ret (v := .agg #[.int .i64 (x + a), .int .i64 (y + b)]) (by simp [results, Tryz.results59, go_sem]) rfl ⟨rfl, (((Below.refl _ _).alloc (Nat.le_refl _) _).alloc (by simp) _).alloc (by simp; omega) _⟩

set_option maxHeartbeats 1000000 in
set_option maxRecDepth 100000 in
theorem netBetweenUp (x y a b : Int) (w : World) (h1 : -1000000 ≤ x) (h2 : x ≤ 1000000) (k1 : -1000000 ≤ a) (k2 : a ≤ 1000000) (hle : y ≤ b) :
    Calls Tryz.prog 54 #[.agg #[.int .i64 x, .int .i64 y], .agg #[.int .i64 a, .int .i64 b]] w fun e w' => e = .returned (.agg #[.int .i64 x, .int .i64 y, .int .i64 (a - x)]) ∧ Below w.heap.size w w' := by
  have hn : ¬ b < y := by omega
  go_enter Tryz.func54, Tryz.ntmps54
  go_wp2
  exact bodyPost_ret (v := .agg #[.int .i64 x, .int .i64 y, .int .i64 (a - x)]) (by simp [results, Tryz.results54, go_sem]) rfl ⟨rfl, (((Below.refl _ _).alloc (Nat.le_refl _) _).alloc (by simp) _).alloc (by simp; omega) _⟩

set_option maxHeartbeats 1000000 in
set_option maxRecDepth 100000 in
theorem netWithin (A : Option Addr) (c : Nat) (l : List Ck.Bar) (w : World) (hl : l.length ≤ 4096) (hc : l.length ≤ c) (hcm : c ≤ maxLen) (hN : Ck.Net l) (h : RB w w.heap.size A l) :
    Calls Tryz.prog 30 #[.slice A l.length c] w fun e w' => e = .returned (.tuple #[.slice A l.length c, .int .i64 0]) ∧ Below w.heap.size w w' := by
  have HE := Lib.hid ((netE_zero l).2 ⟨hl, hN⟩)
  have HR := Lib.hid h
  clear h hN
  go_enter Tryz.func30, Tryz.ntmps30
  go_wp2_with fail
  refine (netCheckNet A c l _ hl hc hcm HR.out).mono ?_
  rintro e w1 ⟨rfl, hb1⟩
  rw [HE.out]
  go_wp2
  go_ret2
  exact ⟨rfl, hb1⟩
end Go.Proofs.YthihjphcjjpjpaaGreat

/- The contract of the shift's closure. -/
namespace Go.Proofs.YthihjphcjjpjpaaGreat
open Go.RowKit

theorem box22 (w : World) (a b c d : Value) (t t' : TypeId) : ∃ w1, w1 = (w.alloc (.cells #[a, b] t)).alloc (.cells #[c, d] t') ∧ w1.cell? ⟨w.heap.size, 0, none⟩ = some a ∧ w1.cell? ⟨w.heap.size, 1, none⟩ = some b ∧
    w1.heap[w.heap.size + 1]? = some (.cells #[c, d] t' (0, 0)) ∧ Below w.heap.size w w1 ∧ w.heap.size + 1 < w1.heap.size := by
  obtain ⟨w0, rfl, h0, h1, hb0, hz⟩ := box2 w a b t
  have hs : (w.alloc (.cells #[a, b] t)).heap.size = w.heap.size + 1 := by simp
  have hb : Below (w.alloc (.cells #[a, b] t)).heap.size (w.alloc (.cells #[a, b] t)) ((w.alloc (.cells #[a, b] t)).alloc (.cells #[c, d] t')) := (Below.refl _ _).alloc (Nat.le_refl _) _
  exact ⟨_, rfl, (hb.cell (p := ⟨_, _, none⟩) hz).trans h0, (hb.cell (p := ⟨_, _, none⟩) hz).trans h1, by rw [← hs]; exact heap_alloc_new _ _, hb0.trans (hb.mono (by omega)), by simp⟩

set_option maxHeartbeats 1000000 in
set_option maxRecDepth 100000 in
theorem shiftClosure (x y a b : Int) (g : Nat) (w : World) (h1 : -1000000 ≤ x) (h2 : x ≤ 1000000) (h3 : -1000000 ≤ y) (h4 : y ≤ 1000000) (k1 : -1000000 ≤ a) (k2 : a ≤ 1000000) (k3 : -1000000 ≤ b) (k4 : b ≤ 1000000)
    (hg : g < w.heap.size) (c0 : w.cell? ⟨g, 0, none⟩ = some (.int .i64 a)) (c1 : w.cell? ⟨g, 1, none⟩ = some (.int .i64 b)) :
    Calls Tryz.prog 58 #[.agg #[.int .i64 x, .int .i64 y], .pointer (some ⟨g, 0, none⟩)] w fun e w' => e = .returned (.agg #[.int .i64 (x + a), .int .i64 (y + b)]) ∧ Below w.heap.size w w' := by
  obtain ⟨w0, hw0, d0, d1, hr, hb0, hz0⟩ := box22 w (.int .i64 x) (.int .i64 y) (.int .i64 0) (.int .i64 0) 71 71
  have hne : w.heap.size ≠ g := by omega
  have hne2 : w.heap.size + 1 ≠ g := by omega
  have e0 : ((w.alloc (.cells #[.int .i64 x, .int .i64 y] 71)).alloc (.cells #[.int .i64 0, .int .i64 0] 71)).cell? ⟨g, 0, none⟩ = some (.int .i64 a) := by rw [← hw0]; exact (hb0.cell (p := ⟨g, _, none⟩) hg).trans c0
  have e1 : ((w.alloc (.cells #[.int .i64 x, .int .i64 y] 71)).alloc (.cells #[.int .i64 0, .int .i64 0] 71)).cell? ⟨g, 1, none⟩ = some (.int .i64 b) := by rw [← hw0]; exact (hb0.cell (p := ⟨g, _, none⟩) hg).trans c1
  have HW := Lib.hid hw0
  have HR := Lib.hid hr
  clear hw0 hr
  go_enter Tryz.func58, Tryz.ntmps58
  go_wp2_with fail
  rw [← HW.out]
  refine (netPlus x y a b _ h1 h2 h3 h4 k1 k2 k3 k4).mono ?_
  rintro e w1 ⟨rfl, hb1⟩
  have hr1 := (hb1.block _ hz0).trans HR.out
  have hz1 := Nat.lt_of_lt_of_le hz0 hb1.size
  obtain ⟨t0, t1, tf⟩ := two_of_block hr1
  clear hr1 c0 c1 d0 d1 e0 e1
  go_wp2
  exact bodyPost_ret (v := .agg #[.int .i64 (x + a), .int .i64 (y + b)]) (by simp [results, Tryz.results58, go_sem, t0, t1]) rfl ⟨rfl, ((hb0.trans (hb1.mono (by omega))).setCell (by simp) _).setCell (by simp) _⟩
end Go.Proofs.YthihjphcjjpjpaaGreat

/- The sort of the library laid at this program, at bars and at knots. -/
namespace Go.Proofs.YthihjphcjjpjpaaGreat
open Go.Shelf
def Tryz.sortB_ren : Go.Shelf.Ren := ⟨fun | 6 => 56 | 15 => 71 | 14 => 70 | 28 => 89 | 29 => 90 | 20 => 81 | 21 => 82 | 22 => 83 | 23 => 84 | 24 => 85 | 25 => 86 | 26 => 87 | 27 => 88 | 46 => 97 | 47 => 98 | 48 => 99 | 49 => 100 | 50 => 101 | 57 => 104 | n => n, fun | 22 => 29 | 24 => 52 | 25 => 100 | 3 => 3 | 39 => 114 | 0 => 0 | 53 => 140 | 55 => 142 | 4 => 4 | 46 => 134 | 45 => 133 | 50 => 105 | 5 => 5 | 9 => 9 | 66 => 149 | 70 => 153 | 76 => 158 | 77 => 159 | n => n, fun | n => n⟩
theorem Tryz.sortB : Go.Proofs.SlLaysF0.n6 Tryz.prog Tryz.sortB_ren := {
  mixed := by kernel_rfl,
  f6 := ⟨Tryz.f56.name, by decide, Tryz.func56.trans (congrArg some (by kernel_rfl))⟩,
  f14 := ⟨Tryz.f70.name, by decide, Tryz.func70.trans (congrArg some (by kernel_rfl))⟩,
  f15 := Tryz.func71.trans (congrArg some (by kernel_rfl)),
  f20 := ⟨Tryz.f81.name, by decide, Tryz.func81.trans (congrArg some (by kernel_rfl))⟩,
  f21 := ⟨Tryz.f82.name, by decide, Tryz.func82.trans (congrArg some (by kernel_rfl))⟩,
  f22 := ⟨Tryz.f83.name, by decide, Tryz.func83.trans (congrArg some (by kernel_rfl))⟩,
  f23 := ⟨Tryz.f84.name, by decide, Tryz.func84.trans (congrArg some (by kernel_rfl))⟩,
  f24 := ⟨Tryz.f85.name, by decide, Tryz.func85.trans (congrArg some (by kernel_rfl))⟩,
  f25 := ⟨Tryz.f86.name, by decide, Tryz.func86.trans (congrArg some (by kernel_rfl))⟩,
  f26 := ⟨Tryz.f87.name, by decide, Tryz.func87.trans (congrArg some (by kernel_rfl))⟩,
  f27 := ⟨Tryz.f88.name, by decide, Tryz.func88.trans (congrArg some (by kernel_rfl))⟩,
  f28 := Tryz.func89.trans (congrArg some (by kernel_rfl)),
  f29 := Tryz.func90.trans (congrArg some (by kernel_rfl)),
  f46 := ⟨Tryz.f97.name, by decide, Tryz.func97.trans (congrArg some (by kernel_rfl))⟩,
  f47 := Tryz.func98.trans (congrArg some (by kernel_rfl)),
  f48 := Tryz.func99.trans (congrArg some (by kernel_rfl)),
  f49 := ⟨Tryz.f100.name, by decide, Tryz.func100.trans (congrArg some (by kernel_rfl))⟩,
  f50 := ⟨Tryz.f101.name, by decide, Tryz.func101.trans (congrArg some (by kernel_rfl))⟩,
  f57 := ⟨Tryz.f104.name, by decide, Tryz.func104.trans (congrArg some (by kernel_rfl))⟩,
  t0 := Tryz.underlying0,
  a0 := Tryz.isAgg0,
  z0 := Tryz.sizeOf0,
  v0 := Tryz.zeroValue0,
  t3 := Tryz.underlying3,
  a3 := Tryz.isAgg3,
  z3 := Tryz.sizeOf3,
  v3 := Tryz.zeroValue3,
  t4 := Tryz.underlying4,
  a4 := Tryz.isAgg4,
  z4 := Tryz.sizeOf4,
  v4 := Tryz.zeroValue4,
  t5 := Tryz.underlying5,
  a5 := Tryz.isAgg5,
  z5 := Tryz.sizeOf5,
  v5 := Tryz.zeroValue5,
  t9 := Tryz.underlying9,
  a9 := Tryz.isAgg9,
  z9 := Tryz.sizeOf9,
  v9 := Tryz.zeroValue9,
  t22 := Tryz.underlying29,
  a22 := Tryz.isAgg29,
  z22 := Tryz.sizeOf29,
  v22 := Tryz.zeroValue29,
  t25 := Tryz.underlying100,
  a25 := Tryz.isAgg100,
  z25 := Tryz.sizeOf100,
  v25 := Tryz.zeroValue100,
  t39 := Tryz.underlying114,
  a39 := Tryz.isAgg114,
  z39 := Tryz.sizeOf114,
  v39 := Tryz.zeroValue114,
  t45 := Tryz.underlying133,
  a45 := Tryz.isAgg133,
  z45 := Tryz.sizeOf133,
  v45 := Tryz.zeroValue133,
  t46 := Tryz.underlying134,
  a46 := Tryz.isAgg134,
  z46 := Tryz.sizeOf134,
  v46 := Tryz.zeroValue134,
  t50 := Tryz.underlying105,
  a50 := Tryz.isAgg105,
  z50 := Tryz.sizeOf105,
  v50 := Tryz.zeroValue105,
  t53 := Tryz.underlying140,
  a53 := Tryz.isAgg140,
  z53 := Tryz.sizeOf140,
  v53 := Tryz.zeroValue140,
  t55 := Tryz.underlying142,
  a55 := Tryz.isAgg142,
  z55 := Tryz.sizeOf142,
  v55 := Tryz.zeroValue142,
  t66 := Tryz.underlying149,
  a66 := Tryz.isAgg149,
  z66 := Tryz.sizeOf149,
  v66 := Tryz.zeroValue149,
  t70 := Tryz.underlying153,
  a70 := Tryz.isAgg153,
  z70 := Tryz.sizeOf153,
  v70 := Tryz.zeroValue153,
  t76 := Tryz.underlying158,
  a76 := Tryz.isAgg158,
  z76 := Tryz.sizeOf158,
  v76 := Tryz.zeroValue158,
  t77 := Tryz.underlying159,
  a77 := Tryz.isAgg159,
  z77 := Tryz.sizeOf159,
  v77 := Tryz.zeroValue159 }
end Go.Proofs.YthihjphcjjpjpaaGreat

/- A row of the call's own with elements of k cells, before and behind the library's sort. -/
namespace Go.Proofs.YthihjphcjjpjpaaGreat
open Go.RowKit Go.Sort

variable {α : Type} [Inhabited α]
theorem flat_at (enc : α → List Value) (k : Nat) (hk : ∀ x, (enc x).length = k) : ∀ (ss : List α) (t : Nat), t < ss.length * k → (ss.flatMap enc)[t]? = some ((enc (ss[t / k]!))[t % k]!)
  | [], t, h => by simp at h
  | a :: r, t, h => by
    have k0 : 0 < k := by
      rcases Nat.eq_zero_or_pos k with h0 | h0
      · subst h0; simp at h
      · exact h0
    rw [List.flatMap_cons]
    by_cases ht : t < k
    · rw [List.getElem?_append_left (by rw [hk]; exact ht), Nat.div_eq_of_lt ht, Nat.mod_eq_of_lt ht]
      have : t < (enc a).length := by rw [hk]; exact ht
      simp [this]
    · have h1 : t - k < r.length * k := by
        have : (a :: r).length * k = r.length * k + k := by rw [List.length_cons, Nat.add_mul, Nat.one_mul]
        omega
      have e1 : t / k = (t - k) / k + 1 := by
        have e := Nat.add_div_right (t - k) k0
        rwa [Nat.sub_add_cancel (by omega)] at e
      have e2 : t % k = (t - k) % k := by
        have e := Nat.add_mod_right (t - k) k
        rw [Nat.sub_add_cancel (by omega)] at e
        exact e
      rw [List.getElem?_append_right (by rw [hk]; omega), hk, flat_at enc k hk r (t - k) h1, e1, e2]
      simp
omit [Inhabited α] in
theorem flat_length (enc : α → List Value) (k : Nat) (hk : ∀ x, (enc x).length = k) : ∀ (ss : List α), (ss.flatMap enc).length = ss.length * k
  | [] => by simp
  | a :: r => by rw [List.flatMap_cons, List.length_append, hk, flat_length enc k hk r, List.length_cons, Nat.add_mul, Nat.one_mul]; omega
theorem flatK_list (enc : α → List Value) (k : Nat) (hk : ∀ x, (enc x).length = k) (ss : List α) : flatK enc k ss.toArray = (ss.flatMap enc).toArray := by
  refine ext_get! (by simp [flat_length enc k hk]) fun t ht => ?_
  have ht' : t < ss.length * k := by simpa using ht
  rw [get_flatK enc k _ t (by simpa using ht')]
  have h := flat_at enc k hk ss t ht'
  rw [getElem!_pos _ t (by simpa [flat_length enc k hk] using ht')]
  rw [List.getElem?_eq_getElem (by rw [flat_length enc k hk]; exact ht'), Option.some.injEq] at h
  rw [List.getElem_toArray, h]
  simp
theorem holdsK_of_row (enc : α → List Value) (k : Nat) (hk : ∀ x, (enc x).length = k) {w : World} {g : Nat} {cur : Array Value} {e : TypeId} (ss : List α) (hb : w.heap[g]? = some (.cells cur e (0, 0))) (ht : cur.toList.take (ss.length * k) = ss.flatMap enc) :
    HoldsK enc k w g 0 ss.toArray := by
  unfold HoldsK
  rw [flatK_list enc k hk]
  intro j hj
  have hj' : j < ss.length * k := by simpa [flat_length enc k hk] using hj
  refine ⟨?_, by simp [World.frozen?, hb]⟩
  have h1 : (cur.toList.take (ss.length * k))[j]? = (ss.flatMap enc)[j]? := by rw [ht]
  rw [List.getElem?_take_of_lt hj', flat_at enc k hk ss j hj'] at h1
  have h2 := flat_at enc k hk ss j hj'
  have h3 : (ss.flatMap enc).toArray[j]! = (enc ss[j / k]!)[j % k]! := by
    rw [getElem!_pos _ j hj, List.getElem_toArray]
    rw [List.getElem?_eq_getElem (by rw [flat_length enc k hk]; exact hj'), Option.some.injEq] at h2
    exact h2
  rw [h3]
  simp only [World.cell?, hb, Nat.zero_add, id]
  simp only [Option.isSome_none, Bool.false_eq_true, if_false]
  rw [← Array.getElem?_toList, h1]
theorem take_put (cur : Array Value) (ts : List Value) (h : ts.length ≤ cur.size) : (putCells id 0 ts.toArray cur).toList.take ts.length = ts := by
  apply List.ext_getElem?
  intro j
  by_cases hj : j < ts.length
  · rw [List.getElem?_take_of_lt hj, Array.getElem?_toList]
    simp [putCells, hj, show j < cur.size by omega]
  · rw [List.getElem?_take_eq_none (by omega), List.getElem?_eq_none (by omega)]
theorem sorted_heap {w : World} {g m : Nat} {os : Array Obj} {cur : Array Value} {e : TypeId} {fr : Nat × Nat} (F : Array Value) (hb : w.heap[g]? = some (.cells cur e fr)) :
    (grow (putRow id (Sort.ahead w m) g 0 F) os).heap[g]? = some (.cells (putCells id 0 F cur) e fr) := by
  have hg : g < w.heap.size := (Array.getElem?_eq_some_iff.1 hb).1
  rw [heap_grow_old _ _ (by simpa using hg)]
  simp [putRow, mapBlock, Sort.ahead, Array.getElem?_modify, hb, onCells]
theorem sorted_grown {w : World} {g m : Nat} {os : Array Obj} (F : Array Value) : w.grownBy (grow (putRow id (Sort.ahead w m) g 0 F) os) (some g) := by
  refine ⟨rfl, rfl, rfl, by simp, fun k hk hne => ?_⟩
  rw [heap_grow_old _ _ (by simpa using hk)]
  have : g ≠ k := fun e => hne (by rw [e])
  simp [putRow, mapBlock, Sort.ahead, Array.getElem?_modify, this]
/-- Behind the sort the same slice owns the cells of the permuted elements. -/
theorem sorted_owns (enc : α → List Value) (k : Nat) (hk : ∀ x, (enc x).length = k) {w : World} {base g cap m : Nat} {e : TypeId} {os : Array Obj} {cur : Array Value} (ss : List α) (hbase : base ≤ g) (hb : w.heap[g]? = some (.cells cur e (0, 0)))
    (h1 : ss.length ≤ cap) (h2 : cap ≤ maxLen) (h3 : cur.size = cap * k) :
    (sortWorldK enc k w g 0 m ss.toArray os).ownsRow base e k (.slice (some ⟨g, 0, none⟩) ss.length cap) ss.length (ss.flatMap enc) ∧ (base ≤ w.heap.size → Below base w (sortWorldK enc k w g 0 m ss.toArray os)) := by
  unfold sortWorldK putRowK
  rw [flatK_list enc k hk]
  refine ⟨⟨flat_length enc k hk ss, .inr ⟨g, cap, _, rfl, hbase, sorted_heap _ hb, h1, h2, by simp [putCells, h3], ?_⟩⟩, fun hB => (Below.refl _ _).grown (sorted_grown _) hB (fun j e => by cases e; exact hbase)⟩
  have hle : (ss.flatMap enc).length ≤ cur.size := by rw [flat_length enc k hk, h3]; exact Nat.mul_le_mul_right k h1
  have := take_put cur (ss.flatMap enc) hle
  rwa [flat_length enc k hk] at this
end Go.Proofs.YthihjphcjjpjpaaGreat

/- The library's sort at bars by compareBars. -/
namespace Go.Proofs.YthihjphcjjpjpaaGreat
open Go.RowKit Go.Sort Go.Shelf

instance (a b : Ck.Bar) : Decidable (Ck.Blt a b) := by unfold Ck.Blt; infer_instance
instance : Inhabited Ck.Bar := ⟨⟨0, 0, 0⟩⟩
instance : Inhabited Ck.Knot := ⟨⟨0, 0⟩⟩
theorem ltBars (x y : Ck.Bar) : ltOf cmpB x y = decide (Ck.Blt x y) := by
  unfold ltOf
  rw [decide_eq_decide, cmpB_lt_iff]
theorem swoBars : SWO (ltOf cmpB) where
  irrefl x := by rw [ltBars, decide_eq_false_iff_not]; exact fun h => h.irrefl
  trans x y z h1 h2 := by
    rw [ltBars, decide_eq_true_eq] at *
    exact h1.trans h2
  ntrans x y z h1 h2 := by
    rw [ltBars, decide_eq_false_iff_not] at *
    unfold Ck.Blt at *
    omega
theorem totBars (x y : Ck.Bar) (h1 : ltOf cmpB x y = false) (h2 : ltOf cmpB y x = false) : x = y := by
  rw [ltBars, decide_eq_false_iff_not] at *
  rcases Ck.Blt.tri x y with h | h | h
  · exact absurd h h1
  · exact h
  · exact absurd h h2
theorem layBars (blk off size : Nat) (w : World) : CmpLays Tryz.prog 57 #[] bcells 3 cmpB blk off size w := fun _ _ _ _ x y =>
  (netCompareBars x.x x.y x.s y.x y.y y.s _).mono fun e w' h => by
    obtain ⟨he, rfl⟩ := h
    exact ⟨he, 1, _, by rw [alloc_eq_grow, alloc_eq_grow, alloc_eq_grow, grow_grow, grow_grow]; rfl⟩

def leB (x y : Ck.Bar) : Bool := !(ltOf cmpB y x)
def sortBars (l : List Ck.Bar) : List Ck.Bar := l.mergeSort leB
theorem leB_iff (x y : Ck.Bar) : leB x y = true ↔ ¬ Ck.Blt y x := by simp [leB, ltBars]
theorem sortBars_perm (l : List Ck.Bar) : (sortBars l).Perm l := List.mergeSort_perm l leB
theorem sortBars_sorted (l : List Ck.Bar) : (sortBars l).Pairwise fun x y => ¬ Ck.Blt y x := by
  have := List.pairwise_mergeSort (le := leB) (fun a b c h1 h2 => by rw [leB_iff] at *; unfold Ck.Blt at *; omega) (fun a b => by rw [Bool.or_eq_true, leB_iff, leB_iff]; unfold Ck.Blt; omega) l
  exact this.imp fun {a b} h => (leB_iff a b).1 h
theorem sortBars_strict {l : List Ck.Bar} (hn : l.Nodup) : (sortBars l).Pairwise Ck.Blt := by
  have h1 := sortBars_sorted l
  have h2 : (sortBars l).Nodup := (sortBars_perm l).nodup_iff.2 hn
  exact h1.imp₂ (fun a b h k => by
    rcases Ck.Blt.tri a b with h' | h' | h'
    · exact h'
    · exact absurd h' k
    · exact absurd h' h) h2
theorem sortBars_net {l : List Ck.Bar} (h : l.Pairwise Ck.Blt) : sortBars l = l :=
  List.Perm.eq_of_pairwise (le := fun a b => ¬ Ck.Blt b a) (fun a b _ _ h1 h2 => by
    rcases Ck.Blt.tri a b with h' | h' | h'
    · exact absurd h' h2
    · exact h'
    · exact absurd h' h1) (sortBars_sorted l) (h.imp fun {a b} h k => (h.trans k).irrefl) (sortBars_perm l)

theorem netSortBars (base : Nat) (v : Value) (l : List Ck.Bar) (w : World) (hl : l.length ≤ 100000) (hB : base ≤ w.heap.size) (h : w.ownsRow base 52 3 v l.length (bcellsL l)) :
    Calls Tryz.prog 56 #[v, .func (.func 57) #[] #[]] w fun e w' => e = .returned (.tuple #[]) ∧ w'.ownsRow base 52 3 v l.length (bcellsL (sortBars l)) ∧ Below base w w' := by
  have eg : ∀ args w, (callFunc 57 args).run Tryz.prog w = .ok (.enter 57 args) w := enters_of Tryz.func57 (by kernel_rfl) rfl
  rcases h.2 with ⟨rfl, hz⟩ | ⟨g, cap, cur, rfl, hbase, hgb, r1, r2, r3, r4⟩
  · have hl0 : l = [] := List.eq_nil_of_length_eq_zero hz
    subst hl0
    have hc := AnyF.slices_SortFunc_none Tryz.sortB none 0 (.func (.func 57) #[] #[]) w
    change Calls Tryz.prog 56 _ _ _ at hc
    exact hc.mono fun e w' ⟨he, hw⟩ => ⟨he, by rw [hw]; exact ⟨by simp [sortBars, bcellsL], .inl ⟨rfl, rfl⟩⟩, by rw [hw]; exact Below.refl _ _⟩
  · have hH := holdsK_of_row bcells 3 (fun _ => rfl) l hgb (r4.trans rfl)
    have hgl : g < w.heap.size := (Array.getElem?_eq_some_iff.1 hgb).1
    have hc := AnyQ.slices_SortFunc_total Tryz.sortB 3 Tryz.isAgg52 Tryz.sizeOf52 bcells (fun _ => rfl) (fun x v hv => by simp [bcells] at hv; rcases hv with rfl | rfl | rfl <;> rfl) cmpB swoBars 57 #[] g 0 cap l.toArray w eg (layBars g 0 _ w) hH hgl (by simp; omega) totBars
    change Calls Tryz.prog 56 _ _ _ at hc
    rw [List.size_toArray] at hc
    refine hc.mono fun e w' ⟨he, n, os, hw⟩ => ?_
    have hs : (l.toArray.toList.mergeSort fun x y => !(ltOf cmpB) y x) = sortBars l := rfl
    rw [hs] at hw
    have hp := (sortBars_perm l).length_eq
    obtain ⟨q1, q2⟩ := sorted_owns bcells 3 (fun _ => rfl) (m := n) (os := os) (sortBars l) hbase hgb (by rw [hp]; exact r1) r2 r3
    rw [hp] at q1
    rw [hw]
    exact ⟨he, q1, q2 hB⟩
end Go.Proofs.YthihjphcjjpjpaaGreat

/- The contract of moved, by a shift's closure. -/
namespace Go.Proofs.YthihjphcjjpjpaaGreat
open Go.RowKit

theorem made_row (w : World) (base n : Nat) (hb : base ≤ w.heap.size) (hn : n ≤ 4096) (cs : Array Value) (hcs : cs.size = n * 3) (t : TypeId) : (w.alloc (.cells cs t)).ownsRow base t 3 (.slice (some ⟨w.heap.size, 0, none⟩) 0 n) 0 [] :=
  ⟨by simp, .inr ⟨_, _, _, rfl, hb, heap_alloc_new _ _, Nat.zero_le _, by unfold maxLen; omega, hcs, by simp⟩⟩
def zeros3 (n : Nat) : Array Value := madeCells (Value.agg #[.int .i64 0, .int .i64 0, .int .i64 0]).cells (n * 3)

def K5 (W : World) (g g0 : Nat) (a b c d e : Value) (w0 : World) : Prop := w0.cell? ⟨g, 0, none⟩ = some a ∧ w0.cell? ⟨g, 1, none⟩ = some b ∧ w0.cell? ⟨g, 2, none⟩ = some c ∧ w0.cell? ⟨g0, 0, none⟩ = some d ∧ w0.cell? ⟨g0, 1, none⟩ = some e ∧ g < w0.heap.size ∧ g0 < w0.heap.size ∧ Below g W w0
theorem carry5 {W w0 w1 : World} {g g0 : Nat} {a b c d e : Value} (hb : Below w0.heap.size w0 w1) (h : K5 W g g0 a b c d e w0) : K5 W g g0 a b c d e w1 :=
  ⟨(hb.cell (p := ⟨g, _, none⟩) h.2.2.2.2.2.1).trans h.1, (hb.cell (p := ⟨g, _, none⟩) h.2.2.2.2.2.1).trans h.2.1, (hb.cell (p := ⟨g, _, none⟩) h.2.2.2.2.2.1).trans h.2.2.1, (hb.cell (p := ⟨g0, _, none⟩) h.2.2.2.2.2.2.1).trans h.2.2.2.1, (hb.cell (p := ⟨g0, _, none⟩) h.2.2.2.2.2.2.1).trans h.2.2.2.2.1, Nat.lt_of_lt_of_le h.2.2.2.2.2.1 hb.size, Nat.lt_of_lt_of_le h.2.2.2.2.2.2.1 hb.size, h.2.2.2.2.2.2.2.trans (hb.mono (Nat.le_of_lt h.2.2.2.2.2.1))⟩
theorem K5.below {W w0 : World} {g g0 : Nat} {a b c d e : Value} (h : K5 W g g0 a b c d e w0) : Below g W w0 := h.2.2.2.2.2.2.2

theorem mov_row {w10 : World} {base : Nat} {v : Value} {l : List Ck.Bar} {k : Nat} {dx dy : Int} (hlt : k < l.length) (h : w10.ownsRow base 52 3 v (k + 1) (bcellsL ((l.take k).map (Ck.Bar.shift dx dy)) ++ [.int .i64 (l[k].x + dx), .int .i64 (l[k].y + dy), .int .i64 l[k].s])) :
    Hid (w10.ownsRow base 52 3 v (k + 1) (bcellsL ((l.take (k + 1)).map (Ck.Bar.shift dx dy)))) := by
  rw [List.take_succ_eq_append_getElem hlt, List.map_append, bcellsL, List.flatMap_append, ← bcellsL]
  exact h
theorem mov_below {wr w9 w10 : World} {o : Obj} {base : Nat} {row : Option Nat} (hb : Below wr.heap.size wr w9) (hg : (w9.alloc o).grownBy w10 row) (hrow : ∀ k, row = some k → base ≤ k) (hbz : base ≤ wr.heap.size) : Below base wr w10 :=
  (((hb.mono hbz).alloc (Nat.le_trans hbz hb.size) _)).grown hg (by have := hb.size; simp; omega) hrow

def MovPost (l : List Ck.Bar) (dx dy : Int) (w : World) (e : Ending) (w' : World) : Prop :=
  ∃ v, e = .returned v ∧ w'.ownsRow w.heap.size 52 3 v l.length (bcellsL (sortBars (l.map (Ck.Bar.shift dx dy)))) ∧ Below w.heap.size w w'

set_option maxHeartbeats 4000000 in
set_option maxRecDepth 100000 in
theorem netMoved (A : Option Addr) (c g0 : Nat) (l : List Ck.Bar) (dx dy : Int) (w : World) (hl : l.length ≤ 4096) (hok : ∀ x ∈ l, Ck.okBar x) (h : RB w w.heap.size A l) (k1 : -500000 ≤ dx) (k2 : dx ≤ 500000) (k3 : -500000 ≤ dy) (k4 : dy ≤ 500000)
    (hg : g0 < w.heap.size) (c0 : w.cell? ⟨g0, 0, none⟩ = some (.int .i64 dx)) (c1 : w.cell? ⟨g0, 1, none⟩ = some (.int .i64 dy)) :
    Calls Tryz.prog 26 #[.slice A l.length c, .func (.func 58) #[] #[.pointer (some ⟨g0, 0, none⟩)]] w (MovPost l dx dy w) := by
  obtain ⟨ib, hib, hb0, hb01, hb02⟩ := info_parts Tryz.info52
  have hmk : ∀ W : World, (Instr.makeSlice 29 (.int .i64 0) (.int .i64 (l.length : Int))).run Tryz.prog W = .ok (.slice (some ⟨W.heap.size, 0, none⟩) 0 l.length) (W.alloc (.cells (zeros3 l.length) 52)) := fun W => by
    have := run_make (P := Tryz.prog) W 29 52 ib _ Tryz.underlying29 hib hb0 .i64 .i64 0 (l.length : Int) (by omega) (by omega) (by rw [hb02]; omega) (by omega)
    rw [hb01, Int.toNat_natCast] at this
    exact this
  have HIB := Lib.hid hib
  have HB0 := Lib.hid hb0
  have HB1 := Lib.hid hb01
  have HB2 := Lib.hid hb02
  have HR := Lib.hid h
  have hl' : (l.length : Int) ≤ 4096 := by omega
  clear hib hb0 hb01 hb02 h
  go_enter Tryz.func26, Tryz.ntmps26
  go_wp2_with fail
  go_loopw [5, 7, 13] (fun v _ i wi => ∃ k : Nat, k ≤ l.length ∧ i = .int .i64 k ∧ Hid (wi.ownsRow w.heap.size 52 3 v k (bcellsL ((l.take k).map (Ck.Bar.shift dx dy)))) ∧ Below w.heap.size w wi) (fun _ _ i _ => l.length - (intOf i).toNat)
  case atStart => exact ⟨0, Nat.zero_le _, rfl, made_row _ _ _ (Nat.le_refl _) hl _ (by rw [zeros3, size_madeCells]) _, (Below.refl _ _).alloc (Nat.le_refl _) _⟩
  case round =>
    obtain ⟨k, hk, rfl, hown, hb⟩ := hrel
    by_cases hlt : k < l.length
    · obtain ⟨b, off, rfl, hB, hc⟩ := HR.out.below hb (by omega)
      obtain ⟨d0, d1, d2⟩ := hc k hlt
      have hbz := hb.size
      obtain ⟨⟨⟨hx1, hx2⟩, ⟨hy1, hy2⟩, _⟩, hs, _⟩ := hok _ (List.getElem_mem hlt)
      replace hx1 : -100000 ≤ l[k].x := hx1
      replace hx2 : l[k].x ≤ 100000 := hx2
      replace hy1 : -100000 ≤ l[k].y := hy1
      replace hy2 : l[k].y ≤ 100000 := hy2
      have hs1 : -1 ≤ l[k].s := by omega
      have hs2 : l[k].s ≤ 1 := by omega
      have q0 := (hb.cell (p := ⟨g0, 0, none⟩) hg).trans c0
      have q1 := (hb.cell (p := ⟨g0, 1, none⟩) hg).trans c1
      clear hc hs
      go_wp2_with fail
      obtain ⟨w1, hw1, e0, e1, e2, hb1, hz1⟩ := box3 wr (.int .i64 l[k].x) (.int .i64 l[k].y) (.int .i64 l[k].s) 52
      rw [← hw1]
      clear hw1 d0 d1 d2
      replace q0 := (hb1.cell (p := ⟨g0, 0, none⟩) (by show g0 < _; omega)).trans q0
      replace q1 := (hb1.cell (p := ⟨g0, 1, none⟩) (by show g0 < _; omega)).trans q1
      have hk0 : K5 wr wr.heap.size g0 (.int .i64 l[k].x) (.int .i64 l[k].y) (.int .i64 l[k].s) (.int .i64 dx) (.int .i64 dy) w1.drew := ⟨e0, e1, e2, q0, q1, hz1, by show g0 < w1.heap.size; omega, below_drew hb1⟩
      go_region_law (first
        | (go_simp; go_at_call 52; refine (netLower _ _ _ _).mono ?_; rintro e w9 ⟨rfl, hb9⟩; have hk9 := carry5 hb9 (by assumption); obtain ⟨_, _, _, _, _, _, _, _⟩ := id hk9)
        | (go_simp; go_at_call 55; refine (netUpper _ _ _ _ hx1 hx2 hy1 hy2 hs1 hs2).mono ?_; rintro e w9 ⟨rfl, hb9⟩; have hk9 := carry5 hb9 (by assumption); obtain ⟨_, _, _, _, _, _, _, _⟩ := id hk9)
        | (go_simp; go_at_call 58; refine (shiftClosure _ _ dx dy g0 _ (by omega) (by omega) (by omega) (by omega) (by omega) (by omega) (by omega) (by omega) (by assumption) (by assumption) (by assumption)).mono ?_; rintro e w9 ⟨rfl, hb9⟩; have hk9 := carry5 hb9 (by assumption); obtain ⟨_, _, _, _, _, _, _, _⟩ := id hk9)
        | (go_simp; go_at_call 54; refine (netBetweenUp _ _ _ _ _ (by omega) (by omega) (by omega) (by omega) (by omega)).mono ?_; rintro e w9 ⟨rfl, hb9⟩; have hk9 := carry5 hb9 (by assumption); obtain ⟨_, _, _, _, _, _, _, _⟩ := id hk9; rw [show l[k].x + l[k].s + dx - (l[k].x + dx) = l[k].s from by omega])
        | (refine step_append_lies _ rfl (.tmp 17) (.tmp 27) 29 rfl w.heap.size 52 ib (.agg #[.int .i64 0, .int .i64 0, .int .i64 0]) 3 24 Tryz.underlying29 HIB.out HB0.out HB1.out HB2.out rfl (by decide) u5 k (bcellsL ((l.take k).map (Ck.Bar.shift dx dy))) (by simp [Act.eval]) (by exact (ownsRow_below hown.out (K5.below (by assumption))).alloc _) _ 1 1 [.int .i64 (l[k].x + dx), .int .i64 (l[k].y + dy), .int .i64 l[k].s] (by first | (simp [Act.eval]; done) | (simp [Act.eval]; rfl)) rfl (by exact three_new _ _ _ _ _) (by intro u hu; simp at hu; rcases hu with rfl | rfl | rfl <;> rfl) (by decide) (by unfold maxLen; omega) (by omega) (by simp; omega) _ rfl ?_; intro gx cap w10 hown10 hgrow10 _ _))
      all_goals
        have hrow := mov_row (dx := dx) (dy := dy) hlt hown10
        have hbel := hb.trans (mov_below (K5.below (by assumption)) hgrow10 (ownsRow_base hown.out) hbz)
        clear hgrow10 hown10
        go_wp2
        go_roundw
        case rel => exact ⟨k + 1, by omega, by go_num, hrow, hbel⟩
        case measure => simp [intOf]; omega
    · obtain rfl : k = l.length := by omega
      have hrow := hown.out
      rw [List.take_length] at hrow
      have hlm : (l.map (Ck.Bar.shift dx dy)).length = l.length := List.length_map ..
      rw [← hlm] at hrow
      have hbz := hb.size
      go_wp2_with fail
      refine (netSortBars w.heap.size _ (l.map (Ck.Bar.shift dx dy)) _ (by omega) hbz hrow).mono ?_
      rintro e w2 ⟨rfl, hrow2, hb2⟩
      rw [hlm] at hrow2
      have HO := Lib.hid hrow2
      clear hrow hrow2
      go_wp2
      go_ret
      exact ⟨_, rfl, HO.out, hb.trans hb2⟩
end Go.Proofs.YthihjphcjjpjpaaGreat

/- Mirror of netting: moved by the mirror, and a net whose mirror keeps its order. -/
namespace Go.Proofs.YthihjphcjjpjpaaGreat
open Go.RowKit

set_option maxHeartbeats 1000000 in
set_option maxRecDepth 100000 in
theorem netMirrored (x y : Int) (w : World) (h1 : -1000000 ≤ x) (h2 : x ≤ 1000000) :
    Calls Tryz.prog 27 #[.agg #[.int .i64 x, .int .i64 y]] w fun e w' => e = .returned (.agg #[.int .i64 (-x), .int .i64 y]) ∧ Below w.heap.size w w' := by
  go_enter Tryz.func27, Tryz.ntmps27
  go_wp2
  exact bodyPost_ret (v := .agg #[.int .i64 (-x), .int .i64 y]) (by simp [results, Tryz.results27, go_sem]) rfl ⟨rfl, ((Below.refl _ _).alloc (Nat.le_refl _) _).alloc (by simp) _⟩
theorem mir_row {w10 : World} {base : Nat} {v : Value} {l : List Ck.Bar} {k : Nat} (hlt : k < l.length) (h : w10.ownsRow base 52 3 v (k + 1) (bcellsL ((l.take k).map (mirB)) ++ [.int .i64 (-l[k].x), .int .i64 l[k].y, .int .i64 (-l[k].s)])) :
    Hid (w10.ownsRow base 52 3 v (k + 1) (bcellsL ((l.take (k + 1)).map (mirB)))) := by
  rw [List.take_succ_eq_append_getElem hlt, List.map_append, bcellsL, List.flatMap_append, ← bcellsL]
  exact h
def MirPost (l : List Ck.Bar) (w : World) (e : Ending) (w' : World) : Prop :=
  ∃ v, e = .returned v ∧ w'.ownsRow w.heap.size 52 3 v l.length (bcellsL (sortBars (l.map (mirB)))) ∧ Below w.heap.size w w'

set_option maxHeartbeats 4000000 in
set_option maxRecDepth 100000 in
theorem netMovedM (A : Option Addr) (c : Nat) (l : List Ck.Bar) (w : World) (hl : l.length ≤ 4096) (hok : ∀ x ∈ l, Ck.okBar x) (h : RB w w.heap.size A l) :
    Calls Tryz.prog 26 #[.slice A l.length c, .func (.func 27) #[] #[]] w (MirPost l w) := by
  obtain ⟨ib, hib, hb0, hb01, hb02⟩ := info_parts Tryz.info52
  have hmk : ∀ W : World, (Instr.makeSlice 29 (.int .i64 0) (.int .i64 (l.length : Int))).run Tryz.prog W = .ok (.slice (some ⟨W.heap.size, 0, none⟩) 0 l.length) (W.alloc (.cells (zeros3 l.length) 52)) := fun W => by
    have := run_make (P := Tryz.prog) W 29 52 ib _ Tryz.underlying29 hib hb0 .i64 .i64 0 (l.length : Int) (by omega) (by omega) (by rw [hb02]; omega) (by omega)
    rw [hb01, Int.toNat_natCast] at this
    exact this
  have HIB := Lib.hid hib
  have HB0 := Lib.hid hb0
  have HB1 := Lib.hid hb01
  have HB2 := Lib.hid hb02
  have HR := Lib.hid h
  have hl' : (l.length : Int) ≤ 4096 := by omega
  clear hib hb0 hb01 hb02 h
  go_enter Tryz.func26, Tryz.ntmps26
  go_wp2_with fail
  go_loopw [5, 7, 13] (fun v _ i wi => ∃ k : Nat, k ≤ l.length ∧ i = .int .i64 k ∧ Hid (wi.ownsRow w.heap.size 52 3 v k (bcellsL ((l.take k).map (mirB)))) ∧ Below w.heap.size w wi) (fun _ _ i _ => l.length - (intOf i).toNat)
  case atStart => exact ⟨0, Nat.zero_le _, rfl, made_row _ _ _ (Nat.le_refl _) hl _ (by rw [zeros3, size_madeCells]) _, (Below.refl _ _).alloc (Nat.le_refl _) _⟩
  case round =>
    obtain ⟨k, hk, rfl, hown, hb⟩ := hrel
    by_cases hlt : k < l.length
    · obtain ⟨b, off, rfl, hB, hc⟩ := HR.out.below hb (by omega)
      obtain ⟨d0, d1, d2⟩ := hc k hlt
      have hbz := hb.size
      obtain ⟨⟨⟨hx1, hx2⟩, ⟨hy1, hy2⟩, _⟩, hs, _⟩ := hok _ (List.getElem_mem hlt)
      replace hx1 : -100000 ≤ l[k].x := hx1
      replace hx2 : l[k].x ≤ 100000 := hx2
      replace hy1 : -100000 ≤ l[k].y := hy1
      replace hy2 : l[k].y ≤ 100000 := hy2
      have hs1 : -1 ≤ l[k].s := by omega
      have hs2 : l[k].s ≤ 1 := by omega
      clear hc hs
      go_wp2_with fail
      obtain ⟨w1, hw1, e0, e1, e2, hb1, hz1⟩ := box3 wr (.int .i64 l[k].x) (.int .i64 l[k].y) (.int .i64 l[k].s) 52
      rw [← hw1]
      clear hw1 d0 d1 d2
      have hk0 : K5 wr wr.heap.size wr.heap.size (.int .i64 l[k].x) (.int .i64 l[k].y) (.int .i64 l[k].s) (.int .i64 l[k].x) (.int .i64 l[k].y) w1.drew := ⟨e0, e1, e2, e0, e1, hz1, hz1, below_drew hb1⟩
      go_region_law (first
        | (go_simp; go_at_call 52; refine (netLower _ _ _ _).mono ?_; rintro e w9 ⟨rfl, hb9⟩; have hk9 := carry5 hb9 (by assumption); obtain ⟨_, _, _, _, _, _, _, _⟩ := id hk9)
        | (go_simp; go_at_call 55; refine (netUpper _ _ _ _ hx1 hx2 hy1 hy2 hs1 hs2).mono ?_; rintro e w9 ⟨rfl, hb9⟩; have hk9 := carry5 hb9 (by assumption); obtain ⟨_, _, _, _, _, _, _, _⟩ := id hk9)
        | (go_simp; go_at_call 27; refine (netMirrored _ _ _ (by omega) (by omega)).mono ?_; rintro e w9 ⟨rfl, hb9⟩; have hk9 := carry5 hb9 (by assumption); obtain ⟨_, _, _, _, _, _, _, _⟩ := id hk9)
        | (go_simp; go_at_call 54; refine (netBetweenUp _ _ _ _ _ (by omega) (by omega) (by omega) (by omega) (by omega)).mono ?_; rintro e w9 ⟨rfl, hb9⟩; have hk9 := carry5 hb9 (by assumption); obtain ⟨_, _, _, _, _, _, _, _⟩ := id hk9; rw [show -(l[k].x + l[k].s) - -l[k].x = -l[k].s from by omega])
        | (refine step_append_lies _ rfl (.tmp 17) (.tmp 27) 29 rfl w.heap.size 52 ib (.agg #[.int .i64 0, .int .i64 0, .int .i64 0]) 3 24 Tryz.underlying29 HIB.out HB0.out HB1.out HB2.out rfl (by decide) u5 k (bcellsL ((l.take k).map (mirB))) (by simp [Act.eval]) (by exact (ownsRow_below hown.out (K5.below (by assumption))).alloc _) _ 1 1 [.int .i64 (-l[k].x), .int .i64 l[k].y, .int .i64 (-l[k].s)] (by first | (simp [Act.eval]; done) | (simp [Act.eval]; rfl)) rfl (by exact three_new _ _ _ _ _) (by intro u hu; simp at hu; rcases hu with rfl | rfl | rfl <;> rfl) (by decide) (by unfold maxLen; omega) (by omega) (by simp; omega) _ rfl ?_; intro gx cap w10 hown10 hgrow10 _ _))
      all_goals
        have hrow := mir_row hlt hown10
        have hbel := hb.trans (mov_below (K5.below (by assumption)) hgrow10 (ownsRow_base hown.out) hbz)
        clear hgrow10 hown10
        go_wp2
        go_roundw
        case rel => exact ⟨k + 1, by omega, by go_num, hrow, hbel⟩
        case measure => simp [intOf]; omega
    · obtain rfl : k = l.length := by omega
      have hrow := hown.out
      rw [List.take_length] at hrow
      have hlm : (l.map (mirB)).length = l.length := List.length_map ..
      rw [← hlm] at hrow
      have hbz := hb.size
      go_wp2_with fail
      refine (netSortBars w.heap.size _ (l.map (mirB)) _ (by omega) hbz hrow).mono ?_
      rintro e w2 ⟨rfl, hrow2, hb2⟩
      rw [hlm] at hrow2
      have HO := Lib.hid hrow2
      clear hrow hrow2
      go_wp2
      go_ret
      exact ⟨_, rfl, HO.out, hb.trans hb2⟩

set_option maxHeartbeats 1000000 in
set_option maxRecDepth 100000 in
/-- Mirror, where the mirrored bars stand in order. -/
theorem netMirrorUp (A : Option Addr) (c : Nat) (l : List Ck.Bar) (w : World) (hl : l.length ≤ 4096) (hcap : l.length ≤ c) (hcm : c ≤ maxLen) (hN : Ck.Net l) (hM : (l.map mirB).Pairwise Ck.Blt) (h : RB w w.heap.size A l) :
    Calls Tryz.prog 11 #[.slice A l.length c] w fun e w' => ∃ v, e = .returned (.tuple #[v, .int .i64 0]) ∧ w'.ownsRow w.heap.size 52 3 v (l.map mirB).length (bcellsL (l.map mirB)) ∧ Below w.heap.size w w' := by
  have HE := Lib.hid ((netE_zero l).2 ⟨hl, hN⟩)
  have HR := Lib.hid h
  have HN := Lib.hid hN
  have HS := Lib.hid (sortBars_net hM)
  have HL := Lib.hid (show (l.map mirB).length = l.length from List.length_map ..)
  clear h hN hM
  go_enter Tryz.func11, Tryz.ntmps11
  go_wp2_with fail
  refine (netCheckNet A c l _ hl hcap hcm HR.out).mono ?_
  rintro e w1 ⟨rfl, hb1⟩
  rw [HE.out]
  go_wp2_with fail
  refine (netMovedM A c l _ hl HN.out.1 ((HR.out.below hb1).more hb1.size)).mono ?_
  rintro e w2 ⟨v, rfl, hrow, hb2⟩
  have hrow' := ownsRow_mono hrow hb1.size
  rw [HS.out, ← HL.out] at hrow'
  have HO := Lib.hid hrow'
  clear hrow hrow'
  go_wp2
  go_ret2
  exact ⟨v, rfl, HO.out, hb1.trans (hb2.mono hb1.size)⟩
end Go.Proofs.YthihjphcjjpjpaaGreat

/- Contracts of shiftedBy and Shift, where the shifted bars are a net. -/
namespace Go.Proofs.YthihjphcjjpjpaaGreat
open Go.RowKit

set_option maxHeartbeats 1000000 in
theorem netShiftedBy (A : Option Addr) (c : Nat) (l : List Ck.Bar) (dx dy : Int) (w : World) (hl : l.length ≤ 4096) (hok : ∀ x ∈ l, Ck.okBar x) (h : RB w w.heap.size A l) (k1 : -500000 ≤ dx) (k2 : dx ≤ 500000) (k3 : -500000 ≤ dy) (k4 : dy ≤ 500000) :
    Calls Tryz.prog 31 #[.slice A l.length c, .agg #[.int .i64 dx, .int .i64 dy]] w (MovPost l dx dy w) := by
  obtain ⟨w1, hw1, e0, e1, hb1, hz1⟩ := box2 w (.int .i64 dx) (.int .i64 dy) 71
  have HR := Lib.hid h
  have HO := Lib.hid hok
  have HW := Lib.hid hw1
  clear h hok hw1
  go_enter Tryz.func31, Tryz.ntmps31
  go_wp2_with fail
  rw [← HW.out]
  refine (netMoved A c w.heap.size l dx dy w1 hl HO.out ((HR.out.below hb1).more hb1.size) k1 k2 k3 k4 hz1 e0 e1).mono ?_
  rintro e w2 ⟨v, rfl, hrow, hb2⟩
  have HV := Lib.hid (ownsRow_mono hrow hb1.size)
  clear hrow
  go_wp2
  go_ret
  exact ⟨v, rfl, HV.out, hb1.trans (hb2.mono hb1.size)⟩

theorem keepS {W w1 w2 : World} {g : Nat} {x y : Value} (h : w1.cell? ⟨g, 0, none⟩ = some x ∧ w1.cell? ⟨g, 1, none⟩ = some y ∧ Below g W w1 ∧ g < w1.heap.size) (hb : Below w1.heap.size w1 w2) :
    w2.cell? ⟨g, 0, none⟩ = some x ∧ w2.cell? ⟨g, 1, none⟩ = some y ∧ Below g W w2 ∧ g < w2.heap.size := by
  obtain ⟨h0, h1, h3, h4⟩ := h
  exact ⟨(hb.cell (p := ⟨g, 0, none⟩) h4).trans h0, (hb.cell (p := ⟨g, 1, none⟩) h4).trans h1, h3.trans (hb.mono (by omega)), by have := hb.size; omega⟩
theorem sId {W w : World} {g : Nat} {x y : Value} (h : w.cell? ⟨g, 0, none⟩ = some x ∧ w.cell? ⟨g, 1, none⟩ = some y ∧ Below g W w ∧ g < w.heap.size) : w.cell? ⟨g, 0, none⟩ = some x ∧ w.cell? ⟨g, 1, none⟩ = some y ∧ Below g W w ∧ g < w.heap.size := h
theorem checkS {W w : World} {g : Nat} {x y : Value} (A : Option Addr) (c : Nat) (l : List Ck.Bar) (hl : l.length ≤ 4096) (hcap : l.length ≤ c) (hcm : c ≤ maxLen) (HR : Hid (RB W W.heap.size A l)) (hg : W.heap.size ≤ g) (HE : Hid (netE l = 0))
    (h : w.cell? ⟨g, 0, none⟩ = some x ∧ w.cell? ⟨g, 1, none⟩ = some y ∧ Below g W w ∧ g < w.heap.size) : Calls Tryz.prog 22 #[.slice A l.length c] w fun e w' => e = .returned (.int .i64 0) ∧ Below w.heap.size w w' :=
  (netCheckNet A c l w hl hcap hcm ((HR.out.below (h.2.2.1.mono hg)).more (by have := h.2.2.1.size; have := h.2.2.2; omega))).mono fun e w' ⟨he, hb⟩ => ⟨by rw [he, HE.out], hb⟩

set_option maxHeartbeats 2000000 in
set_option maxRecDepth 100000 in
theorem netShiftG (A : Option Addr) (c : Nat) (l : List Ck.Bar) (w : World) (hl : l.length ≤ 4096) (hcap : l.length ≤ c) (hcm : c ≤ maxLen) (dx dy : Int) (hN : Ck.Net l) (hF : Ck.Net (l.map (Ck.Bar.shift dx dy))) (hK : knotE dx dy = 0) (k1 : -500000 ≤ dx) (k2 : dx ≤ 500000) (k3 : -500000 ≤ dy) (k4 : dy ≤ 500000) (h : RB w w.heap.size A l) :
    Calls Tryz.prog 12 #[.slice A l.length c, .agg #[.int .i64 dx, .int .i64 dy]] w fun e w' => ∃ v, e = .returned (.tuple #[v, .int .i64 0]) ∧ w'.ownsRow w.heap.size 52 3 v (l.map (Ck.Bar.shift dx dy)).length (bcellsL (l.map (Ck.Bar.shift dx dy))) ∧ Below w.heap.size w w' := by
  obtain ⟨w1, hw1, e0, e1, hb1, hz1⟩ := box2 w (.int .i64 dx) (.int .i64 dy) 23
  have HR := Lib.hid h
  have HN := Lib.hid hN
  have HF := Lib.hid hF
  have HE := Lib.hid ((netE_zero l).2 ⟨hl, hN⟩)
  have HK := Lib.hid hK
  have HS := Lib.hid (sortBars_net hF.2)
  have HL := Lib.hid (show (l.map (Ck.Bar.shift dx dy)).length = l.length from List.length_map ..)
  have HW := Lib.hid hw1
  clear h hN hF hK hw1
  go_enter Tryz.func12, Tryz.ntmps12
  go_wp2_with fail
  rw [← HW.out]
  go_region_held3 (fun w' => w'.cell? ⟨w.heap.size, 0, none⟩ = some (.int .i64 dx) ∧ w'.cell? ⟨w.heap.size, 1, none⟩ = some (.int .i64 dy) ∧ Below w.heap.size w w' ∧ w.heap.size < w'.heap.size)
    (first | exact ⟨e0, e1, below_drew hb1, hz1⟩ | exact keepS (by assumption) (by assumption) | exact keepS (by assumption) ((Below.refl _ _).alloc (Nat.le_refl _) _) | assumption | go_keep)
    (first
      | (go_at_call 22; refine (checkS A c l hl hcap hcm HR (Nat.le_refl _) HE (by assumption)).mono ?_; rintro e w' ⟨rfl, hbq⟩)
      | (go_at_call 29; refine (netCheckKnot _ _ _).mono ?_; rintro e w' ⟨rfl, hbq⟩; rw [HK.out])
      | (go_at_call 28; refine (netFirst2 _ _ 0 0 30 _ (by exact heap_alloc_new _ _)).mono ?_; rintro e w' ⟨rfl, rfl⟩; rw [show firstE [0, 0] = 0 from rfl]))
  obtain ⟨c0, c1, hbW, hzW⟩ := sId (by assumption)
  go_wp2_with fail
  refine (netShiftedBy A c l dx dy _ hl HN.out.1 ((HR.out.below hbW).more hbW.size) k1 k2 k3 k4).mono ?_
  rintro e w3 ⟨v, rfl, hrow, hb3⟩
  have hrow' := ownsRow_mono hrow hbW.size
  have hbT := hbW.trans (hb3.mono hbW.size)
  rw [HS.out] at hrow'
  obtain ⟨a, cv, rfl, hcv, hcm2⟩ := own_slice hrow'
  have hrow2 := hrow'
  rw [← HL.out] at hrow2 hcv
  have HO := Lib.hid hrow2
  have hRB := RB.of_own hrow2
  have HRB := Lib.hid hRB
  have hlen : (l.map (Ck.Bar.shift dx dy)).length ≤ 4096 := by rw [HL.out]; exact hl
  have HLen := Lib.hid hlen
  clear hrow hrow' hrow2 hRB hlen
  go_wp2_with fail
  rw [← HL.out]
  refine (netWithin a cv (l.map (Ck.Bar.shift dx dy)) _ HLen.out hcv hcm2 HF.out HRB.out).mono ?_
  rintro e w4 ⟨rfl, hb4⟩
  go_wp2
  go_ret2
  refine ⟨_, rfl, ?_, hbT.trans (hb4.mono hbT.size)⟩
  have hfin := ownsRow_below HO.out (hb4.mono (Nat.le_refl _))
  simp only [List.length_map] at hfin ⊢
  exact hfin
end Go.Proofs.YthihjphcjjpjpaaGreat

/- Mirror and Shift at the net along an edge. -/
namespace Go.Proofs.YthihjphcjjpjpaaGreat
open Go.RowKit Go.Shelf Ck

theorem mirrorS (A : Option Addr) (c : Nat) (l : List Bar) (w : World) (hl : l.length ≤ 100) (hN : Net l) (hM : Net (l.map mirB)) (h : OKS w A c l) :
    Calls Tryz.prog 11 #[.slice A l.length c] w (PairPost (l.map mirB) w) :=
  (netMirrorUp A c l w (by omega) h.1 h.2.1 hN hM.2 h.2.2.2).mono fun e w' ⟨v, he, hrow, hb⟩ => by
    obtain ⟨a, c', rfl, hok⟩ := own_oks hrow
    exact ⟨a, c', he, hok, hb⟩
theorem shiftS (A : Option Addr) (c : Nat) (l : List Bar) (d : Int) (w : World) (hl : l.length ≤ 100) (hN : Net l) (hF : Net (l.map (Bar.shift d 0))) (d1 : -256 ≤ d) (d2 : d ≤ 256) (d3 : d % 2 = 0) (h : OKS w A c l) :
    Calls Tryz.prog 12 #[.slice A l.length c, .agg #[.int .i64 d, .int .i64 0]] w (PairPost (l.map (Bar.shift d 0)) w) :=
  (netShiftG A c l w (by omega) h.1 h.2.1 d 0 hN hF ((knotE_ok d 0).2 ⟨⟨by simp; omega, by simp; omega⟩, ⟨by simp, by simp⟩, by simp; omega⟩) (by omega) (by omega) (by omega) (by omega) h.2.2.2).mono fun e w' ⟨v, he, hrow, hb⟩ => by
    obtain ⟨a, c', rfl, hok⟩ := own_oks hrow
    exact ⟨a, c', he, hok, hb⟩
end Go.Proofs.YthihjphcjjpjpaaGreat

/- The walk of TopOtterBars. -/
namespace Go.Proofs.YthihjphcjjpjpaaGreat
open Go.RowKit Go.Shelf Ck

def YesB (w : World) (e : Ending) (w' : World) : Prop := e = .returned (.bool true) ∧ Below w.heap.size w w'
theorem ed_boxesB (w : World) (x y n : Int) (s : ByteArray) : ∃ w1, w1 = (w.alloc (.cells #[.int .i64 x, .int .i64 y] 23)).alloc (.cells #[.string s, .int .i64 n] 25) ∧ Below w.heap.size w w1 ∧ w1.heap[w.heap.size]? = some (.cells #[.int .i64 x, .int .i64 y] 23 (0, 0)) ∧ w1.heap[w.heap.size + 1]? = some (.cells #[.string s, .int .i64 n] 25 (0, 0)) := by
  refine ⟨_, rfl, ((Below.refl _ _).alloc (Nat.le_refl _) _).alloc (by simp) _, ?_, ?_⟩
  · rw [Below.heap_alloc _ _ _ (by simp)]
    exact heap_alloc_new _ _
  · have := heap_alloc_new (w.alloc (.cells #[.int .i64 x, .int .i64 y] 23)) (.cells #[.string s, .int .i64 n] 25)
    rwa [World.size_alloc] at this
def TwoB (B : Nat) (x y n : Int) (s : ByteArray) (w : World) : Prop := w.heap[B]? = some (.cells #[.int .i64 x, .int .i64 y] 23 (0, 0)) ∧ w.heap[B + 1]? = some (.cells #[.string s, .int .i64 n] 25 (0, 0))
theorem TwoB.below {B : Nat} {x y n : Int} {s : ByteArray} {w w' : World} (h : TwoB B x y n s w) (hb : Below w.heap.size w w') : TwoB B x y n s w' :=
  ⟨(hb.block _ (Array.getElem?_eq_some_iff.1 h.1).1).trans h.1, (hb.block _ (Array.getElem?_eq_some_iff.1 h.2).1).trans h.2⟩

theorem refSameNetN (A A' : Option Addr) (c c' : Nat) (l : List Bar) (n n' : Nat) (w : World) (hn : n = l.length) (hn' : n' = l.length) (hl : l.length ≤ 4096) (h : RB w w.heap.size A l) (h' : RB w w.heap.size A' l) :
    Calls Tryz.prog 13 #[.slice A n c, .slice A' n' c'] w fun e w' => e = .returned (.bool true) ∧ Below w.heap.size w w' := by
  subst hn hn'
  exact refSameNet A A' c c' l w hl h h'
set_option maxHeartbeats 8000000 in
set_option maxRecDepth 100000 in
theorem otterBars (x y n by' : Int) (s : ByteArray) (w : World) (hb0 : -128 ≤ by') (hb1 : by' ≤ 127) :
    Calls Tryz.prog 3 #[.agg #[.int .i64 x, .int .i64 y], .agg #[.string s, .int .i64 n], .int .i8 by'] w (YesB w) := by
  have ex0 : ∀ (a b : Value) (w : World), (Instr.extract (.tuple #[a, b]) 0).run Tryz.prog w = .ok a w := fun _ _ _ => by kernel_rfl
  have ex1 : ∀ (a b : Value) (w : World), (Instr.extract (.tuple #[a, b]) 1).run Tryz.prog w = .ok b w := fun _ _ _ => by kernel_rfl
  obtain ⟨w1, hw1, hb1', ex, er⟩ := ed_boxesB w x y n s
  have HW1 := Lib.hid hw1
  clear hw1
  obtain ⟨e0, e1, -, -⟩ := two_cell ex
  obtain ⟨e2, e3, -, -⟩ := two_cell er
  go_enter Tryz.func3, Tryz.ntmps3
  go_wp2_with fail
  rw [← HW1.out]
  refine (otterShort x y s n _).mono ?_
  rintro e w2 ⟨b, rfl, hsh, hb2⟩
  have p2 := hb1'.trans (hb2.mono hb1'.size)
  cases b
  · clear hsh e0 e1 e2 e3 ex er
    go_wp2_with fail
    refine (otterEdge _).mono ?_
    rintro e w3 ⟨rfl, hb3⟩
    go_wp2
    go_ret
    exact ⟨rfl, p2.trans (hb3.mono p2.size)⟩
  have hS := hsh rfl
  obtain ⟨d, hd⟩ : ∃ d, 2 * by' = d := ⟨_, rfl⟩
  have hd1 : -256 ≤ d ∧ d ≤ 256 ∧ d % 2 = 0 := by omega
  obtain ⟨c, L, l, rfl, hF⟩ := of_all hS hd1
  have HF := Lib.hid hF
  have P2 := Lib.hid (TwoB.below ⟨ex, er⟩ hb2)
  have x1 : -1000 ≤ x := hS.2.2.2.2.2.1
  have x2 : x ≤ 1000 := hS.2.2.2.2.2.2.1
  have y1 : -1000 ≤ y := hS.2.2.2.2.2.2.2.1
  have y2 : y ≤ 1000 := hS.2.2.2.2.2.2.2.2
  have HS6 := Lib.hid (show s.size ≤ 6 ∧ c ≤ 4 from ⟨hS.1, by have := hS.2.2.2.1; omega⟩)
  have hll : l.length ≤ 24 := by have h1 := hF.num; have h2 := barsN_le L; have h3 := hF.len; omega
  have hcv : IntKind.i64.wrap by' = by' := by rw [IntKind.wrap_i64]; omega
  have HD := Lib.hid hd
  clear hsh hS hF e0 e1 e2 e3 ex er hb2
  obtain ⟨a0, a1, -, -⟩ := two_cell P2.out.1
  obtain ⟨a2, a3, -, -⟩ := two_cell P2.out.2
  go_wp2_with fail
  refine (barsSE x y s c true L l _ HF.out.rep HF.out.bars HF.out.e1).mono ?_
  rintro e w3 ⟨aL, cL, rfl, hk3, hb3⟩
  have P3 := Lib.hid (P2.out.below hb3)
  have p3 := p2.trans (hb3.mono p2.size)
  have KL3 := Lib.hid hk3
  clear hk3 hb3 a0 a1 a2 a3 p2
  obtain ⟨a0, a1, -, -⟩ := two_cell P3.out.1
  obtain ⟨a2, a3, -, -⟩ := two_cell P3.out.2
  go_wp2_with fail
  refine (barsSE (-x) y s c false L _ _ HF.out.rep HF.out.mir HF.out.e2).mono ?_
  rintro e w4 ⟨aM, cM, rfl, hk4, hb4⟩
  have P4 := Lib.hid (P3.out.below hb4)
  have p4 := p3.trans (hb4.mono p3.size)
  have KL4 := Lib.hid (KL3.out.below hb4)
  have KM4 := Lib.hid hk4
  clear hk4 hb4 a0 a1 a2 a3 p3
  obtain ⟨a0, a1, -, -⟩ := two_cell P4.out.1
  obtain ⟨a2, a3, -, -⟩ := two_cell P4.out.2
  have hd' := HD.out
  go_wp2_with fail
  clear hd'
  refine (barsSE (x + d) y s c true L _ _ HF.out.rep HF.out.shi HF.out.e3).mono ?_
  rintro e w5 ⟨aS, cS, rfl, hk5, hb5⟩
  have P5 := Lib.hid (P4.out.below hb5)
  have p5 := p4.trans (hb5.mono p4.size)
  have KL5 := Lib.hid (KL4.out.below hb5)
  have KM5 := Lib.hid (KM4.out.below hb5)
  have KS5 := Lib.hid hk5
  clear hk5 hb5 a0 a1 a2 a3 p4
  go_wp2_with fail
  refine (refCheckNet aL cL l _ (by omega) KL5.out.2.2.2).mono ?_
  rintro e w6 ⟨rfl, hb6⟩
  rw [(netE_zero l).2 ⟨by omega, HF.out.net⟩]
  have P6 := Lib.hid (P5.out.below hb6)
  have p6 := p5.trans (hb6.mono p5.size)
  have KL6 := Lib.hid (KL5.out.below hb6)
  have KM6 := Lib.hid (KM5.out.below hb6)
  have KS6 := Lib.hid (KS5.out.below hb6)
  clear hb6 p5
  obtain ⟨a2, a3, -, -⟩ := two_cell P6.out.2
  go_wp2_with fail
  refine (refPower s c _ (by have := HS6.out.2; omega) (by have := HS6.out.1; omega)).mono ?_
  rintro e w7 ⟨rfl, rfl⟩
  rw [HF.out.rep]
  clear a2 a3
  have hSz := strL_size L
  have hSd := strL_data L
  obtain ⟨S, hS⟩ : ∃ S, strL L = S := ⟨_, rfl⟩
  rw [hS] at hSz hSd ⊢
  have HSZ := Lib.hid hSz
  have HSD := Lib.hid hSd
  have hs24 : (S.size : Int) ≤ 24 := by have := HF.out.len; omega
  have hL24 := HF.out.len
  clear hS hSz hSd
  go_wp2_with fail
  go_loop [14, 15, 16, 92] (fun rv bv _ i => ∃ k : Nat, k ≤ S.size ∧ i = .int .i64 k ∧ rv = .int .i64 (startsR 0 (L.take k) : Nat) ∧ bv = .int .i64 (barsN (L.take k) : Nat)) (fun _ _ _ i => S.size - (intOf i).toNat)
  case atStart => exact ⟨0, Nat.zero_le _, rfl, rfl, rfl⟩
  case round =>
    obtain ⟨k, hk, rfl, rfl, rfl⟩ := hrel
    have hsl := starts_le (L.take k) 0
    have hbl := barsN_le (L.take k)
    rw [List.length_take] at hsl hbl
    by_cases hlt : k < S.size
    · have hkL : k < L.length := by rw [← HSZ.out]; exact hlt
      have hkl : k < S.data.toList.length := by rw [HSD.out]; exact hkL
      have hel : S[k] = L[k] := by rw [← byte_at S k hlt hkl]; simp only [HSD.out]
      have HST := Lib.hid (starts_take L 0 k hkL)
      have HBT := Lib.hid (bars_take L k hkL)
      have hk0 : (0 : Int) ≤ (k : Int) := by omega
      have hk1 : (k : Int) < (S.size : Int) := by omega
      generalize startsR 0 (L.take k) = sr at *
      generalize barsN (L.take k) = br at *
      by_cases h66 : L[k] = 66
      · have hc66 : S[k].toNat = 66 := by rw [hel, h66]; rfl
        have hBe := Lib.hid (show barsN (L.take (k + 1)) = br + 1 by rw [HBT.out, if_pos h66])
        clear HBT
        by_cases hz : k = 0
        · subst hz
          have hSe := Lib.hid (show startsR 0 (L.take (0 + 1)) = sr + 1 by rw [HST.out, if_pos ⟨h66, by rw [if_pos rfl]; decide⟩])
          clear HST h66 hel
          go_wp2
          go_round
          case rel => exact ⟨0 + 1, by omega, by go_num, by rw [hSe.out]; go_num, by rw [hBe.out]; go_num⟩
          case measure => simp [intOf]; omega
        · obtain ⟨j, hj⟩ : ∃ j, k = j + 1 := ⟨k - 1, by omega⟩
          subst hj
          have hjL : j < L.length := by omega
          have hjS : j < S.size := by omega
          have hjl : j < S.data.toList.length := by rw [HSD.out]; exact hjL
          have hel1 : S[j] = L[j] := by rw [← byte_at S j hjS hjl]; simp only [HSD.out]
          have hif : (if j + 1 = 0 then (0 : UInt8) else L.getD (j + 1 - 1) 0) = L[j] := by
            rw [if_neg (by omega)]
            simp [hjL]
          have hj0 : (0 : Int) ≤ (j : Int) := by omega
          have hkz : ¬ (j : Int) + 1 = 0 := by omega
          have hj1 : (j : Int) < (S.size : Int) := by omega
          by_cases h2 : L[j] = 66
          · have hSe := Lib.hid (show startsR 0 (L.take (j + 1 + 1)) = sr by rw [HST.out, hif, if_neg (fun h => h.2 h2)]; rfl)
            have hj66 : S[j].toNat = 66 := by rw [hel1, h2]; rfl
            clear HST h66 hel hel1 hif h2 hz
            go_wp2
            go_round
            case rel => exact ⟨j + 1 + 1, by omega, by go_num, by rw [hSe.out], by rw [hBe.out]; go_num⟩
            case measure => simp [intOf]; omega
          · have hSe := Lib.hid (show startsR 0 (L.take (j + 1 + 1)) = sr + 1 by rw [HST.out, hif, if_pos ⟨h66, h2⟩])
            have hj66 : ¬ S[j].toNat = 66 := fun e => h2 (by rw [← hel1]; exact UInt8.toNat.inj (by rw [e]; rfl))
            have hjB : ((S[j].toNat : Int) != 66) = true := by rw [bne_iff_ne]; omega
            clear HST h66 hel hel1 hif h2 hz hj66
            go_wp2
            go_round
            case rel => exact ⟨j + 1 + 1, by omega, by go_num, by rw [hSe.out]; go_num, by rw [hBe.out]; go_num⟩
            case measure => simp [intOf]; omega
      · have hc66 : ¬ S[k].toNat = 66 := fun e => h66 (by rw [← hel]; exact UInt8.toNat.inj (by rw [e]; rfl))
        have hBe := Lib.hid (show barsN (L.take (k + 1)) = br by rw [HBT.out, if_neg h66]; rfl)
        have hSe := Lib.hid (show startsR 0 (L.take (k + 1)) = sr by rw [HST.out, if_neg (fun h => h66 h.1)]; rfl)
        clear HBT HST h66 hel
        go_wp2
        go_round
        case rel => exact ⟨k + 1, by omega, by go_num, by rw [hSe.out], by rw [hBe.out]⟩
        case measure => simp [intOf]; omega
    · obtain rfl : k = S.size := by omega
      have HT := Lib.hid (show L.take S.size = L by rw [HSZ.out, List.take_length])
      rw [HT.out, starts_all]
      rw [HT.out] at hsl hbl
      have hsl' := ends_le L
      clear hsl
      have hnum := HF.out.num
      obtain ⟨R, hR⟩ : ∃ R, endsR L = R := ⟨_, rfl⟩
      have HPA := Lib.hid (show PartsIs l R by rw [← hR]; exact HF.out.parts)
      have HKN := Lib.hid (show nK l = l.length + R by rw [← hR, hnum]; exact HF.out.knots)
      have HEG := Lib.hid (show ∀ K : List Knot, K = (degsL (ends l)).map (·.1) → K.Nodup → (∀ x, x ∈ K ↔ x ∈ ends l) → legN l 0 = 0 ∧ legN l 1 = 2 * R ∧ legN l 2 + R = l.length ∧ legN l 3 = 0 ∧ legN l 4 = 0 by
        rw [← hR, hnum]
        exact fun K a b c => HF.out.legs a b c)
      have hRN : R ≤ l.length := by rw [← hR, hnum]; exact hsl'
      rw [hR, ← hnum]
      clear hnum hR hsl' hbl hlt hk
      go_wp2_with fail
      refine (netCount aL cL l _ (by omega) KL6.out.1 KL6.out.2.1 HF.out.net KL6.out.2.2.2).mono ?_
      rintro e w7 ⟨p, hpp, rfl, hb7⟩
      obtain rfl : p = R := hpp.det HPA.out
      rw [HKN.out, HF.out.mesh, show (l.length : Int) - ((l.length + p : Nat) : Int) + (p : Int) - ((0 : Nat) : Int) = 0 from by omega, show ((l.length + p : Nat) : Int) = (l.length : Int) + (p : Int) from by omega, show ((0 : Nat) : Int) = 0 from rfl]
      have p7 := p6.trans (hb7.mono p6.size)
      have KL7 := Lib.hid (KL6.out.below hb7)
      have KM7 := Lib.hid (KM6.out.below hb7)
      have KS7 := Lib.hid (KS6.out.below hb7)
      obtain ⟨w8, hw8, h8, hb8, hz8⟩ := box5H w7 (.int .i64 ((l.length : Int) + (p : Int))) (.int .i64 l.length) (.int .i64 0) (.int .i64 p) (.int .i64 0) 36
      have p8 := p7.trans (hb8.mono p7.size)
      have KL8 := Lib.hid (KL7.out.below hb8)
      have KM8 := Lib.hid (KM7.out.below hb8)
      have KS8 := Lib.hid (KS7.out.below hb8)
      have HW8 := Lib.hid hw8
      have H8 := Lib.hid h8
      have HZ8 := Lib.hid hz8
      clear hw8 h8 hz8 hb7 hb8 p6 p7
      go_wp2_with fail
      rw [← HW8.out]
      refine (netLegs aL cL l _ (by omega) KL8.out.1 KL8.out.2.1 HF.out.net HF.out.degs KL8.out.2.2.2).mono ?_
      rintro e w9 ⟨⟨rfl, K, hK, hKn, hKm⟩, hb9⟩
      obtain ⟨g0, g1, g2, g3, g4⟩ := HEG.out K hK hKn hKm
      rw [g0, g1, g3, g4, show (legN l 2 : Int) = (l.length : Int) - (p : Int) from by omega, show ((2 * p : Nat) : Int) = 2 * (p : Int) from by omega, show ((0 : Nat) : Int) = 0 from rfl]
      clear hK hKn hKm g0 g1 g2 g3 g4
      have p9 := p8.trans (hb9.mono p8.size)
      have KL9 := Lib.hid (KL8.out.below hb9)
      have KM9 := Lib.hid (KM8.out.below hb9)
      have KS9 := Lib.hid (KS8.out.below hb9)
      have H9 := Lib.hid ((hb9.block _ (by rw [HZ8.out]; omega)).trans H8.out)
      obtain ⟨w10, hw10, h10, hb10, hz10⟩ := box5H w9 (.int .i64 0) (.int .i64 (2 * (p : Int))) (.int .i64 ((l.length : Int) - (p : Int))) (.int .i64 0) (.int .i64 0) 39
      have p10 := p9.trans (hb10.mono p9.size)
      have KL10 := Lib.hid (KL9.out.below hb10)
      have KM10 := Lib.hid (KM9.out.below hb10)
      have KS10 := Lib.hid (KS9.out.below hb10)
      have H10 := Lib.hid ((hb10.block _ (Array.getElem?_eq_some_iff.1 H9.out).1).trans H9.out)
      have G10 := Lib.hid h10
      have HW10 := Lib.hid hw10
      clear hw10 h10 hz10 hb9 hb10 p8 p9
      go_wp2_with fail
      rw [← HW10.out]
      refine (mirrorS aL cL l _ (by omega) HF.out.net HF.out.netm KL10.out).mono ?_
      rintro e w11 ⟨aR, cR, rfl, hk11, hb11⟩
      have p11 := p10.trans (hb11.mono p10.size)
      have KL11 := Lib.hid (KL10.out.below hb11)
      have KM11 := Lib.hid (KM10.out.below hb11)
      have KS11 := Lib.hid (KS10.out.below hb11)
      have KR11 := Lib.hid hk11
      have H11 := Lib.hid ((hb11.block _ (Array.getElem?_eq_some_iff.1 H10.out).1).trans H10.out)
      have G11 := Lib.hid ((hb11.block _ (Array.getElem?_eq_some_iff.1 G10.out).1).trans G10.out)
      clear hk11 hb11 p10
      have hd' := HD.out
      go_wp2_with fail
      clear hd'
      refine (shiftS aL cL l d _ (by omega) HF.out.net HF.out.nets hd1.1 hd1.2.1 hd1.2.2 KL11.out).mono ?_
      rintro e w12 ⟨aT, cT, rfl, hk12, hb12⟩
      have p12 := p11.trans (hb12.mono p11.size)
      have KM12 := Lib.hid (KM11.out.below hb12)
      have KS12 := Lib.hid (KS11.out.below hb12)
      have KR12 := Lib.hid (KR11.out.below hb12)
      have KT12 := Lib.hid hk12
      obtain ⟨r0, r1, r2, r3, r4, -⟩ := five_of_block ((hb12.block _ (Array.getElem?_eq_some_iff.1 H11.out).1).trans H11.out)
      obtain ⟨q0, q1, q2, q3, q4, -⟩ := five_of_block ((hb12.block _ (Array.getElem?_eq_some_iff.1 G11.out).1).trans G11.out)
      clear hk12 hb12 p11
      have hqz := eqCounts ((l.length : Int) + (p : Int)) l.length 0 p 0 ((l.length : Int) + (p : Int)) l.length 0 p 0 true (by simp)
      have hqf := eqFive 0 (2 * (p : Int)) ((l.length : Int) - (p : Int)) 0 0
      have hgd := guardCounts
      have hgf := guardFive
      go_wp2_with fail
      refine (refSameNetN aM aR cM cR (l.map mirB) _ _ _ (by simp) (by simp) (by simp; omega) KM12.out.2.2.2 KR12.out.2.2.2).mono ?_
      rintro e w13 ⟨rfl, hb13⟩
      have p13 := p12.trans (hb13.mono p12.size)
      have KS13 := Lib.hid (KS12.out.below hb13)
      have KT13 := Lib.hid (KT12.out.below hb13)
      clear r0 r1 r2 r3 r4 q0 q1 q2 q3 q4 hqz hqf p12 hb13
      go_wp2_with fail
      refine (refSameNetN aS aT cS cT (l.map (Bar.shift d 0)) _ _ _ (by simp) (by simp) (by simp; omega) KS13.out.2.2.2 KT13.out.2.2.2).mono ?_
      rintro e w14 ⟨rfl, hb14⟩
      have p14 := p13.trans (hb14.mono p13.size)
      clear p13 hb14
      go_wp2_with fail
      refine (otterEdge _).mono ?_
      rintro e w15 ⟨rfl, hb15⟩
      go_wp2
      go_ret
      exact ⟨rfl, p14.trans (hb15.mono p14.size)⟩
end Go.Proofs.YthihjphcjjpjpaaGreat

/- An argument that is a list of bars, opened. -/
namespace Go.Proofs.YthihjphcjjpjpaaGreat
open Go.ChangeShapes Go.WideShapes Go.ChangeAt Go.RowKit Go.Deep

variable {H : Type} {enc : TypeId × Value → H} {w : World} {spare : Nat → Bool} {held : Bool}
set_option maxRecDepth 100000 in
theorem bar_cells {n : Nat} {cs : List Value} {x : DataW H × List MemPlace} (h : DataW.trod enc Tryz.prog w 0 spare held n 52 cs = some x) : ∃ b : Ck.Bar, cs = bcells b := by
  obtain ⟨xs, m, _, _, hl, hx, hf⟩ := DataW.trod_struct Tryz.underlying52 h
  have hC : Tryz.prog.cellsOf 52 = 3 := by kernel_rfl
  have c3 : Tryz.prog.cellsOf 3 = 1 := by kernel_rfl
  rw [hC] at hl
  match cs, hl, xs, hx with
  | [c0, c1, c2], _, [x0, x1, x2], _ =>
    have h0 := hf 0 _ rfl
    have h1 := hf 1 _ rfl
    have h2 := hf 2 _ rfl
    simp [c3] at h0 h1 h2
    obtain ⟨n0, e0, _⟩ := DataW.trod_int Tryz.underlying3 h0
    obtain ⟨n1, e1, _⟩ := DataW.trod_int Tryz.underlying3 h1
    obtain ⟨n2, e2, _⟩ := DataW.trod_int Tryz.underlying3 h2
    simp only [List.cons.injEq, and_true] at e0 e1 e2
    exact ⟨⟨n0, n1, n2⟩, by rw [e0, e1, e2]; rfl⟩
set_option maxRecDepth 100000 in
/-- The argument is nil, or a slice that reads as bars. -/
theorem open_bars {v : Value} {d : DataW H} {p : List MemPlace} {r : Reach} {b0 : Nat} (hv : Value.okWide Tryz.prog w r b0 29 v) (h : DataW.Trod enc Tryz.prog w 0 spare held 29 v d p) (_ : ∀ x ∈ p, x.block < w.heap.size) :
    ∃ (A : Option Addr) (c : Nat) (l : List Ck.Bar), v = .slice A l.length c ∧ (A = none → c = 0) ∧ l.length ≤ c ∧ c ≤ maxLen ∧ RB w w.heap.size A l := by
  obtain ⟨a, len, cap, rfl⟩ := okWide_slice Tryz.underlying29 hv
  obtain ⟨fuel, hf⟩ := h
  have hC : Tryz.prog.cellsOf 52 = 3 := by kernel_rfl
  rcases open_slice Tryz.underlying29 hf with ⟨hcs, _⟩ | ⟨a', len', cap', m, n, D, Pl, hcs, hb, hl, hm, hmm, hx, hi⟩
  · simp [Value.cells] at hcs
    obtain ⟨rfl, rfl, rfl⟩ := hcs
    exact ⟨none, 0, [], rfl, fun _ => rfl, Nat.zero_le _, by unfold maxLen; omega, fun h => by simp at h⟩
  · simp [Value.cells] at hcs
    obtain ⟨rfl, rfl, rfl⟩ := hcs
    rw [hC] at hi hx
    have hle : len ≤ m := by rw [hmm]; split <;> omega
    have each : ∀ i, ∃ b : Ck.Bar, i < len → w.cell? (a'.add (i * 3)) = some (.int .i64 b.x) ∧ w.cell? ((a'.add (i * 3)).add 1) = some (.int .i64 b.y) ∧ w.cell? ((a'.add (i * 3)).add 2) = some (.int .i64 b.s) := fun i => by
      by_cases hi' : i < len
      · obtain ⟨cs', h1, h2⟩ := hi i (by omega)
        obtain ⟨b, rfl⟩ := bar_cells h2
        obtain ⟨_, _, h3⟩ := World.cells?_some h1
        exact ⟨b, fun _ => ⟨h3 0 (by omega), h3 1 (by omega), h3 2 (by omega)⟩⟩
      · exact ⟨⟨0, 0, 0⟩, fun h => absurd h hi'⟩
    obtain ⟨f, hf'⟩ := Classical.axiomOfChoice each
    have hlen : ((List.range len).map f).length = len := by simp
    refine ⟨some a', cap, (List.range len).map f, by rw [hlen], (fun h => by cases h), by rw [hlen]; exact hl, hm, fun hpos => ?_⟩
    rw [hlen] at hpos
    obtain ⟨blk, off, spot⟩ := a'
    have h0 := (hf' 0 hpos).1
    have hspot : spot = none := by
      cases spot with
      | none => rfl
      | some s =>
        simp [Addr.add, World.cell?] at h0
        split at h0 <;> simp at h0
    subst hspot
    have hadd : ∀ k, (⟨blk, off, none⟩ : Addr).add k = ⟨blk, off + k, none⟩ := fun k => by
      unfold Addr.add
      split
      · simp
      · rfl
    have hblk : blk < w.heap.size := by
      rw [hadd] at h0
      unfold World.cell? at h0
      cases hh : w.heap[blk]? with
      | none => simp [hh] at h0
      | some o => exact (Array.getElem?_eq_some_iff.1 hh).1
    refine ⟨blk, off, rfl, hblk, fun i hi' => ?_⟩
    rw [hlen] at hi'
    obtain ⟨k0, k1, k2⟩ := hf' i hi'
    rw [hadd] at k0 k1 k2
    have hadd2 : ∀ k j, (⟨blk, k, none⟩ : Addr).add j = ⟨blk, k + j, none⟩ := fun k j => by
      unfold Addr.add
      split
      · simp
      · rfl
    rw [hadd2] at k1 k2
    have hg : ((List.range len).map f)[i]'(by simpa using hi') = f i := by simp
    rw [hg]
    exact ⟨k0, k1, k2⟩
end Go.Proofs.YthihjphcjjpjpaaGreat

namespace Go.Proofs.YthihjphcjjpjpaaGreat
open Go.ChangeShapes Go.WideShapes Go.ChangeAt Go.RowKit

set_option maxRecDepth 100000 in
theorem cell_intB {w : World} {r : Reach} {b0 : Nat} {k : IntKind} {t : TypeId} {v : Value} (ht : Tryz.prog.underlying t = some (.int k)) (h : Cell.okWide Tryz.prog w r b0 t v) : ∃ n, v = .int k n ∧ k.has n := by
  simp only [Cell.okWide, ht] at h
  cases v <;> simp_all [Cell.ok]
set_option maxRecDepth 100000 in
theorem cell_strB {w : World} {r : Reach} {b0 : Nat} {v : Value} (h : Cell.okWide Tryz.prog w r b0 9 v) : ∃ s, v = .string s := by
  have ht := Tryz.underlying9
  simp only [Cell.okWide, ht] at h
  cases v <;> simp_all [Cell.ok]
set_option maxRecDepth 100000 in
theorem open_edgingB {w : World} {r : Reach} {b0 : Nat} {v : Value} (h : Value.okWide Tryz.prog w r b0 25 v) : ∃ s n, v = .agg #[.string s, .int .i64 n] := by
  have hS : Tryz.prog.underlying 25 = some (.struct (Tryz.prog.fieldsOf 25)) := by kernel_rfl
  have hC : Tryz.prog.cellsOf 25 = 2 := by kernel_rfl
  simp only [Value.okWide, hS] at h
  obtain ⟨cs, rfl, hsz, hr⟩ := h
  rw [hC] at hsz
  obtain ⟨ts, hts, -, hrow⟩ := hr
  have ht : Tryz.prog.cellTypes Tryz.prog.depth 25 = some [9, 3] := by kernel_rfl
  rw [ht] at hts
  cases hts
  obtain ⟨l⟩ := cs
  match l, hsz with
  | [c0, c1], _ =>
    obtain ⟨u0, hu0, h0⟩ := hrow 0 c0 rfl
    obtain ⟨u1, hu1, h1⟩ := hrow 1 c1 rfl
    simp at hu0 hu1
    subst hu0 hu1
    obtain ⟨a, rfl⟩ := cell_strB h0
    obtain ⟨b, rfl, hb⟩ := cell_intB Tryz.underlying3 h1
    exact ⟨a, b, rfl⟩
set_option maxRecDepth 100000 in
theorem open_knotB {w : World} {r : Reach} {b0 : Nat} {v : Value} (h : Value.okWide Tryz.prog w r b0 23 v) : ∃ x y, v = .agg #[.int .i64 x, .int .i64 y] := by
  have hS : Tryz.prog.underlying 23 = some (.struct (Tryz.prog.fieldsOf 23)) := by kernel_rfl
  have hC : Tryz.prog.cellsOf 23 = 2 := by kernel_rfl
  simp only [Value.okWide, hS] at h
  obtain ⟨cs, rfl, hsz, hr⟩ := h
  rw [hC] at hsz
  obtain ⟨ts, hts, -, hrow⟩ := hr
  have ht : Tryz.prog.cellTypes Tryz.prog.depth 23 = some [3, 3] := by kernel_rfl
  rw [ht] at hts
  cases hts
  obtain ⟨l⟩ := cs
  match l, hsz with
  | [c0, c1], _ =>
    obtain ⟨u0, hu0, h0⟩ := hrow 0 c0 rfl
    obtain ⟨u1, hu1, h1⟩ := hrow 1 c1 rfl
    simp at hu0 hu1
    subst hu0 hu1
    obtain ⟨a, rfl, ha⟩ := cell_intB Tryz.underlying3 h0
    obtain ⟨b, rfl, hb⟩ := cell_intB Tryz.underlying3 h1
    exact ⟨a, b, rfl⟩
set_option maxRecDepth 100000 in
theorem open_i8 {w : World} {r : Reach} {b0 : Nat} {v : Value} (h : Value.okWide Tryz.prog w r b0 26 v) : ∃ x, v = .int .i8 x ∧ -128 ≤ x ∧ x ≤ 127 := by
  have hS : Tryz.prog.underlying 26 = some (.int .i8) := by kernel_rfl
  simp only [Value.okWide, hS] at h
  obtain ⟨n, rfl, hn⟩ := cell_intB hS h
  simp only [IntKind.has, IntKind.min, IntKind.max, IntKind.signed, IntKind.bits] at hn
  refine ⟨n, rfl, ?_, ?_⟩ <;> simp at hn <;> omega
theorem Tryz.ownF : ownKnob Tryz.prog.godebug = none := by kernel_rfl
theorem Tryz.laidOutF : laidOutB Tryz.prog = true := by kernel_rfl

set_option maxRecDepth 100000 in
theorem bars_lifted (os : Os) (started : os.Started) (H : Type) (enc : TypeId × Value → H) :
    ReturnsInHanded {} Tryz.checked os 3 .any (Rows.topOtterBarsSpec.pre6 enc Tryz.prog Tryz.f3 Rows.topOtterBarsRow.domain false) (Rows.topOtterBarsSpec.post enc Tryz.prog Tryz.f3 false true false false) := by
  refine returnsInHanded_of_change (C := Tryz.checked) Tryz.ownF started (by kernel_rfl) Tryz.func3
    (ChangeSpec.witness6 (enc := enc) (C := Tryz.checked) false ⟨#[], #[.agg #[.int .i64 0, .int .i64 0], .agg #[.string ByteArray.empty, .int .i64 0], .int .i8 0], []⟩ 8 (by kernel_rfl) (by kernel_rfl) (by kernel_rfl) (by kernel_rfl)) ?_
  intro W base args ds gs before hval0 hW _ _
  have hval : ∀ (j : Nat) t v, Tryz.f3.params[j]? = some t → args[j]? = some v → Value.okWide Tryz.prog W .any base t v := hval0
  have hW' := hW
  obtain ⟨p, q, hA0, hV, rfl, _, _⟩ := hW
  have hA : DataW.TrodAll enc Tryz.prog W 0 (fun _ => true) true Tryz.f3.params.toList args.toList ds p := hA0
  rw [Tryz.params3] at hA hval
  obtain ⟨v0, v1, v2, d0, d1, d2, p0, p1, p2, rfl, rfl, rfl, h0, h1, h2⟩ := trodAll_three hA
  obtain ⟨rfl, rfl⟩ := trodVars_none hV
  clear hA0 hval0
  simp only [List.append_nil] at hW'
  have hlt : ∀ x ∈ p0 ++ p1 ++ p2, x.block < W.heap.size := fun x hx => by simpa using hW'.lt x hx
  obtain ⟨x, y, rfl⟩ := open_knotB (hval 0 23 v0 rfl rfl)
  obtain ⟨s, n, rfl⟩ := open_edgingB (hval 1 25 v1 rfl rfl)
  obtain ⟨z, rfl, c0, c1⟩ := open_i8 (hval 2 26 v2 rfl rfl)
  have harg0 : ∀ (W' : World), Below W.heap.size W W' → DataW.Trod enc Tryz.prog W' 0 (fun b => decide (b < W.heap.size)) true 23 (.agg #[.int .i64 x, .int .i64 y]) d0 p0 :=
    fun W' hn => Below.trod Tryz.laidOutF (by kernel_rfl) (of_decide_eq_true (by kernel_rfl)) h0 hn (fun x hx => hlt x (List.mem_append_left _ (List.mem_append_left _ hx)))
  have harg1 : ∀ (W' : World), Below W.heap.size W W' → DataW.Trod enc Tryz.prog W' 0 (fun b => decide (b < W.heap.size)) true 25 (.agg #[.string s, .int .i64 n]) d1 p1 :=
    fun W' hn => Below.trod Tryz.laidOutF (by kernel_rfl) (of_decide_eq_true (by kernel_rfl)) h1 hn (fun x hx => hlt x (List.mem_append_left _ (List.mem_append_right _ hx)))
  have harg2 : ∀ (W' : World), Below W.heap.size W W' → DataW.Trod enc Tryz.prog W' 0 (fun b => decide (b < W.heap.size)) true 26 (.int .i8 z) d2 p2 :=
    fun W' hn => Below.trod Tryz.laidOutF (by kernel_rfl) (of_decide_eq_true (by kernel_rfl)) h2 hn (fun x hx => hlt x (List.mem_append_right _ hx))
  refine (otterBars x y n z s W c0 c1).mono fun e W' ⟨he, hb⟩ => ?_
  subst he
  refine ⟨_, rfl, _, _, _, [], p0 ++ p1 ++ p2, [], hW', ?_, by rw [List.append_assoc]; exact trodAll_mk3 (harg0 W' hb) (harg1 W' hb) (harg2 W' hb), rfl, hb.frame _, fun h => by cases h⟩
  exact trodAll_mk1 (shut_bool Tryz.underlying4 true)

theorem bars_holds : Rows.TopOtterBarsSaid :=
  OpenClaim.holds_of_wide 3 Tryz.f3 rfl rfl rfl rfl rfl rfl rfl ⟨rfl, rfl, rfl, rfl, rfl⟩ rfl rfl rfl rfl rfl (by kernel_rfl) Tryz.func3 (by kernel_rfl)
    (of_decide_eq_true (by kernel_rfl)) (by unfold Func.isWrapper; first | (rw [if_pos (by decide +kernel)]; kernel_rfl) | (rw [if_neg (by decide +kernel)]; exact ⟨rfl, rfl⟩))
    (fun os started H enc _ => bars_lifted os started H enc)
#print axioms bars_holds
end Go.Proofs.YthihjphcjjpjpaaGreat
