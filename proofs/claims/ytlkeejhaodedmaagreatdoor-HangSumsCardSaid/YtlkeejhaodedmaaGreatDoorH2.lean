/- Helpers: H2. -/
import Derived.Test.YtlkeejhaodedmaaGreatDoorH1
import Derived.OwnWalk
import Derived.Laws.OwnMore
import Derived.Deep.AppendLies
import Derived.OwnWalkIn
import Derived.RangeFuncCalls
import Derived.RangeFuncNested
import Derived.RangeFuncBound
import Derived.RangeFuncLeaves
import Derived.Shelf.Abstract
import Derived.TacticsInMore
import Derived.LoopNIn
import Derived.LoopIn
import Derived.Shelf.AbstractIn
import Derived.Laws.CopyRow
import Derived.Laws.CopyOwn
import Derived.OrdersHeld
/- hang: Compare, roots of integers, Root. -/
namespace Go.Proofs.YtlkeejhaodedmaaGreatDoor
open Go.RowKit

/-! ### the root of an integer -/
def IsRt (n r : Nat) : Prop := r * r ≤ n ∧ n < (r + 1) * (r + 1)
theorem IsRt.unique {n r s : Nat} (h : IsRt n r) (k : IsRt n s) : r = s := by
  have h1 : r < s + 1 := by
    rcases Nat.lt_or_ge r (s + 1) with h' | h'
    · exact h'
    · have := Nat.mul_le_mul h' h'
      have := h.1
      have := k.2
      omega
  have h2 : s < r + 1 := by
    rcases Nat.lt_or_ge s (r + 1) with h' | h'
    · exact h'
    · have := Nat.mul_le_mul h' h'
      have := k.1
      have := h.2
      omega
  omega
def isq : Nat → Nat
  | 0 => 0
  | n + 1 => if (isq n + 1) * (isq n + 1) ≤ n + 1 then isq n + 1 else isq n
theorem isq_rt : ∀ n, IsRt n (isq n)
  | 0 => ⟨by simp [isq], by simp [isq]⟩
  | n + 1 => by
    obtain ⟨h1, h2⟩ := isq_rt n
    rw [isq]
    split
    · rename_i h
      refine ⟨h, ?_⟩
      have e : (isq n + 1 + 1) * (isq n + 1 + 1) = (isq n + 1) * (isq n + 1) + 2 * (isq n + 1) + 1 := by grind
      omega
    · rename_i h
      exact ⟨by omega, by omega⟩
theorem isq_eq {n r : Nat} (h : IsRt n r) : isq n = r := (isq_rt n).unique h
theorem isq_le (n : Nat) : isq n ≤ n := by
  have h := (isq_rt n).1
  rcases Nat.lt_or_ge n (isq n) with h' | h'
  · have : isq n * 1 ≤ isq n * isq n := Nat.mul_le_mul (Nat.le_refl _) (by omega)
    omega
  · exact h'
theorem isq_le_of {n r : Nat} (h : n < (r + 1) * (r + 1)) : isq n ≤ r := by
  have k := (isq_rt n).1
  rcases Nat.lt_or_ge r (isq n) with h' | h'
  · have := Nat.mul_le_mul (show r + 1 ≤ isq n by omega) (show r + 1 ≤ isq n by omega)
    omega
  · exact h'
/-- A step of Newton from above stays above. -/
theorem newton_ge {n x : Nat} (hx : 0 < x) : isq n ≤ (x + n / x) / 2 := by
  have h1 := (isq_rt n).1
  generalize isq n = r at h1
  have h2 : n < x * (n / x + 1) := by
    have := Nat.div_add_mod n x
    have := Nat.mod_lt n hx
    rw [Nat.mul_add]
    omega
  generalize n / x = q at h2
  rcases Nat.lt_or_ge ((x + q) / 2) r with h | h
  · exfalso
    have h3 : x + q + 1 ≤ 2 * r := by omega
    have h4 : (x + q + 1) * (x + q + 1) ≤ (2 * r) * (2 * r) := Nat.mul_le_mul h3 h3
    have h5 : 4 * (x * (q + 1)) ≤ (x + q + 1) * (x + q + 1) := by
      have hs : ((x : Int) - (q + 1)) * ((x : Int) - (q + 1)) ≥ 0 := by
        rcases Int.le_total 0 ((x : Int) - (q + 1)) with h | h
        · exact Int.mul_nonneg h h
        · exact Int.mul_nonneg_of_nonpos_of_nonpos h h
      have e : ((x : Int) + (q + 1)) * ((x : Int) + (q + 1)) = ((x : Int) - (q + 1)) * ((x : Int) - (q + 1)) + 4 * ((x : Int) * (q + 1)) := by grind
      have e2 : (4 * ((x : Int) * ((q : Int) + 1))) ≤ ((x : Int) + (q + 1)) * ((x : Int) + (q + 1)) := by omega
      have e3 : ((4 * (x * (q + 1)) : Nat) : Int) ≤ (((x + (q + 1)) * (x + (q + 1)) : Nat) : Int) := by push_cast; exact e2
      have := Int.ofNat_le.1 e3
      have e4 : x + q + 1 = x + (q + 1) := by omega
      rw [e4]
      exact this
    have h6 : (2 * r) * (2 * r) = 4 * (r * r) := by grind
    omega
  · exact h
theorem newton_stop {n x : Nat} (_ : 0 < x) (hr : isq n ≤ x) (h : x ≤ (x + n / x) / 2) : x = isq n := by
  have h1 : x ≤ n / x := by omega
  have h2 : x * x ≤ n := Nat.le_trans (Nat.mul_le_mul (Nat.le_refl x) h1) (Nat.mul_div_le n x)
  have h3 := (isq_rt n).2
  rcases Nat.lt_or_ge (isq n) x with h' | h'
  · have := Nat.mul_le_mul (show isq n + 1 ≤ x by omega) (show isq n + 1 ≤ x by omega)
    omega
  · omega
set_option maxHeartbeats 1000000 in
set_option maxRecDepth 100000 in
theorem hgRootOf (n : Nat) (w : World) (hn : n ≤ 4000000000000000000) :
    Calls Tryz.prog 83 #[.int .i64 n] w fun e w' => e = .returned (.int .i64 (isq n)) ∧ w = w' := by
  obtain ⟨r, hr⟩ : ∃ r, isq n = r := ⟨_, rfl⟩
  have HR := Lib.hid hr
  have hle := isq_le n
  rw [hr] at hle ⊢
  clear hr
  go_enter Tryz.func83, Tryz.ntmps83
  go_wp2_with fail
  go_step3
  go_wp2
  go_step3
  go_wp2
  go_loopg [3, 4] n (fun g x _ wi => ∃ k : Nat, x = .int .i64 k ∧ k ≤ n ∧ r ≤ k ∧ k ≤ g ∧ wi = w)
  case atStart => exact ⟨n, rfl, Nat.le_refl _, hle, Nat.le_refl _, rfl⟩
  case round =>
    obtain ⟨k, rfl, hk, hrk, hkg, rfl⟩ := hrel
    by_cases hz : k = 0
    · obtain rfl : r = 0 := by omega
      subst hz
      go_wp2
      rw [Exit.noGoto_ret]
      go_ret
      exact ⟨rfl, rfl⟩
    · have hk0 : 0 < k := by omega
      have hki : (0 : Int) < (k : Int) := by omega
      have hkz : ¬ (k : Int) = 0 := by omega
      have hq : (n : Int) / (k : Int) = ((n / k : Nat) : Int) := rfl
      have hq2 : (n : Int).tdiv (k : Int) = ((n / k : Nat) : Int) := divN n k
      have hqn : n / k ≤ n := Nat.div_le_self _ _
      have hge := newton_ge (n := n) hk0
      have HST := Lib.hid (newton_stop (n := n) hk0)
      rw [HR.out] at hge
      have HST2 := Lib.hid (show r ≤ k → k ≤ (k + n / k) / 2 → k = r by rw [← HR.out]; exact HST.out)
      clear HST
      generalize n / k = q at *
      have hsum : ((k : Int) + (q : Int)) / 2 = (((k + q) / 2 : Nat) : Int) := by omega
      have hsum2 : ((k : Int) + (q : Int)).tdiv 2 = (((k + q) / 2 : Nat) : Int) := by rw [← divN]; push_cast; rfl
      by_cases hs : k ≤ (k + q) / 2
      · have HK := Lib.hid (HST2.out hrk hs)
        generalize (k + q) / 2 = m at *
        have hm : (k : Int) ≤ (m : Int) := by omega
        go_wp2_with fail
        rw [Exit.noGoto_ret]
        go_ret
        exact ⟨ret_i (by rw [HK.out]), rfl⟩
      · generalize (k + q) / 2 = m at *
        have hm : ¬ (k : Int) ≤ (m : Int) := by omega
        go_wp2_with fail
        go_roundg m
        case rel => exact ⟨m, rfl, by omega, by omega, by omega, rfl⟩
        case measure => omega

/-! ### Compare -/
theorem keep22 {W w1 w2 : World} {g h : Nat} {x y u v : Value} (k : w1.cell? ⟨g, 0, none⟩ = some x ∧ w1.cell? ⟨g, 1, none⟩ = some y ∧ w1.cell? ⟨h, 0, none⟩ = some u ∧ w1.cell? ⟨h, 1, none⟩ = some v ∧ Below W.heap.size W w1 ∧ g < w1.heap.size ∧ h < w1.heap.size) (hb : Below w1.heap.size w1 w2) :
    w2.cell? ⟨g, 0, none⟩ = some x ∧ w2.cell? ⟨g, 1, none⟩ = some y ∧ w2.cell? ⟨h, 0, none⟩ = some u ∧ w2.cell? ⟨h, 1, none⟩ = some v ∧ Below W.heap.size W w2 ∧ g < w2.heap.size ∧ h < w2.heap.size := by
  obtain ⟨h0, h1, h2, h3, h4, h5, h6⟩ := k
  have := hb.size
  exact ⟨(hb.cell (p := ⟨g, 0, none⟩) h5).trans h0, (hb.cell (p := ⟨g, 1, none⟩) h5).trans h1, (hb.cell (p := ⟨h, 0, none⟩) h6).trans h2, (hb.cell (p := ⟨h, 1, none⟩) h6).trans h3, tw h4 hb, by omega, by omega⟩
set_option maxHeartbeats 1000000 in
set_option maxRecDepth 100000 in
theorem hgCompareM (a b c d : Nat) (w : World) (ha : a ≤ 4000000000000) (hb : b ≤ 810000) (hc : c ≤ 4000000000000) (hd : d ≤ 810000) :
    Calls Tryz.prog 82 #[.agg #[.int .i64 a, .int .i64 b], .agg #[.int .i64 c, .int .i64 d]] w fun e w' => e = .returned (.int .i64 (cmpH ((a : Int) * d) ((c : Int) * b))) ∧ Below w.heap.size w w' := by
  have b1 := mulB ha hd
  have b2 := mulB hc hb
  obtain ⟨b10, b11⟩ := b1
  obtain ⟨b20, b21⟩ := b2
  obtain ⟨w1, hw1, k1, hb1, hz1⟩ := boxS w (.cells #[.int .i64 a, .int .i64 b] 25)
  obtain ⟨w2, hw2, k2, hb2, hz2⟩ := boxS w1 (.cells #[.int .i64 c, .int .i64 d] 25)
  obtain ⟨c0, c1, -, -⟩ := cel2 (blkT k1 hb2)
  obtain ⟨d0, d1, -, -⟩ := cel2 k2
  go_enter Tryz.func82, Tryz.ntmps82
  go_wp2_with fail
  refine (cmpIntH _ _ _).mono ?_
  rintro e w3 ⟨rfl, rfl⟩
  go_wp2
  go_ret
  exact ⟨rfl, tw hb1 hb2⟩
def cmpsE (a b c d : Int) : Int := fstE [sqH a b, sqH c d]
set_option maxHeartbeats 2000000 in
set_option maxRecDepth 100000 in
theorem hgCompare (a b c d : Int) (w : World) :
    Calls Tryz.prog 32 #[.agg #[.int .i64 a, .int .i64 b], .agg #[.int .i64 c, .int .i64 d]] w fun e w' => e = .returned (.tuple #[.int .i64 (oz (cmpsE a b c d) (cmpH (a * d) (c * b))), .int .i64 (cmpsE a b c d)]) ∧ Below w.heap.size w w' := by
  obtain ⟨w1, hw1, k1, hb1, hz1⟩ := boxS w (.cells #[.int .i64 a, .int .i64 b] 25)
  obtain ⟨w2, hw2, k2, hb2, hz2⟩ := boxS w1 (.cells #[.int .i64 c, .int .i64 d] 25)
  obtain ⟨c0, c1, -, -⟩ := cel2 (blkT k1 hb2)
  obtain ⟨d0, d1, -, -⟩ := cel2 k2
  have B2 := tw hb1 hb2
  have z1 := blkSz (blkT k1 hb2)
  have z2 := blkSz k2
  have HE := Lib.hid (show fstE [sqH a b, sqH c d] = cmpsE a b c d from rfl)
  have HZ := Lib.hid (show cmpsE a b c d = 0 → _ from fun h => And.intro (sqH_zero (fst2_zero h).1) (sqH_zero (fst2_zero h).2))
  generalize cmpsE a b c d = E at HE HZ ⊢
  clear k1 hb1 hb2 k2
  go_enter Tryz.func32, Tryz.ntmps32
  go_wp2_with fail
  go_region_held3 (fun w' => w'.cell? ⟨w.heap.size, 0, none⟩ = some (.int .i64 a) ∧ w'.cell? ⟨w.heap.size, 1, none⟩ = some (.int .i64 b) ∧ w'.cell? ⟨w1.heap.size, 0, none⟩ = some (.int .i64 c) ∧ w'.cell? ⟨w1.heap.size, 1, none⟩ = some (.int .i64 d) ∧ Below w.heap.size w w' ∧ w.heap.size < w'.heap.size ∧ w1.heap.size < w'.heap.size)
    (first | exact ⟨c0, c1, d0, d1, B2, z1, z2⟩ | exact ⟨c0, c1, d0, d1, below_drew B2, z1, z2⟩ | exact keep22 (by assumption) (by assumption) | exact keep22 (by assumption) ((Below.refl _ _).alloc (Nat.le_refl _) _) | assumption | exact keep22 (by assumption) (below_drew (Below.refl _ _)) | go_keep)
    (first
      | (go_at_call 20; refine (hgCheckSquare _ _ _).mono ?_; rintro e w' ⟨rfl, hb⟩)
      | (go_at_call 72; refine (hgFirst2 _ _ _ _ 26 _ (by exact newBlk _ _)).mono ?_; rintro e w' ⟨rfl, rfl⟩))
  all_goals
    rename_i hH
    rw [HE.out]
    obtain ⟨x0, x1, x2, x3, xb, xz, xy⟩ := hH
    clear c0 c1 d0 d1 B2 z1 z2 hz1 hz2 hw1 hw2 HE
    by_cases hz : E = 0
    · subst hz
      obtain ⟨⟨A, B, rfl, rfl, n1, -, n3, -⟩, ⟨C, D, rfl, rfl, n4, -, n6, -⟩⟩ := HZ.out rfl
      clear HZ
      go_wp2_with fail
      refine (hgCompareM A B C D _ n1 n3 n4 n6).mono ?_
      rintro e w9 ⟨rfl, hb9⟩
      go_wp2
      go_ret2
      exact ⟨by rw [oz0]; rfl, tw xb hb9⟩
    · have hne := nzH hz
      have HO := Lib.hid (ozE hz)
      clear hz HZ
      go_wp2
      go_ret2
      exact ⟨by rw [HO.out]; rfl, xb⟩

/-! ### Root -/
/-- The table of powers of ten lies. -/
def Tab (w : World) : Prop := w.cell? ⟨0, 0, none⟩ = some (.int .i64 1) ∧ w.cell? ⟨0, 1, none⟩ = some (.int .i64 10) ∧ w.cell? ⟨0, 2, none⟩ = some (.int .i64 100) ∧ 0 < w.heap.size
theorem Tab.below {w w' : World} (h : Tab w) (hb : Below w.heap.size w w') : Tab w' :=
  ⟨(hb.cell (p := ⟨0, 0, none⟩) h.2.2.2).trans h.1, (hb.cell (p := ⟨0, 1, none⟩) h.2.2.2).trans h.2.1, (hb.cell (p := ⟨0, 2, none⟩) h.2.2.2).trans h.2.2.1, Nat.lt_of_lt_of_le h.2.2.2 hb.size⟩
def tenK (k : Int) : Nat := if k = 0 then 1 else if k = 1 then 10 else 100
def rootE (a b k : Int) : Int := fstE [sqH a b, rngH k 0 2]
def rtQ (a b k : Int) : Nat := isq (a.toNat * tenK k * tenK k / b.toNat)
set_option maxHeartbeats 8000000 in
set_option maxRecDepth 100000 in
theorem hgRoot (a b k : Int) (w : World) (hT : Tab w) :
    Calls Tryz.prog 33 #[.agg #[.int .i64 a, .int .i64 b], .int .i64 k] w fun e w' => e = .returned (.tuple #[.agg #[.int .i64 (oz (rootE a b k) (qn (rtQ a b k) (tenK k) : Nat)), .int .i64 (oz (rootE a b k) (qd (rtQ a b k) (tenK k) : Nat))], .int .i64 (rootE a b k)]) ∧ Below w.heap.size w w' := by
  obtain ⟨w1, hw1, k1, hb1, hz1⟩ := boxS w (.cells #[.int .i64 a, .int .i64 b] 25)
  obtain ⟨w2, hw2, k2, hb2, hz2⟩ := boxS w1 (.cells #[.int .i64 0, .int .i64 0] 23)
  obtain ⟨c0, c1, -, -⟩ := cel2 (blkT k1 hb2)
  have HT := Lib.hid (hT.below (tw hb1 hb2))
  have HE := Lib.hid (show fstE [sqH a b, rngH k 0 2] = rootE a b k from rfl)
  by_cases hz : rootE a b k = 0
  · obtain ⟨hs, hk⟩ := fst2_zero hz
    obtain ⟨A, B, rfl, rfl, n1, n2, n3, -⟩ := sqH_zero hs
    obtain ⟨g1, g2⟩ := rngH_zero hk
    rw [hz] at HE ⊢
    rw [oz0, oz0, rtQ]
    simp only [Int.toNat_natCast]
    clear hz hs hk
    have hB0 : ¬ (B : Int) = 0 := by omega
    have hcase : k = 0 ∨ k = 1 ∨ k = 2 := by omega
    rcases hcase with rfl | rfl | rfl
    · have hT10 : tenK 0 = 1 := by decide
      rw [hT10]
      have m1 : A * 1 * 1 ≤ 40000000000000000 := by omega
      have m2 : A * 1 * 1 / B ≤ 40000000000000000 := Nat.le_trans (Nat.div_le_self _ _) m1
      have d1 : (A : Int) / (B : Int) = ((A * 1 * 1 / B : Nat) : Int) := by rw [Nat.mul_one, Nat.mul_one]; rfl
      have d2 : (A : Int).tdiv (B : Int) = ((A * 1 * 1 / B : Nat) : Int) := by rw [Nat.mul_one, Nat.mul_one, divN]
      have HI := fun w => hgRootOf (A * 1 * 1 / B) w (by omega)
      have hr := isq_le (A * 1 * 1 / B)
      generalize isq (A * 1 * 1 / B) = r at HI hr ⊢
      have HJ := fun w => hgRatioOf r 1 w (by omega) (by omega) (by omega)
      generalize qn r 1 = u at HJ ⊢
      generalize qd r 1 = v at HJ ⊢
      generalize hM : A * 1 * 1 / B = M at HI d1 d2 m2
      clear hM hT10 hr
      go_enter Tryz.func33, Tryz.ntmps33
      go_wp2_with fail
      refine (hgCheckSquare _ _ _).mono ?_
      rintro e w3 ⟨rfl, hb3⟩
      go_wp2_with fail
      refine (hgCheckRange _ _ _ _).mono ?_
      rintro e w4 ⟨rfl, rfl⟩
      go_wp2_with fail
      refine (hgFirst2 _ _ _ _ 26 _ (by exact newBlk _ _)).mono ?_
      rintro e w4 ⟨rfl, rfl⟩
      rw [HE.out]
      obtain ⟨w4, hw4, hb4⟩ : ∃ w4, w3.alloc (.cells #[.int .i64 (sqH A B), .int .i64 (rngH 0 0 2)] 26) = w4 ∧ Below w3.heap.size w3 w4 := ⟨_, rfl, (Below.refl _ _).alloc (Nat.le_refl _) _⟩
      rw [hw4]
      obtain ⟨y0, y1, y2, -⟩ := (HT.out.below hb3).below hb4
      obtain ⟨x0, x1, -, -⟩ := cel2 (blkT (blkT (blkT k1 hb2) hb3) hb4)
      clear c0 c1 hw4 HE
      go_wp2_with fail
      refine (HI _).mono ?_
      rintro e w5 ⟨rfl, rfl⟩
      go_wp2_with fail
      refine (HJ _).mono ?_
      rintro e w6 ⟨rfl, hb6⟩
      have k6 := blkT (blkT (blkT k2 hb3) hb4) hb6
      obtain ⟨q0, q1, q2, q3⟩ := cel2 k6
      obtain ⟨s1, s2⟩ := set2 k6 (.int .i64 u) (.int .i64 v)
      obtain ⟨t0, t1, -, -⟩ := cel2 s1
      have hbw := tw (tw (tw (tw hb1 hb2) hb3) hb4) hb6
      have hbf := hbw.grown s2 hbw.size (fun j e => by cases e; exact hb1.size)
      go_wp2
      exact bodyPost_ret (v := .tuple #[.agg #[.int .i64 u, .int .i64 v], .int .i64 0]) (by simp [results, Tryz.results33, go_sem, t0, t1]) rfl ⟨rfl, hbf⟩
    · have hT10 : tenK 1 = 10 := by decide
      rw [hT10]
      have m1 : A * 10 * 10 ≤ 40000000000000000 := by omega
      have m2 : A * 10 * 10 / B ≤ 40000000000000000 := Nat.le_trans (Nat.div_le_self _ _) m1
      have d1 : ((A : Int) * 10 * 10) / (B : Int) = ((A * 10 * 10 / B : Nat) : Int) := by rw [Int.natCast_ediv]; push_cast; rfl
      have d2 : ((A : Int) * 10 * 10).tdiv (B : Int) = ((A * 10 * 10 / B : Nat) : Int) := by rw [← divN]; push_cast; rfl
      have HI := fun w => hgRootOf (A * 10 * 10 / B) w (by omega)
      have hr := isq_le (A * 10 * 10 / B)
      generalize isq (A * 10 * 10 / B) = r at HI hr ⊢
      have HJ := fun w => hgRatioOf r 10 w (by omega) (by omega) (by omega)
      generalize qn r 10 = u at HJ ⊢
      generalize qd r 10 = v at HJ ⊢
      generalize hM : A * 10 * 10 / B = M at HI d1 d2 m2
      clear hM hT10 hr
      go_enter Tryz.func33, Tryz.ntmps33
      go_wp2_with fail
      refine (hgCheckSquare _ _ _).mono ?_
      rintro e w3 ⟨rfl, hb3⟩
      go_wp2_with fail
      refine (hgCheckRange _ _ _ _).mono ?_
      rintro e w4 ⟨rfl, rfl⟩
      go_wp2_with fail
      refine (hgFirst2 _ _ _ _ 26 _ (by exact newBlk _ _)).mono ?_
      rintro e w4 ⟨rfl, rfl⟩
      rw [HE.out]
      obtain ⟨w4, hw4, hb4⟩ : ∃ w4, w3.alloc (.cells #[.int .i64 (sqH A B), .int .i64 (rngH 1 0 2)] 26) = w4 ∧ Below w3.heap.size w3 w4 := ⟨_, rfl, (Below.refl _ _).alloc (Nat.le_refl _) _⟩
      rw [hw4]
      obtain ⟨y0, y1, y2, -⟩ := (HT.out.below hb3).below hb4
      obtain ⟨x0, x1, -, -⟩ := cel2 (blkT (blkT (blkT k1 hb2) hb3) hb4)
      clear c0 c1 hw4 HE
      go_wp2_with fail
      refine (HI _).mono ?_
      rintro e w5 ⟨rfl, rfl⟩
      go_wp2_with fail
      refine (HJ _).mono ?_
      rintro e w6 ⟨rfl, hb6⟩
      have k6 := blkT (blkT (blkT k2 hb3) hb4) hb6
      obtain ⟨q0, q1, q2, q3⟩ := cel2 k6
      obtain ⟨s1, s2⟩ := set2 k6 (.int .i64 u) (.int .i64 v)
      obtain ⟨t0, t1, -, -⟩ := cel2 s1
      have hbw := tw (tw (tw (tw hb1 hb2) hb3) hb4) hb6
      have hbf := hbw.grown s2 hbw.size (fun j e => by cases e; exact hb1.size)
      go_wp2
      exact bodyPost_ret (v := .tuple #[.agg #[.int .i64 u, .int .i64 v], .int .i64 0]) (by simp [results, Tryz.results33, go_sem, t0, t1]) rfl ⟨rfl, hbf⟩
    · have hT10 : tenK 2 = 100 := by decide
      rw [hT10]
      have m1 : A * 100 * 100 ≤ 40000000000000000 := by omega
      have m2 : A * 100 * 100 / B ≤ 40000000000000000 := Nat.le_trans (Nat.div_le_self _ _) m1
      have d1 : ((A : Int) * 100 * 100) / (B : Int) = ((A * 100 * 100 / B : Nat) : Int) := by rw [Int.natCast_ediv]; push_cast; rfl
      have d2 : ((A : Int) * 100 * 100).tdiv (B : Int) = ((A * 100 * 100 / B : Nat) : Int) := by rw [← divN]; push_cast; rfl
      have HI := fun w => hgRootOf (A * 100 * 100 / B) w (by omega)
      have hr := isq_le (A * 100 * 100 / B)
      generalize isq (A * 100 * 100 / B) = r at HI hr ⊢
      have HJ := fun w => hgRatioOf r 100 w (by omega) (by omega) (by omega)
      generalize qn r 100 = u at HJ ⊢
      generalize qd r 100 = v at HJ ⊢
      generalize hM : A * 100 * 100 / B = M at HI d1 d2 m2
      clear hM hT10 hr
      go_enter Tryz.func33, Tryz.ntmps33
      go_wp2_with fail
      refine (hgCheckSquare _ _ _).mono ?_
      rintro e w3 ⟨rfl, hb3⟩
      go_wp2_with fail
      refine (hgCheckRange _ _ _ _).mono ?_
      rintro e w4 ⟨rfl, rfl⟩
      go_wp2_with fail
      refine (hgFirst2 _ _ _ _ 26 _ (by exact newBlk _ _)).mono ?_
      rintro e w4 ⟨rfl, rfl⟩
      rw [HE.out]
      obtain ⟨w4, hw4, hb4⟩ : ∃ w4, w3.alloc (.cells #[.int .i64 (sqH A B), .int .i64 (rngH 2 0 2)] 26) = w4 ∧ Below w3.heap.size w3 w4 := ⟨_, rfl, (Below.refl _ _).alloc (Nat.le_refl _) _⟩
      rw [hw4]
      obtain ⟨y0, y1, y2, -⟩ := (HT.out.below hb3).below hb4
      obtain ⟨x0, x1, -, -⟩ := cel2 (blkT (blkT (blkT k1 hb2) hb3) hb4)
      clear c0 c1 hw4 HE
      go_wp2_with fail
      refine (HI _).mono ?_
      rintro e w5 ⟨rfl, rfl⟩
      go_wp2_with fail
      refine (HJ _).mono ?_
      rintro e w6 ⟨rfl, hb6⟩
      have k6 := blkT (blkT (blkT k2 hb3) hb4) hb6
      obtain ⟨q0, q1, q2, q3⟩ := cel2 k6
      obtain ⟨s1, s2⟩ := set2 k6 (.int .i64 u) (.int .i64 v)
      obtain ⟨t0, t1, -, -⟩ := cel2 s1
      have hbw := tw (tw (tw (tw hb1 hb2) hb3) hb4) hb6
      have hbf := hbw.grown s2 hbw.size (fun j e => by cases e; exact hb1.size)
      go_wp2
      exact bodyPost_ret (v := .tuple #[.agg #[.int .i64 u, .int .i64 v], .int .i64 0]) (by simp [results, Tryz.results33, go_sem, t0, t1]) rfl ⟨rfl, hbf⟩
  · rw [ozE hz, ozE hz]
    generalize rootE a b k = E at HE hz ⊢
    have hne := nzH hz
    clear hz
    go_enter Tryz.func33, Tryz.ntmps33
    go_wp2_with fail
    refine (hgCheckSquare _ _ _).mono ?_
    rintro e w3 ⟨rfl, hb3⟩
    go_wp2_with fail
    refine (hgCheckRange _ _ _ _).mono ?_
    rintro e w4 ⟨rfl, rfl⟩
    go_wp2_with fail
    refine (hgFirst2 _ _ _ _ 26 _ (by exact newBlk _ _)).mono ?_
    rintro e w4 ⟨rfl, rfl⟩
    rw [HE.out]
    obtain ⟨w4, hw4, hb4⟩ : ∃ w4, w3.alloc (.cells #[.int .i64 (sqH a b), .int .i64 (rngH k 0 2)] 26) = w4 ∧ Below w3.heap.size w3 w4 := ⟨_, rfl, (Below.refl _ _).alloc (Nat.le_refl _) _⟩
    rw [hw4]
    have k4 := blkT (blkT k2 hb3) hb4
    obtain ⟨q0, q1, q2, q3⟩ := cel2 k4
    obtain ⟨s1, s2⟩ := set2 k4 (.int .i64 0) (.int .i64 0)
    obtain ⟨t0, t1, -, -⟩ := cel2 s1
    have hbw := tw (tw (tw hb1 hb2) hb3) hb4
    have hbf := hbw.grown s2 hbw.size (fun j e => by cases e; exact hb1.size)
    clear hw4
    go_wp2
    exact bodyPost_ret (v := .tuple #[.agg #[.int .i64 0, .int .i64 0], .int .i64 E]) (by simp [results, Tryz.results33, go_sem, t0, t1]) rfl ⟨rfl, hbf⟩
end Go.Proofs.YtlkeejhaodedmaaGreatDoor

/- Lists of small structs in memory: what it means that a slice reads as a list, and that this is kept. -/
namespace Go.Proofs.YtlkeejhaodedmaaGreatDoor
open Go.RowKit

/-- The slice at A reads as the list l (elements of k cells each), below block B. -/
def RV {α : Type} (enc : α → List Value) (k : Nat) (w : World) (B : Nat) (A : Option Addr) (l : List α) : Prop :=
  0 < l.length → ∃ b off, A = some ⟨b, off, none⟩ ∧ b < B ∧ ∀ i (h : i < l.length) j u, (enc l[i])[j]? = some u → w.cell? ⟨b, off + i * k + j, none⟩ = some u
section
variable {α : Type} {enc : α → List Value} {k : Nat}
theorem RV.below {w w' : World} {B : Nat} {A : Option Addr} {l : List α} (h : RV enc k w B A l) (hb : Below B w w') : RV enc k w' B A l := fun hl => by
  obtain ⟨b, off, rfl, hB, hc⟩ := h hl
  exact ⟨b, off, rfl, hB, fun i hi j u hu => (hb.cell (p := ⟨b, _, none⟩) hB).trans (hc i hi j u hu)⟩
theorem RV.more {w : World} {B B' : Nat} {A : Option Addr} {l : List α} (h : RV enc k w B A l) (hB : B ≤ B') : RV enc k w B' A l := fun hl => by
  obtain ⟨b, off, h1, h2, hc⟩ := h hl
  exact ⟨b, off, h1, by omega, hc⟩
theorem RV.nil (w : World) (B : Nat) (A : Option Addr) : RV enc k w B A [] := fun h => by simp at h
theorem RV.to {w w' : World} {A : Option Addr} {l : List α} (h : RV enc k w w.heap.size A l) (hb : Below w.heap.size w w') : RV enc k w' w'.heap.size A l := (h.below hb).more hb.size
theorem RV.take {w : World} {B : Nat} {A : Option Addr} {l : List α} (h : RV enc k w B A l) (n : Nat) : RV enc k w B A (l.take n) := fun hl => by
  obtain ⟨b, off, h1, h2, hc⟩ := h (by rw [List.length_take] at hl; omega)
  refine ⟨b, off, h1, h2, fun i hi j u hu => ?_⟩
  rw [List.length_take] at hi
  rw [List.getElem_take] at hu
  exact hc i (by omega) j u hu
/-- The slice reads so; a nil one has no room. -/
def OKV (enc : α → List Value) (k : Nat) (w : World) (A : Option Addr) (c : Nat) (l : List α) : Prop := l.length ≤ c ∧ c ≤ maxLen ∧ (A = none → c = 0) ∧ RV enc k w w.heap.size A l
theorem OKV.below {w w' : World} {A : Option Addr} {c : Nat} {l : List α} (h : OKV enc k w A c l) (hb : Below w.heap.size w w') : OKV enc k w' A c l := ⟨h.1, h.2.1, h.2.2.1, h.2.2.2.to hb⟩
theorem add0H (g i : Nat) : (⟨g, 0, none⟩ : Addr).add i = ⟨g, i, none⟩ := by
  unfold Addr.add
  split
  · rename_i h; rw [h]
  · simp
theorem flatMap_at (hk : ∀ x, (enc x).length = k) (l : List α) : ∀ (i : Nat) (h : i < l.length) (j : Nat) (u : Value), (enc l[i])[j]? = some u → (l.flatMap enc)[i * k + j]? = some u := by
  induction l with
  | nil => intro i h; simp at h
  | cons a r ih =>
    intro i h j u hu
    rw [List.flatMap_cons]
    cases i with
    | zero =>
      have hj : j < (enc a).length := (List.getElem?_eq_some_iff.1 hu).1
      rw [Nat.zero_mul, Nat.zero_add, List.getElem?_append_left hj]
      exact hu
    | succ i =>
      have e : (i + 1) * k + j = (enc a).length + (i * k + j) := by rw [hk, Nat.add_mul]; omega
      rw [e, List.getElem?_append_right (by omega), Nat.add_sub_cancel_left]
      exact ih i (by simpa using h) j u (by simpa using hu)
theorem flatMap_len (hk : ∀ x, (enc x).length = k) (l : List α) : (l.flatMap enc).length = l.length * k := by
  induction l with
  | nil => simp
  | cons a r ih => rw [List.flatMap_cons, List.length_append, hk, ih, List.length_cons, Nat.add_mul]; omega
/-- A row of the call's own reads as its list. -/
theorem OKV.own (hk : ∀ x, (enc x).length = k) {w : World} {base : Nat} {t : TypeId} {v : Value} {l : List α} (h : w.ownsRow base t k v l.length (l.flatMap enc)) : ∃ a c, v = .slice a l.length c ∧ OKV enc k w a c l := by
  rcases h.2 with ⟨rfl, hz⟩ | ⟨g, cap, cur, rfl, _, hgb, h1, h2, _⟩
  · have : l = [] := List.eq_nil_of_length_eq_zero hz
    subst this
    exact ⟨none, 0, rfl, Nat.zero_le _, by unfold maxLen; omega, fun _ => rfl, RV.nil _ _ _⟩
  · refine ⟨_, _, rfl, h1, h2, (fun e => by cases e), fun _ => ⟨g, 0, rfl, (Array.getElem?_eq_some_iff.1 hgb).1, fun i hi j u hu => ?_⟩⟩
    have hc := h.cells (g := g) rfl
    have := hc _ _ (flatMap_at hk l i hi j u hu)
    rw [add0H] at this
    rw [Nat.zero_add]
    exact this
/-- A block whose cells are the list's reads as the list. -/
theorem OKV.blk (hk : ∀ x, (enc x).length = k) {w : World} {g : Nat} {cs : Array Value} {t : TypeId} {l : List α} (h : w.heap[g]? = some (.cells cs t (0, 0))) (hl : cs.toList = l.flatMap enc) (hn : l.length ≤ 100000) : OKV enc k w (some ⟨g, 0, none⟩) l.length l :=
  ⟨Nat.le_refl _, by unfold maxLen; omega, (fun e => by cases e), fun _ => ⟨g, 0, rfl, (Array.getElem?_eq_some_iff.1 h).1, fun i hi j u hu => by
    have e := flatMap_at hk l i hi j u hu
    rw [← hl] at e
    rw [Nat.zero_add]
    simp [World.cell?, h]
    simpa using e⟩⟩
end
theorem ownTo {w w' : World} {base : Nat} {e : TypeId} {size n : Nat} {v : Value} {xs : List Value} (h : w.ownsRow base e size v n xs) (hb : Below w.heap.size w w') : w'.ownsRow base e size v n xs := by
  refine ⟨h.1, ?_⟩
  rcases h.2 with h2 | ⟨g, cap, cur, h1, h2, h3, h4⟩
  · exact .inl h2
  · exact .inr ⟨g, cap, cur, h1, h2, blkT h3 hb, h4⟩

/-! ### the elements of chapter 6 -/
structure Sec where
  m : Int
  n : Int
  d : Int
structure Twn where
  s : ByteArray
  x : Int
  h : Int
structure Lin where
  b : Int
  k : Int
  r : Int
  s : ByteArray
structure Sm where
  l : Int
  w : Int
  a : Int
structure Rt where
  n : Int
  d : Int
def Sec.c (s : Sec) : List Value := [.int .i64 s.m, .int .i64 s.n, .int .i64 s.d]
def Twn.c (t : Twn) : List Value := [.string t.s, .int .i64 t.x, .int .i64 t.h]
def Lin.c (x : Lin) : List Value := [.int .i64 x.b, .int .i64 x.k, .int .i64 x.r, .string x.s]
def Sm.c (s : Sm) : List Value := [.int .i64 s.l, .int .i64 s.w, .int .i64 s.a]
def Rt.c (r : Rt) : List Value := [.int .i64 r.n, .int .i64 r.d]
def ic (n : Int) : List Value := [.int .i64 n]
theorem Sec.c3 (s : Sec) : s.c.length = 3 := rfl
theorem Twn.c3 (s : Twn) : s.c.length = 3 := rfl
theorem Lin.c4 (s : Lin) : s.c.length = 4 := rfl
theorem Sm.c3 (s : Sm) : s.c.length = 3 := rfl
theorem Rt.c2 (s : Rt) : s.c.length = 2 := rfl
theorem ic1 (n : Int) : (ic n).length = 1 := rfl
theorem at1 {w : World} {A : Option Addr} {l : List Int} (h : RV ic 1 w w.heap.size A l) {i : Nat} (hi : i < l.length) : ∃ b off, A = some ⟨b, off, none⟩ ∧ b < w.heap.size ∧ w.cell? ⟨b, off + i, none⟩ = some (.int .i64 l[i]) := by
  obtain ⟨b, off, rfl, hB, hc⟩ := h (by omega)
  exact ⟨b, off, rfl, hB, by simpa using hc i hi 0 _ rfl⟩
theorem at2 {w : World} {A : Option Addr} {l : List Rt} (h : RV Rt.c 2 w w.heap.size A l) {i : Nat} (hi : i < l.length) : ∃ b off, A = some ⟨b, off, none⟩ ∧ b < w.heap.size ∧ w.cell? ⟨b, off + i * 2, none⟩ = some (.int .i64 l[i].n) ∧ w.cell? ⟨b, off + i * 2 + 1, none⟩ = some (.int .i64 l[i].d) := by
  obtain ⟨b, off, rfl, hB, hc⟩ := h (by omega)
  exact ⟨b, off, rfl, hB, hc i hi 0 _ rfl, hc i hi 1 _ rfl⟩
theorem atS {w : World} {A : Option Addr} {l : List Sec} (h : RV Sec.c 3 w w.heap.size A l) {i : Nat} (hi : i < l.length) : ∃ b off, A = some ⟨b, off, none⟩ ∧ b < w.heap.size ∧ w.cell? ⟨b, off + i * 3, none⟩ = some (.int .i64 l[i].m) ∧ w.cell? ⟨b, off + i * 3 + 1, none⟩ = some (.int .i64 l[i].n) ∧ w.cell? ⟨b, off + i * 3 + 2, none⟩ = some (.int .i64 l[i].d) := by
  obtain ⟨b, off, rfl, hB, hc⟩ := h (by omega)
  exact ⟨b, off, rfl, hB, hc i hi 0 _ rfl, hc i hi 1 _ rfl, hc i hi 2 _ rfl⟩
theorem atT {w : World} {A : Option Addr} {l : List Twn} (h : RV Twn.c 3 w w.heap.size A l) {i : Nat} (hi : i < l.length) : ∃ b off, A = some ⟨b, off, none⟩ ∧ b < w.heap.size ∧ w.cell? ⟨b, off + i * 3, none⟩ = some (.string l[i].s) ∧ w.cell? ⟨b, off + i * 3 + 1, none⟩ = some (.int .i64 l[i].x) ∧ w.cell? ⟨b, off + i * 3 + 2, none⟩ = some (.int .i64 l[i].h) := by
  obtain ⟨b, off, rfl, hB, hc⟩ := h (by omega)
  exact ⟨b, off, rfl, hB, hc i hi 0 _ rfl, hc i hi 1 _ rfl, hc i hi 2 _ rfl⟩
theorem atM {w : World} {A : Option Addr} {l : List Sm} (h : RV Sm.c 3 w w.heap.size A l) {i : Nat} (hi : i < l.length) : ∃ b off, A = some ⟨b, off, none⟩ ∧ b < w.heap.size ∧ w.cell? ⟨b, off + i * 3, none⟩ = some (.int .i64 l[i].l) ∧ w.cell? ⟨b, off + i * 3 + 1, none⟩ = some (.int .i64 l[i].w) ∧ w.cell? ⟨b, off + i * 3 + 2, none⟩ = some (.int .i64 l[i].a) := by
  obtain ⟨b, off, rfl, hB, hc⟩ := h (by omega)
  exact ⟨b, off, rfl, hB, hc i hi 0 _ rfl, hc i hi 1 _ rfl, hc i hi 2 _ rfl⟩
theorem atL {w : World} {A : Option Addr} {l : List Lin} (h : RV Lin.c 4 w w.heap.size A l) {i : Nat} (hi : i < l.length) : ∃ b off, A = some ⟨b, off, none⟩ ∧ b < w.heap.size ∧ w.cell? ⟨b, off + i * 4, none⟩ = some (.int .i64 l[i].b) ∧ w.cell? ⟨b, off + i * 4 + 1, none⟩ = some (.int .i64 l[i].k) ∧ w.cell? ⟨b, off + i * 4 + 2, none⟩ = some (.int .i64 l[i].r) ∧ w.cell? ⟨b, off + i * 4 + 3, none⟩ = some (.string l[i].s) := by
  obtain ⟨b, off, rfl, hB, hc⟩ := h (by omega)
  exact ⟨b, off, rfl, hB, hc i hi 0 _ rfl, hc i hi 1 _ rfl, hc i hi 2 _ rfl, hc i hi 3 _ rfl⟩
/-- The first error of a list, each element with those before it. -/
def lstE {α : Type} (f : List α → α → Int) : List α → List α → Int
  | _, [] => 0
  | bf, x :: r => if f bf x = 0 then lstE f (bf ++ [x]) r else f bf x
theorem lstE_step {α : Type} (f : List α → α → Int) (l : List α) {k : Nat} (h : k < l.length) : lstE f (l.take k) (l.drop k) = if f (l.take k) l[k] = 0 then lstE f (l.take (k + 1)) (l.drop (k + 1)) else f (l.take k) l[k] := by
  rw [List.drop_eq_getElem_cons h, lstE, List.take_succ_eq_append_getElem h]
theorem lstE_end {α : Type} (f : List α → α → Int) (l : List α) : lstE f (l.take l.length) (l.drop l.length) = 0 := by
  rw [List.drop_length, lstE]
theorem lstE_zero {α : Type} (f : List α → α → Int) : ∀ (r bf : List α), lstE f bf r = 0 → ∀ i (h : i < r.length), f (bf ++ r.take i) r[i] = 0
  | [], _, _, i, h => by simp at h
  | x :: r, bf, hz, i, h => by
    rw [lstE] at hz
    split at hz
    · rename_i hx
      cases i with
      | zero => simpa using hx
      | succ i =>
        have := lstE_zero f r (bf ++ [x]) hz i (by simpa using h)
        simpa using this
    · contradiction
end Go.Proofs.YtlkeejhaodedmaaGreatDoor

/- hang: the checks of sections and ropes. -/
namespace Go.Proofs.YtlkeejhaodedmaaGreatDoor
open Go.RowKit

theorem keepC3 {W w1 w2 : World} {g : Nat} {x y z : Value} (k : w1.cell? ⟨g, 0, none⟩ = some x ∧ w1.cell? ⟨g, 1, none⟩ = some y ∧ w1.cell? ⟨g, 2, none⟩ = some z ∧ Below W.heap.size W w1 ∧ g < w1.heap.size) (hb : Below w1.heap.size w1 w2) :
    w2.cell? ⟨g, 0, none⟩ = some x ∧ w2.cell? ⟨g, 1, none⟩ = some y ∧ w2.cell? ⟨g, 2, none⟩ = some z ∧ Below W.heap.size W w2 ∧ g < w2.heap.size := by
  obtain ⟨h0, h1, h2, h4, h5⟩ := k
  have := hb.size
  exact ⟨(hb.cell (p := ⟨g, 0, none⟩) h5).trans h0, (hb.cell (p := ⟨g, 1, none⟩) h5).trans h1, (hb.cell (p := ⟨g, 2, none⟩) h5).trans h2, tw h4 hb, by omega⟩
def secE (s : Sec) : Int := fstE [rngH s.m 1 300, ratH s.n s.d]
set_option maxHeartbeats 2000000 in
set_option maxRecDepth 100000 in
theorem hgSecF (v : Value) (s : Sec) (w : World) :
    Calls Tryz.prog 143 #[v, .agg #[.int .i64 s.m, .int .i64 s.n, .int .i64 s.d]] w fun e w' => e = .returned (.int .i64 (secE s)) ∧ Below w.heap.size w w' := by
  obtain ⟨m, n, d⟩ := s
  simp only []
  obtain ⟨w1, hw1, k1, hb1, hz1⟩ := boxS w (.cells #[.int .i64 m, .int .i64 n, .int .i64 d] 131)
  obtain ⟨c0, c1, c2, -, -, -⟩ := cel3 k1
  have HE := Lib.hid (show fstE [rngH m 1 300, ratH n d] = secE ⟨m, n, d⟩ from rfl)
  generalize secE ⟨m, n, d⟩ = E at HE ⊢
  clear k1
  go_enter Tryz.func143, Tryz.ntmps143
  go_wp2_with fail
  go_region_held3 (fun w' => w'.cell? ⟨w.heap.size, 0, none⟩ = some (.int .i64 m) ∧ w'.cell? ⟨w.heap.size, 1, none⟩ = some (.int .i64 n) ∧ w'.cell? ⟨w.heap.size, 2, none⟩ = some (.int .i64 d) ∧ Below w.heap.size w w' ∧ w.heap.size < w'.heap.size)
    (first | exact ⟨c0, c1, c2, hb1, hz1⟩ | exact ⟨c0, c1, c2, below_drew hb1, hz1⟩ | exact keepC3 (by assumption) (by assumption) | exact keepC3 (by assumption) ((Below.refl _ _).alloc (Nat.le_refl _) _) | assumption | exact keepC3 (by assumption) (below_drew (Below.refl _ _)) | go_keep)
    (first
      | (go_at_call 78; refine (hgCheckMeshes _ _).mono ?_; rintro e w' ⟨rfl, rfl⟩)
      | (go_at_call 19; refine (hgCheckRatio _ _ _).mono ?_; rintro e w' ⟨rfl, hb⟩)
      | (go_at_call 72; refine (hgFirst2 _ _ _ _ 26 _ (by exact newBlk _ _)).mono ?_; rintro e w' ⟨rfl, rfl⟩))
  all_goals
    rename_i hH
    rw [HE.out]
    go_wp2
    go_ret
    exact ⟨rfl, hH.2.2.2.1⟩
set_option maxHeartbeats 2000000 in
set_option maxRecDepth 100000 in
theorem hgListS (A : Option Addr) (c : Nat) (l : List Sec) (w : World) (hl : l.length ≤ 1000) (hA : OKV Sec.c 3 w A c l) :
    Calls Tryz.prog 142 #[.slice A l.length c, .int .i64 32, .func (.func 143) #[] #[]] w fun e w' => e = .returned (.int .i64 (if 32 < l.length then 5 else lstE (fun _ s => secE s) [] l)) ∧ Below w.heap.size w w' := by
  have hlc := hA.1
  have hcm := hA.2.1
  unfold maxLen at hcm
  by_cases hm : 32 < l.length
  · rw [if_pos hm]
    have hmi : (32 : Int) < (l.length : Int) := by omega
    clear hm
    go_enter Tryz.func142, Tryz.ntmps142
    go_wp2
    go_ret
    exact ⟨rfl, Below.refl _ _⟩
  · rw [if_neg hm]
    have hmi : ¬ (32 : Int) < (l.length : Int) := by omega
    have HR := Lib.hid hA.2.2.2
    obtain ⟨E, hE⟩ : ∃ E, lstE (fun _ s => secE s) [] l = E := ⟨_, rfl⟩
    have H0 := Lib.hid (show lstE (fun _ s => secE s) (l.take 0) (l.drop 0) = E from hE)
    rw [hE]
    clear hE hA
    go_enter Tryz.func142, Tryz.ntmps142
    go_wp2_with fail
    go_loopw [16] (fun i wr => ∃ k : Nat, k ≤ l.length ∧ i = .int .i64 k ∧ Hid (lstE (fun _ s => secE s) (l.take k) (l.drop k) = E) ∧ Below w.heap.size w wr) (fun i _ => l.length - (intOf i).toNat)
    case atStart => exact ⟨0, Nat.zero_le _, rfl, H0, Below.refl _ _⟩
    case round =>
      obtain ⟨k, hk, rfl, HC, hb⟩ := hrel
      by_cases hlt : k < l.length
      · have hki : (k : Int) < (l.length : Int) := by omega
        have hk0 : (0 : Int) ≤ (k : Int) := by omega
        have hkc : (k : Int) ≤ (c : Int) := by omega
        have hrv := HR.out.to hb
        obtain ⟨b, off, rfl, hB, c0, c1, c2⟩ := atS hrv hlt
        have HC2 := Lib.hid (show (if secE l[k] = 0 then lstE (fun _ s => secE s) (l.take (k + 1)) (l.drop (k + 1)) else secE l[k]) = E from (lstE_step (fun _ s => secE s) l hlt).symm.trans HC.out)
        generalize l[k] = s at c0 c1 c2 HC2
        obtain ⟨w1, hw1, k1, hb1, hz1⟩ := boxS wr (.cells #[.int .i64 s.m, .int .i64 s.n, .int .i64 s.d] 131)
        obtain ⟨d0, d1, d2, -, -, -⟩ := cel3 k1
        have B1 := tw hb hb1
        clear hrv HC k1
        go_wp2_with fail
        refine wp_region_still_tail 5 (by kernel_rfl) (by kernel_rfl) ?_
        simp only [List.take_succ_cons, List.take_zero, List.drop_succ_cons, List.drop_zero]
        still_step
        still_step
        still_step
        still_step
        still_step
        refine wpStill_nil ?_
        change wpList _ _ _ _ _ w1.drew
        have B1d : Below w.heap.size w w1.drew := below_drew B1
        generalize World.drew w1 = w2 at *
        go_wp2_with fail
        refine (hgSecF _ s _).mono ?_
        rintro e w3 ⟨rfl, hb3⟩
        have B3 := tw B1d hb3
        by_cases hz : secE s = 0
        · have HC3 := Lib.hid (show lstE (fun _ s => secE s) (l.take (k + 1)) (l.drop (k + 1)) = E by rw [← HC2.out, if_pos hz])
          rw [hz]
          clear hz
          go_wp2
          go_roundw
          case rel => exact ⟨k + 1, by omega, by go_num, HC3, B3⟩
          case measure => simp [intOf]; omega
        · have HC3 := Lib.hid (show secE s = E by rw [← HC2.out, if_neg hz])
          have hne := nzH hz
          clear hz
          go_wp2
          go_ret
          exact ⟨ret_i HC3.out, B3⟩
      · obtain rfl : k = l.length := by omega
        have HE := Lib.hid (show (0 : Int) = E by rw [← HC.out, lstE_end])
        clear HC
        go_wp2
        go_ret
        exact ⟨ret_i HE.out, hb⟩
/-- The error of sections. -/
def secsE (l : List Sec) : Int := if l.length = 0 then 12 else if 32 < l.length then 5 else lstE (fun _ s => secE s) [] l
theorem secsE_zero {l : List Sec} (h : secsE l = 0) : 1 ≤ l.length ∧ l.length ≤ 32 ∧ ∀ i (hi : i < l.length), ∃ M P D : Nat, l[i].m = M ∧ l[i].n = P ∧ l[i].d = D ∧ 1 ≤ M ∧ M ≤ 300 ∧ 1 ≤ P ∧ P ≤ D ∧ D ≤ 30 ∧ P.gcd D = 1 := by
  unfold secsE at h
  split at h
  · cases h
  · split at h
    · cases h
    · refine ⟨by omega, by omega, fun i hi => ?_⟩
      have := lstE_zero _ l [] h i hi
      obtain ⟨h1, h2⟩ := fst2_zero this
      have b1 := rngH_zero h1
      obtain ⟨P, D, e1, e2, r⟩ := ratH_zero h2
      exact ⟨l[i].m.toNat, P, D, by omega, e1, e2, by omega, by omega, r⟩
set_option maxHeartbeats 2000000 in
set_option maxRecDepth 100000 in
theorem hgSections (A : Option Addr) (c : Nat) (l : List Sec) (w : World) (hl : l.length ≤ 1000) (hA : OKV Sec.c 3 w A c l) :
    Calls Tryz.prog 126 #[.slice A l.length c] w fun e w' => e = .returned (.int .i64 (secsE l)) ∧ Below w.heap.size w w' := by
  by_cases h0 : l.length = 0
  · have HE := Lib.hid (show (12 : Int) = secsE l by rw [secsE, if_pos h0])
    have h0b : ((l.length : Int) == 0) = true := by rw [h0]; rfl
    rw [h0]
    go_enter Tryz.func126, Tryz.ntmps126
    go_wp2
    go_ret
    exact ⟨ret_i HE.out, Below.refl _ _⟩
  · have HE := Lib.hid (show (if 32 < l.length then 5 else lstE (fun _ s => secE s) [] l) = secsE l by rw [secsE, if_neg h0])
    have h0b : ((l.length : Int) == 0) = false := by rw [beq_eq_false_iff_ne]; omega
    have HL := fun w h => hgListS A c l w hl h
    rw [HE.out] at HL
    clear h0
    go_enter Tryz.func126, Tryz.ntmps126
    go_wp2_with fail
    refine (HL _ hA).mono ?_
    rintro e w1 ⟨rfl, hb1⟩
    go_wp2
    go_ret
    exact ⟨rfl, hb1⟩
def ropE (l : List Sec) (b : Int) : Int := fstE [secsE l, rngH b 1 100]
set_option maxHeartbeats 2000000 in
set_option maxRecDepth 100000 in
theorem hgCheckRope (A : Option Addr) (c : Nat) (l : List Sec) (b : Int) (w : World) (hl : l.length ≤ 1000) (hA : OKV Sec.c 3 w A c l) :
    Calls Tryz.prog 90 #[.slice A l.length c, .int .i64 b] w fun e w' => e = .returned (.int .i64 (ropE l b)) ∧ Below w.heap.size w w' := by
  have HE := Lib.hid (show fstE [secsE l, rngH b 1 100] = ropE l b from rfl)
  go_enter Tryz.func90, Tryz.ntmps90
  go_wp2_with fail
  refine (hgSections A c l _ hl hA).mono ?_
  rintro e w1 ⟨rfl, hb1⟩
  go_wp2_with fail
  refine (hgCheckBar _ _).mono ?_
  rintro e w2 ⟨rfl, rfl⟩
  go_wp2_with fail
  refine (hgFirst2 _ _ _ _ 26 _ (by exact newBlk _ _)).mono ?_
  rintro e w2 ⟨rfl, rfl⟩
  rw [HE.out]
  go_wp2
  go_ret
  exact ⟨rfl, hb1.alloc hb1.size _⟩
/-- How many meshes sections have together. -/
def totM : List Sec → Nat
  | [] => 0
  | s :: r => s.m.toNat + totM r
theorem totM_snoc (l : List Sec) {k : Nat} (h : k < l.length) : totM (l.take (k + 1)) = totM (l.take k) + l[k].m.toNat := by
  rw [List.take_succ_eq_append_getElem h]
  generalize l.take k = r
  induction r with
  | nil => simp [totM]
  | cons a r ih => simp only [List.cons_append, totM, ih]; omega
theorem totM_le {l : List Sec} (h : ∀ i (hi : i < l.length), l[i].m ≤ 300) : totM l ≤ l.length * 300 := by
  induction l with
  | nil => simp [totM]
  | cons a r ih =>
    have h1 : a.m ≤ 300 := h 0 (by rw [List.length_cons]; omega)
    have h2 := ih fun i hi => by
      have h3 := h (i + 1) (by rw [List.length_cons]; omega)
      rwa [List.getElem_cons_succ] at h3
    simp only [totM, List.length_cons, Nat.add_mul]
    omega
set_option maxHeartbeats 2000000 in
set_option maxRecDepth 100000 in
theorem hgMeshesOf (A : Option Addr) (c : Nat) (l : List Sec) (w : World) (hl : l.length ≤ 32) (hs : ∀ i (hi : i < l.length), 0 ≤ l[i].m ∧ l[i].m ≤ 300) (hA : OKV Sec.c 3 w A c l) :
    Calls Tryz.prog 128 #[.slice A l.length c] w fun e w' => e = .returned (.int .i64 (totM l)) ∧ Below w.heap.size w w' := by
  have HR := Lib.hid hA.2.2.2
  have HS := Lib.hid hs
  have HT := Lib.hid (show totM (l.take l.length) = totM l by rw [List.take_length])
  generalize totM l = T at HT ⊢
  clear hA hs
  go_enter Tryz.func128, Tryz.ntmps128
  go_wp2_with fail
  go_loopw [3, 8] (fun s i wr => ∃ k t : Nat, k ≤ l.length ∧ i = .int .i64 k ∧ s = .int .i64 t ∧ t ≤ k * 300 ∧ Hid (totM (l.take k) = t) ∧ Below w.heap.size w wr) (fun _ i _ => l.length - (intOf i).toNat)
  case atStart => exact ⟨0, 0, Nat.zero_le _, rfl, rfl, Nat.le_refl _, Lib.hid (by simp [totM]), Below.refl _ _⟩
  case round =>
    obtain ⟨k, t, hk, rfl, rfl, ht, HC, hb⟩ := hrel
    by_cases hlt : k < l.length
    · have hki : (k : Int) < (l.length : Int) := by omega
      have hk0 : (0 : Int) ≤ (k : Int) := by omega
      have hrv := HR.out.to hb
      obtain ⟨b, off, rfl, hB, c0, c1, c2⟩ := atS hrv hlt
      obtain ⟨s0, s1⟩ := HS.out k hlt
      have HC2 := Lib.hid ((totM_snoc l hlt).trans (by rw [HC.out]))
      generalize l[k] = s at c0 c1 c2 HC2 s0 s1
      obtain ⟨m, n, d⟩ := s
      simp only [] at c0 c1 c2 s0 s1
      obtain ⟨M, rfl⟩ : ∃ M : Nat, m = (M : Int) := ⟨m.toNat, by omega⟩
      have HC3 := Lib.hid (show totM (l.take (k + 1)) = t + M from HC2.out)
      obtain ⟨w1, hw1, k1, hb1, hz1⟩ := boxS wr (.cells #[.int .i64 (M : Int), .int .i64 n, .int .i64 d] 131)
      obtain ⟨d0, d1, d2, -, -, -⟩ := cel3 k1
      have B1 := tw hb hb1
      clear hrv HC k1 HC2
      go_wp2
      go_roundw
      case rel => exact ⟨k + 1, t + M, by omega, by go_num, by go_num, by omega, HC3, B1⟩
      case measure => simp [intOf]; omega
    · obtain rfl : k = l.length := by omega
      have HE := Lib.hid (show t = T by rw [← HC.out, HT.out])
      clear HC
      go_wp2
      go_ret
      exact ⟨ret_i (by rw [HE.out]), hb⟩
end Go.Proofs.YtlkeejhaodedmaaGreatDoor

/- hang: marks, ties, lists that are transformed. -/
namespace Go.Proofs.YtlkeejhaodedmaaGreatDoor
open Go.RowKit

theorem infoHI : (Tryz.prog.info? 3).map (fun i => (i.zero, i.size, i.bytes)) = some (some (.int .i64 0), 1, 8) := by kernel_rfl
theorem infoHR : (Tryz.prog.info? 23).map (fun i => (i.zero, i.size, i.bytes)) = some (some (.agg #[.int .i64 0, .int .i64 0]), 2, 16) := by kernel_rfl
theorem newsH (w : World) (cs : Array Value) (t : TypeId) : ∀ (j : Nat) (u : Value), cs.toList[j]? = some u → (w.alloc (.cells cs t)).cell? ((⟨w.heap.size, 0, none⟩ : Addr).add j) = some u :=
  World.news_of_block (heap_alloc_new _ _)
theorem baseOf {w : World} {base : Nat} {e : TypeId} {size n : Nat} {v : Value} {xs : List Value} (h : w.ownsRow base e size v n xs) : ∀ g, v.ownBlock = some g → base ≤ g := by
  intro g hg
  rcases h.2 with ⟨rfl, _⟩ | ⟨g', cap, cur, rfl, hb, _⟩
  · cases hg
  · cases hg; exact hb
theorem OKV.ownN {α : Type} {enc : α → List Value} {k : Nat} (hk : ∀ x, (enc x).length = k) {w : World} {base n : Nat} {t : TypeId} {v : Value} {l : List α} (h : w.ownsRow base t k v n (l.flatMap enc)) (hn : l.length = n) : ∃ a c, v = .slice a n c ∧ OKV enc k w a c l := by
  subst hn
  exact OKV.own hk h
/-- A list of the call's own, and nothing else has changed. -/
def RowP {α : Type} (enc : α → List Value) (k : Nat) (T : TypeId) (l : List α) (w : World) (e : Ending) (w' : World) : Prop :=
  ∃ v, e = .returned v ∧ w'.ownsRow w.heap.size T k v l.length (l.flatMap enc) ∧ Below w.heap.size w w'
/-- A list and an error. -/
def ListP {α : Type} (enc : α → List Value) (k : Nat) (l : List α) (E : Int) (w : World) (e : Ending) (w' : World) : Prop :=
  ∃ a c, e = .returned (.tuple #[.slice a l.length c, .int .i64 E]) ∧ OKV enc k w' a c l ∧ Below w.heap.size w w'
/-- A list alone. -/
def SliP {α : Type} (enc : α → List Value) (k : Nat) (l : List α) (w : World) (e : Ending) (w' : World) : Prop :=
  ∃ a c, e = .returned (.slice a l.length c) ∧ OKV enc k w' a c l ∧ Below w.heap.size w w'
theorem OKV.none {α : Type} (enc : α → List Value) (k : Nat) (w : World) : OKV enc k w none 0 [] := ⟨Nat.le_refl _, by unfold maxLen; omega, fun _ => rfl, RV.nil _ _ _⟩
set_option maxHeartbeats 1000000 in
set_option maxRecDepth 100000 in
theorem hgMarkAt (n : Nat) (w : World) (hn : n ≤ 9000000000000000000) :
    Calls Tryz.prog 92 #[.int .i64 n] w fun e w' => e = .returned (.agg #[.int .i64 (qn n 2329089562800), .int .i64 (qd n 2329089562800)]) ∧ Below w.heap.size w w' := by
  have HQ := fun w => hgRatioOf n 2329089562800 w hn (by omega) (by omega)
  generalize qn n 2329089562800 = u at HQ ⊢
  generalize qd n 2329089562800 = v at HQ ⊢
  obtain ⟨w1, hw1, k1, hb1, hz1⟩ := boxS w (.cells #[.int .i64 0, .int .i64 0] 23)
  go_enter Tryz.func92, Tryz.ntmps92
  go_wp2_with fail
  refine (HQ _).mono ?_
  rintro e w3 ⟨rfl, hb3⟩
  have k3 := blkT k1 hb3
  obtain ⟨q0, q1, q2, q3⟩ := cel2 k3
  obtain ⟨s1, s2⟩ := set2 k3 (.int .i64 u) (.int .i64 v)
  obtain ⟨t0, t1, -, -⟩ := cel2 s1
  have hbw := tw hb1 hb3
  have hbf := hbw.grown s2 hbw.size (fun j e => by cases e; exact Nat.le_refl _)
  go_wp2
  exact bodyPost_ret (v := .agg #[.int .i64 u, .int .i64 v]) (by simp [results, Tryz.results92, go_sem, t0, t1]) rfl ⟨rfl, hbf⟩
def larB (n d : Int) : Bool := decide (999999999 < n ∨ 999999999 < d)
set_option maxHeartbeats 1000000 in
set_option maxRecDepth 100000 in
theorem hgIsLarge (n d : Int) (w : World) :
    Calls Tryz.prog 93 #[.agg #[.int .i64 n, .int .i64 d]] w fun e w' => e = .returned (.bool (larB n d)) ∧ Below w.heap.size w w' := by
  obtain ⟨w1, hw1, k1, hb1, hz1⟩ := boxS w (.cells #[.int .i64 n, .int .i64 d] 23)
  obtain ⟨q0, q1, -, -⟩ := cel2 k1
  have HB := Lib.hid (show larB n d = decide (999999999 < max n d) by unfold larB; rw [decide_eq_decide]; omega)
  go_enter Tryz.func93, Tryz.ntmps93
  go_wp2
  all_goals
    go_ret
    exact ⟨ret_b (by rw [HB.out, decide_eq_decide]; omega), hb1⟩
def stepsL (f b c : Nat) : List Int := (List.range c).map fun i => ((f + (i + 1) * b : Nat) : Int)
theorem stepsL_length (f b c : Nat) : (stepsL f b c).length = c := by simp [stepsL]
theorem stepsL_succ (f b c : Nat) : (stepsL f b (c + 1)).flatMap ic = (stepsL f b c).flatMap ic ++ [.int .i64 ((f + (c + 1) * b : Nat) : Int)] := by simp [stepsL, List.range_succ, ic]
set_option maxHeartbeats 2000000 in
set_option maxRecDepth 100000 in
theorem hgSteps (f b c : Nat) (w : World) (hc : c ≤ 300) (hf : f ≤ 4500000000000000000) (hb' : b ≤ 10000000000000000) :
    Calls Tryz.prog 129 #[.int .i64 f, .int .i64 b, .int .i64 c] w (RowP ic 1 3 (stepsL f b c) w) := by
  unfold RowP
  rw [stepsL_length]
  obtain ⟨i0, hi, hz0, hz1, hz2⟩ := info_parts infoHI
  have HI := Lib.hid hi
  have HZ0 := Lib.hid hz0
  have HZ1 := Lib.hid hz1
  have HZ2 := Lib.hid hz2
  clear hi hz0 hz1 hz2
  go_enter Tryz.func129, Tryz.ntmps129
  go_wp2_with fail
  go_loopw [7, 10] (fun v i wr => ∃ k : Nat, k ≤ c ∧ i = .int .i64 k ∧ Hid (wr.ownsRow w.heap.size 3 1 v k ((stepsL f b k).flatMap ic)) ∧ Below w.heap.size w wr) (fun _ i _ => c - (intOf i).toNat)
  case atStart => exact ⟨0, Nat.zero_le _, rfl, World.ownsRow_nil _ _ _ _, Below.refl _ _⟩
  case round =>
    obtain ⟨k, hk, rfl, hown, hb⟩ := hrel
    by_cases hlt : k < c
    · have hki : (k : Int) < (c : Int) := by omega
      have hbz := hb.size
      have p1 : (k + 1) * b ≤ 300 * 10000000000000000 := Nat.mul_le_mul (by omega) hb'
      have q1 : ((k : Int) + 1) * (b : Int) = (((k + 1) * b : Nat) : Int) := by push_cast; rfl
      have q2 : 0 ≤ ((k : Int) + 1) * (b : Int) ∧ ((k : Int) + 1) * (b : Int) ≤ 3000000000000000000 := by rw [q1]; omega
      obtain ⟨q3, q4⟩ := q2
      have HQ := Lib.hid (show (f : Int) + ((k : Int) + 1) * (b : Int) = ((f + (k + 1) * b : Nat) : Int) by push_cast; rfl)
      clear q1 p1
      go_wp2_with (at_builtin; refine wpList_append_own _ rfl _ _ 45 rfl w.heap.size 3 i0 (.int .i64 0) 1 8 Tryz.underlying45 HI.out HZ0.out HZ1.out HZ2.out rfl (by decide) _ _ _ rfl (hown.out.alloc _) ⟨wr.heap.size, 0, none⟩ 1 1 [.int .i64 ((f : Int) + ((k : Int) + 1) * (b : Int))] rfl rfl (newsH _ _ _) ?c2 ?c3 ?c4 ?c5 ?_)
      case c2 => intro u hu; simp at hu; subst hu; rfl
      case c3 => unfold maxLen; omega
      case c4 => omega
      case c5 => simp; omega
      intro v' w4 hown4 hgrow4 _
      have hq4 : Below w.heap.size w w4 := (hb.alloc hbz (.cells #[.int .i64 ((f : Int) + ((k : Int) + 1) * (b : Int))] 3)).grown hgrow4 (by simp; omega) (baseOf hown.out)
      have HO4 := Lib.hid (show w4.ownsRow w.heap.size 3 1 v' (k + 1) ((stepsL f b (k + 1)).flatMap ic) by rw [stepsL_succ, ← HQ.out]; exact hown4)
      clear hown4 hgrow4 hown
      go_wp2
      go_roundw
      case rel => exact ⟨k + 1, by omega, by go_num, HO4, hq4⟩
      case measure => simp [intOf]; omega
    · obtain rfl : k = c := by omega
      go_wp2
      go_ret
      exact ⟨_, rfl, hown.out, hb⟩
def tieN (m t i : Nat) : Int := (((i + 1) * m / t : Nat) : Int) - ((i * m / t : Nat) : Int)
def tiesL (m t c : Nat) : List Int := (List.range c).map (tieN m t)
theorem tiesL_length (m t c : Nat) : (tiesL m t c).length = c := by simp [tiesL]
theorem tiesL_succ (m t c : Nat) : (tiesL m t (c + 1)).flatMap ic = (tiesL m t c).flatMap ic ++ [.int .i64 (tieN m t c)] := by simp [tiesL, List.range_succ, ic]
def tieE (m t : Int) : Int := fstE [rngH m 1 300, rngH t 1 m]
def ozL {α : Type} (E : Int) (l : List α) : List α := if E = 0 then l else []
theorem ozL0 {α : Type} (l : List α) : ozL 0 l = l := if_pos rfl
theorem ozLE {α : Type} {E : Int} (h : E ≠ 0) (l : List α) : ozL E l = [] := if_neg h
set_option maxHeartbeats 4000000 in
set_option maxRecDepth 100000 in
theorem hgTies (m t : Int) (w : World) :
    Calls Tryz.prog 42 #[.int .i64 m, .int .i64 t] w (ListP ic 1 (ozL (tieE m t) (tiesL m.toNat t.toNat t.toNat)) (tieE m t) w) := by
  obtain ⟨i0, hi, hz0, hz1, hz2⟩ := info_parts infoHI
  have HI := Lib.hid hi
  have HZ0 := Lib.hid hz0
  have HZ1 := Lib.hid hz1
  have HZ2 := Lib.hid hz2
  have HE := Lib.hid (show fstE [rngH m 1 300, rngH t 1 m] = tieE m t from rfl)
  clear hi hz0 hz1 hz2
  by_cases hz : tieE m t = 0
  · obtain ⟨r1, r2⟩ := fst2_zero hz
    obtain ⟨g1, g2⟩ := rngH_zero r1
    obtain ⟨g3, g4⟩ := rngH_zero r2
    rw [hz] at HE ⊢
    rw [ozL0]
    obtain ⟨M, rfl⟩ : ∃ M : Nat, m = (M : Int) := ⟨m.toNat, by omega⟩
    obtain ⟨T, rfl⟩ : ∃ T : Nat, t = (T : Int) := ⟨t.toNat, by omega⟩
    simp only [Int.toNat_natCast]
    have hT0 : ¬ (T : Int) = 0 := by omega
    have hT0n : ¬ T = 0 := by omega
    clear hz r1 r2
    go_enter Tryz.func42, Tryz.ntmps42
    go_wp2_with fail
    refine (hgCheckMeshes _ _).mono ?_
    rintro e w1 ⟨rfl, rfl⟩
    go_wp2_with fail
    refine (hgCheckRange _ _ _ _).mono ?_
    rintro e w1 ⟨rfl, rfl⟩
    go_wp2_with fail
    refine (hgFirst2 _ _ _ _ 26 _ (by exact newBlk _ _)).mono ?_
    rintro e w1 ⟨rfl, rfl⟩
    rw [HE.out]
    obtain ⟨w1, hw1, hb1⟩ : ∃ w1, w.alloc (.cells #[.int .i64 (rngH (M : Int) 1 300), .int .i64 (rngH (T : Int) 1 M)] 26) = w1 ∧ Below w.heap.size w w1 := ⟨_, rfl, (Below.refl _ _).alloc (Nat.le_refl _) _⟩
    rw [hw1]
    clear hw1 HE
    go_wp2_with fail
    go_loopw [7, 20] (fun v i wr => ∃ k : Nat, k ≤ T ∧ i = .int .i64 k ∧ Hid (wr.ownsRow w.heap.size 3 1 v k ((tiesL M T k).flatMap ic)) ∧ Below w.heap.size w wr) (fun _ i _ => T - (intOf i).toNat)
    case atStart => exact ⟨0, Nat.zero_le _, rfl, World.ownsRow_nil _ _ _ _, hb1⟩
    case round =>
      obtain ⟨k, hk, rfl, hown, hb⟩ := hrel
      by_cases hlt : k < T
      · have hki : (k : Int) < (T : Int) := by omega
        have hbz := hb.size
        have p1 : (k + 1) * M ≤ 300 * 300 := Nat.mul_le_mul (by omega) (by omega)
        have p2 : k * M ≤ 300 * 300 := Nat.mul_le_mul (by omega) (by omega)
        have l1 : (k + 1) * M / T ≤ 90000 := Nat.le_trans (Nat.div_le_self _ _) p1
        have l2 : k * M / T ≤ 90000 := Nat.le_trans (Nat.div_le_self _ _) p2
        have t1 : (((k : Int) + 1) * (M : Int)).tdiv (T : Int) = (((k + 1) * M / T : Nat) : Int) := by rw [← divN]; push_cast; rfl
        have t2 : ((k : Int) * (M : Int)).tdiv (T : Int) = ((k * M / T : Nat) : Int) := by rw [← divN]; push_cast; rfl
        have wa : IntKind.i64.wrap ((k : Int) + 1) = (k : Int) + 1 := wr64 (by omega) (by omega)
        have wb : IntKind.i64.wrap (((k : Int) + 1) * (M : Int)) = ((k : Int) + 1) * (M : Int) := by
          have e : ((k : Int) + 1) * (M : Int) = (((k + 1) * M : Nat) : Int) := by push_cast; rfl
          rw [e]; exact wr64 (by omega) (by omega)
        have wc : IntKind.i64.wrap ((k : Int) * (M : Int)) = (k : Int) * (M : Int) := by
          rw [mulI]; exact wr64 (by omega) (by omega)
        have HT := Lib.hid (show (((k + 1) * M / T : Nat) : Int) - ((k * M / T : Nat) : Int) = tieN M T k from rfl)
        generalize (k + 1) * M / T = x at t1 l1 HT
        generalize k * M / T = y at t2 l2 HT
        have wx : IntKind.i64.wrap (x : Int) = (x : Int) := wr64 (by omega) (by omega)
        have wy : IntKind.i64.wrap (y : Int) = (y : Int) := wr64 (by omega) (by omega)
        have wd : IntKind.i64.wrap ((x : Int) - (y : Int)) = (x : Int) - (y : Int) := wr64 (by omega) (by omega)
        clear p1 p2
        go_wp2_with fail
        go_region_law (refine step_append_lies _ rfl (.tmp 23) (.tmp 36) 45 rfl w.heap.size 3 i0 (.int .i64 0) 1 8 Tryz.underlying45 HI.out HZ0.out HZ1.out HZ2.out rfl (by decide) u7 k ((tiesL M T k).flatMap ic) (by simp [Act.eval]) (by first | exact hown.out.alloc _ | exact (hown.out.drew).alloc _) _ 1 1 [.int .i64 ((x : Int) - (y : Int))] (by first | (simp [Act.eval]; done) | (simp [Act.eval]; rfl)) rfl (by exact newsH _ _ _) (by intro u hu; simp at hu; subst hu; rfl) (by decide) (by unfold maxLen; omega) (by omega) (by simp; omega) _ rfl ?_; intro gx cap w5 hown5 hgrow5 _ _)
        all_goals
          have hq5 : Below w.heap.size w w5 := by
            first
              | exact (hb.alloc hbz (.cells #[.int .i64 ((x : Int) - (y : Int))] 3)).grown hgrow5 (by simp; omega) (baseOf hown.out)
              | exact ((below_drew hb).alloc hbz (.cells #[.int .i64 ((x : Int) - (y : Int))] 3)).grown hgrow5 (by simp; omega) (baseOf hown.out)
              | exact (below_drew (hb.alloc hbz (.cells #[.int .i64 ((x : Int) - (y : Int))] 3))).grown hgrow5 (by simp; omega) (baseOf hown.out)
          have HO5 := Lib.hid (show w5.ownsRow w.heap.size 3 1 (.slice (some ⟨gx, 0, none⟩) (k + 1) cap) (k + 1) ((tiesL M T (k + 1)).flatMap ic) by rw [tiesL_succ, ← HT.out]; exact hown5)
          clear hown5 hgrow5 hown
          go_wp2
          go_roundw
          case rel => exact ⟨k + 1, by omega, by go_num, HO5, hq5⟩
          case measure => simp [intOf]; omega
      · obtain rfl : k = T := by omega
        obtain ⟨a, cv, rfl, hok⟩ := OKV.ownN ic1 hown.out (tiesL_length M k k)
        have HOK := Lib.hid hok
        have HL := Lib.hid (tiesL_length M k k)
        clear hok hown
        go_wp2
        go_ret2
        exact ⟨a, cv, by rw [HL.out]; rfl, HOK.out, hb⟩
  · rw [ozLE hz]
    generalize tieE m t = E at HE hz ⊢
    have hne := nzH hz
    clear hz
    go_enter Tryz.func42, Tryz.ntmps42
    go_wp2_with fail
    refine (hgCheckMeshes _ _).mono ?_
    rintro e w1 ⟨rfl, rfl⟩
    go_wp2_with fail
    refine (hgCheckRange _ _ _ _).mono ?_
    rintro e w1 ⟨rfl, rfl⟩
    go_wp2_with fail
    refine (hgFirst2 _ _ _ _ 26 _ (by exact newBlk _ _)).mono ?_
    rintro e w1 ⟨rfl, rfl⟩
    rw [HE.out]
    go_wp2
    go_ret2
    exact ⟨none, 0, rfl, OKV.none _ _ _, (Below.refl _ _).alloc (Nat.le_refl _) _⟩
end Go.Proofs.YtlkeejhaodedmaaGreatDoor

/- A region that draws its order, inside the wide fence: reads and quiet calls first, then operations in a row (a yield among them). -/
namespace Go.Proofs.YtlkeejhaodedmaaGreatDoor
open Go.RowKit

/-- A fence that shuts nothing out: the wide one, or the wide one within a round. -/
structure WideF (F : Fence) : Prop where
  fn : ∀ f, F.fn f
  depth : F.depth = none
  calls : ∀ {n : Nat} {P : Program} {f : FuncId} {args : Array Value} {w : World} {R : Ending → World → Prop}, Calls P f args w R → CallsIn F n P f args w R
theorem WideF.wide : WideF Fence.wide := ⟨fun _ => trivial, rfl, fun h => callsIn_wide.2 h⟩
theorem WideF.inRound (l : Nat) : WideF (Fence.wide.inRound l) := ⟨fun _ => trivial, rfl, fun h => CallsIn.inRound l (callsIn_wide.2 h)⟩
def noDefer (ops : Array Oper) : Bool := ops.all fun o => match o.op with | .defer _ => false | _ => true
theorem noDefer_spec {ops : Array Oper} (h : noDefer ops = true) {i : Nat} {o : Oper} (hi : ops[i]? = some o) : ∀ c, o.op ≠ .defer c := by
  intro c hc
  have := Array.all_eq_true.1 h i (Array.getElem?_eq_some_iff.1 hi).1
  rw [(Array.getElem?_eq_some_iff.1 hi).2, hc] at this
  cases this
section
variable {F : Fence} {n : Nat} {P : Program} {ops : Array Oper} {md : Region.Mode} {w : World}
theorem wpIn_of_still (hF : WideF F) {o : Oper} {a : Act} {K : Act → Prop} {K' : Act → World → Prop} {Q' : Exit → Act → World → Prop} (hnd : ∀ c, o.op ≠ .defer c) (h : ∀ a, K a → K' a w) (hh : o.still P a w K) : o.wpIn F n P a w K' Q' := by
  unfold Oper.still at hh
  unfold Oper.wpIn
  refine ⟨fun f _ => hF.fn f, ?_⟩
  rw [Oper.semAt_eq _ _ _ hnd]
  generalize (execOp a.eval o).run P w = r at *
  cases r with
  | ok x w' =>
    cases x <;> simp only [Oper.stillUpon] at hh <;> simp only [Oper.uponIn]
    case enter f args =>
      obtain ⟨rfl, v, hc, hn⟩ := hh
      exact ⟨(fun e => by rw [hF.depth] at e; cases e), hF.calls (hc.mono fun e w'' ⟨he, hw⟩ => by subst he; subst hw; exact h _ hn)⟩
    all_goals (obtain ⟨rfl, h2⟩ := hh; exact h _ h2)
  | halt x w' => simp only [Oper.stillUpon] at hh
theorem wpOpIn_of_stOp (hF : WideF F) (hnd : noDefer ops = true) {i : Nat} {a : Act} {K : Act → Prop} {K' : Act → World → Prop} {Q' : Exit → Act → World → Prop} (h : ∀ a, K a → K' a w) (hh : stOp P ops w i K a) : wpOpIn F n P ops Q' i K' a w := by
  unfold stOp at hh
  unfold wpOpIn
  split
  · rename_i ho; simp only [ho] at hh; exact h _ hh
  · rename_i o ho
    simp only [ho] at hh
    split
    · rename_i hw; simp only [hw, if_true] at hh; exact wpIn_of_still hF (noDefer_spec hnd ho) h hh
    · rename_i hw; simp only [hw] at hh; exact ⟨fun f _ => hF.fn f, h _ hh⟩
theorem wpAnyIn_of_head (hF : WideF F) (hnd : noDefer ops = true) {m g : Nat} {L : Array Bool → Act → Prop} {Q' : Exit → Act → World → Prop} (hL : ∀ listed a, L listed a → wpAnyIn F n P md ops Q' g listed a w) :
    ∀ (f : Nat) (listed : Array Bool) (a : Act), wpAnyL P md ops w m L f listed a → wpAnyIn F n P md ops Q' (f + g) listed a w
  | 0, listed, a, h => by rw [Nat.zero_add]; exact hL _ _ h
  | f + 1, listed, a, h => by
    rw [show f + 1 + g = (f + g) + 1 by omega]
    exact ⟨fun h0 => absurd h0 h.1, fun i hi => wpOpIn_of_stOp hF hnd (fun a' h' => wpAnyIn_of_head hF hnd hL f _ a' h') (h.2 i hi).2⟩
theorem wpAnyIn_of_seq {Q' : Exit → Act → World → Prop} : ∀ (l : List Oper) (k : Nat) (listed : Array Bool) (a : Act) (w : World), (∀ j, l[j]? = ops[k + j]?) →
    Region.seqB md ops l.length k listed = true → wpListIn F n P ops Q' l a w → wpAnyIn F n P md ops Q' l.length listed a w
  | [], _, _, _, _, _, hB, h => ⟨by simpa [Region.seqB] using hB, h⟩
  | o :: l, k, listed, a, w, hl, hB, h => by
    have h0 : ops[k]? = some o := by simpa using (hl 0).symm
    simp only [List.length_cons, Region.seqB, Bool.and_eq_true, decide_eq_true_eq] at hB
    refine ⟨fun h1 => (by rw [hB.1] at h1; cases h1), fun i hi => ?_⟩
    rw [hB.1] at hi
    have hik : i = k := by simpa using hi
    subst hik
    have hw : wpOpIn F n P ops Q' i (wpListIn F n P ops Q' l) a w := by unfold wpOpIn; simp only [h0]; exact h
    exact wpOpIn_mono (fun a' w' h' => wpAnyIn_of_seq l (i + 1) _ a' w' (fun j => by have := hl (j + 1); simpa [Nat.add_assoc, Nat.add_comm 1 j] using this) hB.2 h') hw
theorem wpIn_region_still_F (hF : WideF F) {id : Nat} {Q : Exit → Act → World → Prop} {a : Act} {l : List Oper} (m : Nat) (hnd : noDefer l.toArray = true) (hm : P.follows .mixedOrders = true) (hB : Region.lexTailB .any l.toArray m = true)
    (h : wpStill P l.toArray { w with drawn := w.drawn + 1 } (fun a' => wpListIn F n P l.toArray Q (l.drop m) a' { w with drawn := w.drawn + 1 }) (l.take m) a) : (Code.region id l.toArray true).wpIn F n P Q a w := by
  simp only [Region.lexTailB, Bool.and_eq_true, decide_eq_true_eq] at hB
  obtain ⟨⟨⟨⟨hsel, hn⟩, hs⟩, hc⟩, hlex⟩ := hB
  have hn' : m < l.length := by simpa using hn
  have htl : (l.take m).length = m := by simp; omega
  have hdl : (l.drop m).length = l.toArray.size - m := by simp
  have inv0 : HeadInv .any l.toArray m (Array.replicate l.toArray.size false) :=
    ⟨by simp, fun j oj _ hl => (by rw [getD_replicate_false] at hl; cases hl), fun t _ ht => getD_in (by simpa using ht) (getD_replicate_false _ _)⟩
  have H := wpAnyL_lex (md := .any) (g := l.toArray.size - m) hsel hs hc hn (l.take m) 0 _ a (fun j hj => by
    have hj' : j < m := by rw [htl] at hj; exact hj
    simp [hj']) (by simpa using htl) inv0 (by rw [htl]; exact hlex) h
  refine wpIn_region_any hm ?_
  have := wpAnyIn_of_head hF hnd (n := n) (Q' := Q) (g := l.toArray.size - m) (fun listed a' hL => by
    have := wpAnyIn_of_seq (F := F) (n := n) (md := .any) (Q' := Q) (l.drop m) m listed a' { w with drawn := w.drawn + 1 } (fun j => by simp [List.getElem?_drop]) (by rw [hdl]; exact hL.1) hL.2
    rwa [hdl] at this) _ _ _ H
  rw [htl, show m + (l.toArray.size - m) = l.toArray.size by omega] at this
  exact this
theorem wpIn_region_still_tail {id : Nat} {Q : Exit → Act → World → Prop} {a : Act} {l : List Oper} (m : Nat) (hm : P.follows .mixedOrders = true) (hB : Region.lexTailB .any l.toArray m = true) (hnd : noDefer l.toArray = true)
    (h : wpStill P l.toArray { w with drawn := w.drawn + 1 } (fun a' => wpListIn Fence.wide n P l.toArray Q (l.drop m) a' { w with drawn := w.drawn + 1 }) (l.take m) a) : (Code.region id l.toArray true).wpIn Fence.wide n P Q a w :=
  wpIn_region_still_F .wide m hnd hm hB h
end
end Go.Proofs.YtlkeejhaodedmaaGreatDoor

/- A loop over a function that keeps nothing of its own in cells: the body never leaves the loop, and knows what may come. -/
namespace Go.Proofs.YtlkeejhaodedmaaGreatDoor
open Go.RowKit Go.Shelf

theorem grownB {W W' : World} (hb : Below W.heap.size W W') : W.grownBy W' none := ⟨hb.os, hb.tape, hb.output, hb.size, fun i hi _ => hb.block i hi⟩
/-- The loop's two blocks lie as they lay. -/
def BookH (B : Nat) (W W' : World) : Prop := W'.heap[B]? = W.heap[B]? ∧ W'.heap[B + 1]? = W.heap[B + 1]? ∧ W.heap.size ≤ W'.heap.size
theorem BookH.trans {B : Nat} {X Y Z : World} (h : BookH B X Y) (k : BookH B Y Z) : BookH B X Z := ⟨k.1.trans h.1, k.2.1.trans h.2.1, Nat.le_trans h.2.2 k.2.2⟩
theorem BookH.below {B : Nat} {W W' : World} (hB : B + 2 ≤ W.heap.size) (h : Below W.heap.size W W') : BookH B W W' := ⟨h.block _ (by omega), h.block _ (by omega), h.size⟩
theorem BookH.others {B : Nat} {W W' : World} (h : KeepsOthers W W') (h0 : ∃ o, W.heap[B]? = some o ∧ o.isCells = false) (h1 : ∃ o, W.heap[B + 1]? = some o ∧ o.isCells = false) : BookH B W W' := by
  obtain ⟨o0, a0, b0⟩ := h0
  obtain ⟨o1, a1, b1⟩ := h1
  exact ⟨(h.same _ _ a0 b0).trans a0.symm, (h.same _ _ a1 b1).trans a1.symm, h.size⟩
def RoundEndH {α : Type} (B : Nat) (Kp : World → World → Prop) (I : List α → World → Prop) (xs : List α) (W : World) : Exit → Act → World → Prop
  | .normal, _, W' => BookH B W W' ∧ Kp W W' ∧ I xs W'
  | _, _, _ => False

/-- What the loop asks of the function over which it goes. -/
def VisitsH {α : Type} (P : Program) (n : Nat)  (gf : Nat) (lb : Array Value) (encs : α → Array Value) (Kp : World → World → Prop) (S : List α → Prop) (G : List α → α → Prop) (w : World) : Prop :=
  ∀ (l : Nat) (J : List α → World → Prop) (W : World), Below w.heap.size w W → OwnFrom W.heap.size J →
    (∀ pre x W1, J pre W1 → G pre x → YieldAt Fence.wide (n - 1) P l (encs x) W1 fun en W' => en = .returned (.bool true) ∧ J (pre ++ [x]) W' ∧ Kp W1 W') →
    J [] W → CallsIn Fence.wide n P gf (#[.func (.yield l) #[] #[]] ++ lb) W fun en W' => (∃ v, en = .returned v) ∧ ∃ xs, S xs ∧ J xs W'

theorem wpIn_visitsH {α : Type} {P : Program} {n : Nat} {g : Operand} {ps : Array Tmp} {assign body : Code} {Q : Exit → Act → World → Prop} {a : Act} {w : World} (h1 : 1 ≤ n)
    {gf : Nat} {lb : Array Value} (hg : a.eval g = .func (.func gf) #[] lb) (eg : ∀ args w, (callFunc gf args).run P w = .ok (.enter gf args) w)
    {encs : α → Array Value} {Kp : World → World → Prop} {S : List α → Prop} {G : List α → α → Prop} (hseq : VisitsH P (n - 1) gf lb encs Kp S G w)
    (hKt : ∀ {A B C : World}, Kp A B → Kp B C → Kp A C) (hKb : ∀ (W : World) (l : Nat) (o o' : Obj), w.heap.size ≤ l → W.heap[l]? = some o → o.isCells = false → o.isWalk = false → Kp W (W.putObj l o')) (hps : ∀ x, (encs x).size = ps.size)
    (I : List α → World → Prop) (hI : OwnFrom w.heap.size I) (h0 : I [] w)
    (hround : ∀ (l : Nat) (pre : List α) (x : α) (W : World), w.heap.size + 2 ≤ W.heap.size → I pre W → G pre x →
      assign.wpIn (Fence.wide.inRound l) (n - 1 - 1) P (Exit.then (fun a' Wa => BookH w.heap.size W Wa ∧ Kp W Wa ∧
        ∀ Wb, Wa.grownBy Wb (some (w.heap.size + 1)) → (∃ o, Wa.heap[w.heap.size + 1]? = some o ∧ o.isCells = false) → ((∃ o, Wb.heap[w.heap.size]? = some o ∧ o.isCells = false) ∧ ∃ o, Wb.heap[w.heap.size + 1]? = some o ∧ o.isCells = false) → body.wpIn (Fence.wide.inRound l) (n - 1 - 1) P (RoundEndH w.heap.size Kp I (pre ++ [x]) Wb) a' Wb) (fun _ _ _ => False))
        { tmps := (ps.zip (encs x)).foldl (fun t (p, v) => t.setIfInBounds p v) a.tmps, defers := [] } W)
    (hdone : ∀ (D : Nat) (xs : List α) (W : World), w.heap.size ≤ D → S xs → I xs W → W.heap[D]? = some (.deferred (some [])) → Q .normal { a with defers := { target := .collected D, args := #[] } :: a.defers } W) :
    (Code.rangeFunc g ps assign body).wpIn Fence.wide n P Q a w := by
  refine wpIn_rangeFunc fun fn _ => ?_
  obtain ⟨L, hL⟩ : ∃ L : LoopState → Option Code → Loop, L = fun s j => { state := s, pending := j, fn, tmps := a.tmps, params := ps, assign, body, defers := w.heap.size } := ⟨_, rfl⟩
  obtain ⟨W1, hW1⟩ : ∃ W1, W1 = (w.alloc (.deferred (some []))).alloc (.loop (L .ready none)) := ⟨_, rfl⟩
  have s1 : W1.heap.size = w.heap.size + 2 := by rw [hW1]; simp
  have b1 : Below w.heap.size w W1 := by rw [hW1]; exact ((Below.refl _ _).alloc (Nat.le_refl _) _).alloc (by simp) _
  have r1 : W1.heap[w.heap.size + 1]? = some (.loop (L .ready none)) := by
    rw [hW1]
    have := World.alloc_heap_new (w.alloc (.deferred (some []))) (.loop (L .ready none))
    rwa [World.size_alloc] at this
  have d1 : W1.heap[w.heap.size]? = some (.deferred (some [])) := by
    rw [hW1, Below.heap_alloc _ _ _ (by simp)]
    exact World.alloc_heap_new w _
  refine ⟨w.heap.size + 1, [{ target := .collected w.heap.size, args := #[] }], W1, { target := .fn (.func gf) lb, args := #[.func (.yield (w.heap.size + 1)) #[] #[]] }, W1, gf,
    #[.func (.yield (w.heap.size + 1)) #[] #[]] ++ lb, W1, by rw [hW1, hL]; exact run_enterLoop_outer _ _ _ _ _, ?_, fun _ _ => trivial, by simp [invoke, go_sem, eg], fun _ => h1, ?_⟩
  · simp only [resolve, hg]
    simp [go_sem]
  refine (hseq (w.heap.size + 1) (fun pre W => I pre W ∧ (W.heap[w.heap.size]? = some (.deferred (some [])) ∧ W.heap[w.heap.size + 1]? = some (.loop (L .ready none)))) W1 b1 ?bid ?yields ⟨hI _ _ _ none h0 (grownB b1) (fun r e => by cases e), d1, r1⟩).mono ?after
  case bid =>
    intro s X Y r hs hgr hr
    refine ⟨hI s X Y r hs.1 hgr fun b hb => ?_, ?_, ?_⟩
    · obtain ⟨h, o, ho⟩ := hr b hb
      exact ⟨by omega, o, ho⟩
    · exact (hgr.block _ (Array.getElem?_eq_some_iff.1 hs.2.1).1 (fun h => by have := (hr _ h.symm).1; omega)).trans hs.2.1
    · exact (hgr.block _ (Array.getElem?_eq_some_iff.1 hs.2.2).1 (fun h => by have := (hr _ h.symm).1; omega)).trans hs.2.2
  case yields =>
    rintro pre x W ⟨hi, hd, hl⟩ hlen
    have hz := (Array.getElem?_eq_some_iff.1 hl).1
    have hy := run_yield (P := P) (args := encs x) hl (by rw [hL]; exact hps x)
    rw [hL] at hy
    refine ⟨fn, _, assign, body, hy, roundIn_of_wpIn trivial (wpIn_mono (hround _ pre x W (by omega) hi hlen) ?_)⟩
    rintro en a' Wa hp
    cases en with
    | normal =>
      obtain ⟨⟨k1, k2, k3⟩, kp, hbody⟩ := hp
      have hla := k2.trans hl
      have hza := (Array.getElem?_eq_some_iff.1 hla).1
      refine ⟨_, run_beginRound hla (by rw [hL]), ?_⟩
      have hlb : (Wa.putObj (w.heap.size + 1) (.loop { L .ready none with state := .busy })).heap[w.heap.size + 1]? = some (.loop { L .ready none with state := .busy }) := World.putObj_heap_same hza
      have hdb : (Wa.putObj (w.heap.size + 1) (.loop { L .ready none with state := .busy })).heap[w.heap.size]? = some (.deferred (some [])) := (World.putObj_heap_other (by omega)).trans (k1.trans hd)
      have kb : Kp Wa (Wa.putObj (w.heap.size + 1) (.loop { L .ready none with state := .busy })) := hKb _ _ _ _ (by omega) hla rfl rfl
      refine wpIn_mono (hbody _ (grownBy_putObj' _ _ _) ⟨_, hla, rfl⟩ ⟨⟨_, hdb, rfl⟩, ⟨_, hlb, rfl⟩⟩) ?_
      rintro e3 a3 W3 hp3
      cases e3 with
      | normal =>
        obtain ⟨⟨m1, m2, m3⟩, kp3, hi3⟩ := hp3
        have hl3 := m2.trans hlb
        have hz3 := (Array.getElem?_eq_some_iff.1 hl3).1
        refine ⟨_, _, run_endRound none hl3, rfl, ⟨hI.putObj _ hi3 (by omega) hl3 rfl, (World.putObj_heap_other (by omega)).trans (m1.trans hdb), ?_⟩, hKt kp (hKt (hKt kb kp3) (hKb _ _ _ _ (by omega) hl3 rfl rfl))⟩
        rw [World.putObj_heap_same hz3, hL]
        rfl
      | _ => exact hp3.elim
    | _ => exact hp.elim
  case after =>
    rintro en W2 ⟨⟨v, rfl⟩, xs, hS, hi, hd, hl⟩
    exact ⟨none, _, by have := run_endLoop (P := P) hl (by rw [hL]; simp); rw [hL] at this; exact this, hdone _ xs _ (Nat.le_refl _) hS (hI.putObj _ hi (by omega) hl rfl) ((World.putObj_heap_other (by omega)).trans hd)⟩
end Go.Proofs.YtlkeejhaodedmaaGreatDoor

/- hang: the iterator over the widths of sections. -/
namespace Go.Proofs.YtlkeejhaodedmaaGreatDoor
open Go.RowKit Go.Shelf

/-- The blocks below B0, and those from B1 to below B2, are as they were. -/
def KQ (B0 B1 B2 : Nat) (W W' : World) : Prop := W.heap.size ≤ W'.heap.size ∧ ∀ b, (b < B0 ∨ (B1 ≤ b ∧ b < B2)) → W'.heap[b]? = W.heap[b]?
theorem KQ.refl (B0 B1 B2 : Nat) (W : World) : KQ B0 B1 B2 W W := ⟨Nat.le_refl _, fun _ _ => rfl⟩
theorem KQ.trans {B0 B1 B2 : Nat} {A B C : World} (h : KQ B0 B1 B2 A B) (k : KQ B0 B1 B2 B C) : KQ B0 B1 B2 A C := ⟨Nat.le_trans h.1 k.1, fun b hb => (k.2 b hb).trans (h.2 b hb)⟩
theorem KQ.of_below {B0 B1 B2 : Nat} {W W' : World} (h : Below W.heap.size W W') (h0 : B0 ≤ B2) (hB : B2 ≤ W.heap.size) : KQ B0 B1 B2 W W' := ⟨h.size, fun b hb => h.block b (by omega)⟩
theorem KQ.cell {B0 B1 B2 : Nat} {W W' : World} (h : KQ B0 B1 B2 W W') {b o : Nat} (hb : b < B0 ∨ (B1 ≤ b ∧ b < B2)) : W'.cell? ⟨b, o, none⟩ = W.cell? ⟨b, o, none⟩ := World.cell?_of_block (h.2 b hb)
theorem KQ.put {B0 B1 B2 : Nat} {w : World} (h0 : B0 ≤ B2) (hB : B2 ≤ w.heap.size) (W : World) (l : Nat) (o o' : Obj) (hl : w.heap.size ≤ l) (_ : W.heap[l]? = some o) (_ : o.isCells = false) (_ : o.isWalk = false) : KQ B0 B1 B2 W (W.putObj l o') :=
  ⟨by simp, fun b _ => World.putObj_heap_other (by omega)⟩
/-- The number of meshes of a section, and the numerator of the width of one of them. -/
def widE (b : Nat) (s : Sec) : Nat × Nat := (s.m.toNat, 2 * b * 1 * s.n.toNat * (2329089562800 / s.d.toNat))
def widL (b : Nat) (l : List Sec) : List (Nat × Nat) := l.map (widE b)
def pairV (x : Nat × Nat) : Array Value := #[.int .i64 (x.1 : Int), .int .i64 (x.2 : Int)]
def SecOk (l : List Sec) : Prop := ∀ i (hi : i < l.length), ∃ M P D : Nat, l[i].m = M ∧ l[i].n = P ∧ l[i].d = D ∧ 1 ≤ M ∧ M ≤ 300 ∧ 1 ≤ P ∧ P ≤ D ∧ D ≤ 30 ∧ P.gcd D = 1
theorem widL_succ (b : Nat) (l : List Sec) {k : Nat} (h : k < l.length) : widL b (l.take (k + 1)) = widL b (l.take k) ++ [widE b l[k]] := by
  rw [List.take_succ_eq_append_getElem h]
  simp only [widL, List.map_append, List.map_cons, List.map_nil]
set_option maxHeartbeats 4000000 in
set_option maxRecDepth 100000 in
theorem widths_in (l Bl Bb B0 B1 B2 n : Nat) (hn : 2 ≤ n) (A : Option Addr) (c b : Nat) (L : List Sec) (hL : L.length ≤ 32) (hv : SecOk L) (hb : b ≤ 100) (J : List (Nat × Nat) → World → Prop)
    (hY : ∀ pre x W, J pre W → (∃ r, widL b L = pre ++ x :: r) → YieldAt Fence.wide (n - 1) Tryz.prog l (pairV x) W fun e W' => e = .returned (.bool true) ∧ J (pre ++ [x]) W' ∧ KQ B0 B1 B2 W W')
    (W : World) (hJ : OwnFrom W.heap.size J) (h02 : B0 ≤ B2) (hB : B2 ≤ W.heap.size) (_ : B1 ≤ Bl) (_ : Bl < B2) (hBb : B1 ≤ Bb) (hBb' : Bb < B2)
    (ml : W.cell? ⟨Bl, 0, none⟩ = some (.slice A L.length c)) (mb : W.cell? ⟨Bb, 0, none⟩ = some (.int .i64 b)) (hR : RV Sec.c 3 W B0 A L) (h0 : J [] W) :
    CallsIn Fence.wide n Tryz.prog 127 #[.func (.yield l) #[] #[], .pointer (some ⟨Bl, 0, none⟩), .pointer (some ⟨Bb, 0, none⟩)] W fun e W' => (∃ v, e = .returned v) ∧ ∃ ss : List (Nat × Nat), ss = widL b L ∧ J ss W' := by
  have hJn : ∀ {s : List (Nat × Nat)} {A B : World}, J s A → Below A.heap.size A B → J s B := fun hs hb => hJ _ _ _ none hs (grownB hb) (fun r e => by cases e)
  have hf60 : Fence.wide.fn 79 := trivial
  have h1n : 1 ≤ n := by omega
  have HR := Lib.hid hR
  have HV := Lib.hid hv
  clear hR hv
  refine callsIn_of_wp Tryz.func127 rfl trivial ?_ rfl
  simp only [Tryz.ntmps127, List.size_toArray, List.length_cons, List.length_nil, Nat.reduceAdd, Nat.reduceSub, Array.replicate_succ, Array.replicate_zero, List.push_toArray, List.append_toArray, List.nil_append, List.cons_append]
  gi_wp2
  gi_loopw [8] (fun v wr => ∃ k : Nat, k ≤ L.length ∧ v = .int .i64 k ∧ J (widL b (L.take k)) wr ∧ KQ B0 B1 B2 W wr) (fun v _ => L.length - (intOf v).toNat)
  case atStart => exact ⟨0, Nat.zero_le _, rfl, h0, KQ.refl _ _ _ _⟩
  case round =>
    obtain ⟨k, hk, rfl, hJk, hK⟩ := hrel
    by_cases hlt : k < L.length
    · have hki : (k : Int) < (L.length : Int) := by omega
      have hk0 : (0 : Int) ≤ (k : Int) := by omega
      obtain ⟨rb, off, rfl, hrb, hrc⟩ := HR.out (by omega)
      obtain ⟨M, P, D, e1, e2, e3, v1, v2, v3, v4, v5, -⟩ := HV.out k hlt
      have c0 := (hK.cell (o := off + k * 3) (.inl hrb)).trans (hrc k hlt 0 _ rfl)
      have c1 := (hK.cell (o := off + k * 3 + 1) (.inl hrb)).trans (hrc k hlt 1 _ rfl)
      have c2 := (hK.cell (o := off + k * 3 + 2) (.inl hrb)).trans (hrc k hlt 2 _ rfl)
      rw [e1] at c0
      rw [e2] at c1
      rw [e3] at c2
      have nb := (hK.cell (o := 0) (.inr ⟨hBb, hBb'⟩)).trans mb
      have HS := Lib.hid ((widL_succ b L hlt).trans (by rw [show widE b L[k] = (M, 2 * b * 1 * P * (2329089562800 / D)) by simp only [widE, e1, e2, e3, Int.toNat_natCast]]))
      have HG0 := Lib.hid (show ∃ r, widL b L = widL b (L.take k) ++ widE b L[k] :: r from ⟨widL b (L.drop (k + 1)), by rw [widL, widL, widL, ← List.map_cons, ← List.drop_eq_getElem_cons hlt, ← List.map_append, List.take_append_drop]⟩)
      rw [show widE b L[k] = (M, 2 * b * 1 * P * (2329089562800 / D)) by simp only [widE, e1, e2, e3, Int.toNat_natCast]] at HG0
      clear hrc e1 e2 e3
      have s1 := strB (B := b) (M := 1) hb (by omega)
      have hSt := fun w => hgStretched b 1 w hb (by omega)
      have p0 : 2 * b * 1 ≤ 200 := by omega
      have p1 : 2 * b * 1 * P ≤ 200 * 30 := Nat.mul_le_mul p0 (by omega)
      have p2 : 2329089562800 / D ≤ 2329089562800 := Nat.div_le_self _ _
      have p3 : 2 * b * 1 * P * (2329089562800 / D) ≤ 200 * 30 * 2329089562800 := Nat.mul_le_mul p1 p2
      have hD0 : ¬ (D : Int) = 0 := by omega
      have hD0n : ¬ D = 0 := by omega
      have q1 : (2329089562800 : Int).tdiv (D : Int) = ((2329089562800 / D : Nat) : Int) := divN 2329089562800 D
      generalize 2 * b * 1 = S at HS HG0 hSt p0 p1 p3
      generalize 2329089562800 / D = Q at HS HG0 p2 p3 q1
      have w1' : IntKind.i64.wrap (Q : Int) = (Q : Int) := wr64 (by omega) (by omega)
      have w2' : IntKind.i64.wrap ((S : Int) * (P : Int)) = ((S * P : Nat) : Int) := by rw [mulI]; exact wr64 (by omega) (by omega)
      have w3' : IntKind.i64.wrap (((S * P : Nat) : Int) * (Q : Int)) = ((S * P * Q : Nat) : Int) := by rw [mulI]; exact wr64 (by omega) (by omega)
      generalize hX : S * P * Q = X at HS HG0 p3 w3'
      generalize hU : S * P = U at p1 w2' w3'
      have HG := HG0
      clear hX hU p0 p1 p2 p3 s1 HG0
      obtain ⟨w1, hw1, k1, hb1, hz1⟩ := boxS wr (.cells #[.int .i64 (M : Int), .int .i64 (P : Int), .int .i64 (D : Int)] 131)
      obtain ⟨d0, d1, d2, -, -, -⟩ := cel3 k1
      have nb1 := (hb1.cell (p := ⟨Bb, 0, none⟩) (by have := hK.1; show Bb < _; omega)).trans nb
      have hJ1 : J (widL b (L.take k)) w1.drew := hJn hJk (below_drew hb1)
      have hK1 : KQ B0 B1 B2 W w1.drew := hK.trans (KQ.of_below (below_drew hb1) h02 (Nat.le_trans hB hK.1))
      clear k1 hJk hK nb
      gi_wp2
      refine wpIn_region_still_tail 14 (by kernel_rfl) (by kernel_rfl) (by kernel_rfl) ?_
      simp only [List.take_succ_cons, List.take_zero, List.drop_succ_cons, List.drop_zero]
      still_step
      still_step
      still_step
      still_step
      still_call (Calls.mono (hSt _) fun _ _ h => ⟨h.1, h.2.symm⟩)
      still_step
      still_step
      still_step
      still_step
      still_step
      still_step
      still_step
      still_step
      still_step
      refine wpStill_nil ?_
      change wpListIn _ _ _ _ _ _ _ w1.drew
      generalize World.drew w1 = w2 at *
      obtain ⟨fn, tmps, assign, body, hy, hRd⟩ := hY _ (M, X) _ hJ1 HG.out
      dsimp only [pairV] at hy
      gi_wp2
      refine hRd.mono ?_
      rintro e W3 ⟨rfl, hJ4, hk3⟩
      rw [← HS.out] at hJ4
      gi_wp2
      go_roundw
      case rel => exact ⟨k + 1, by omega, by go_num, hJ4, hK1.trans hk3⟩
      case measure => simp [intOf]; omega
    · obtain rfl : k = L.length := by omega
      gi_wp2
      go_end0
      exact ⟨⟨_, rfl⟩, _, rfl, by rw [List.take_length] at hJk; exact hJk⟩
theorem widths_visits (n : Nat) (hn : 2 ≤ n) (A : Option Addr) (c b : Nat) (L : List Sec) (Bl Bb B0 B1 B2 : Nat) (hL : L.length ≤ 32) (hv : SecOk L) (hb : b ≤ 100) (w : World) (h02 : B0 ≤ B2) (hB : B2 ≤ w.heap.size) (hBl : B1 ≤ Bl) (hBl' : Bl < B2) (hBb : B1 ≤ Bb) (hBb' : Bb < B2)
    (ml : w.cell? ⟨Bl, 0, none⟩ = some (.slice A L.length c)) (mb : w.cell? ⟨Bb, 0, none⟩ = some (.int .i64 b)) (hR : RV Sec.c 3 w B0 A L) :
    VisitsH Tryz.prog n 127 #[.pointer (some ⟨Bl, 0, none⟩), .pointer (some ⟨Bb, 0, none⟩)] pairV (KQ B0 B1 B2) (fun ss => ss = widL b L) (fun pre x => ∃ r, widL b L = pre ++ x :: r) w := fun l J W hW hJ hY h0 =>
  widths_in l Bl Bb B0 B1 B2 n hn A c b L hL hv hb J hY W hJ h02 (Nat.le_trans hB hW.size) hBl hBl' hBb hBb' ((hW.cell (p := ⟨Bl, 0, none⟩) (by show Bl < _; omega)).trans ml) ((hW.cell (p := ⟨Bb, 0, none⟩) (by show Bb < _; omega)).trans mb) (hR.below (hW.mono (by omega))) h0
theorem hgWidths (A : Option Addr) (n c : Nat) (b : Int) (w : World) :
    Calls Tryz.prog 91 #[.slice A n c, .int .i64 b] w fun e w' => e = .returned (.func (.func 127) #[] #[.pointer (some ⟨w.heap.size, 0, none⟩), .pointer (some ⟨w.heap.size + 1, 0, none⟩)]) ∧
      w' = (w.alloc (.cells #[.slice A n c] 63)).alloc (.cells #[.int .i64 b] 3) := by
  go_enter Tryz.func91, Tryz.ntmps91
  go_wp2
  go_ret
  exact ⟨by simp, rfl⟩
end Go.Proofs.YtlkeejhaodedmaaGreatDoor

/- hang: Rope. -/
namespace Go.Proofs.YtlkeejhaodedmaaGreatDoor
open Go.RowKit Go.Shelf
attribute [local go_sem] Oper.semAt_some

/-- The sum of widths. -/
def sumW : List (Nat × Nat) → Nat
  | [] => 0
  | x :: r => x.1 * x.2 + sumW r
theorem sumW_app (l m : List (Nat × Nat)) : sumW (l ++ m) = sumW l + sumW m := by
  induction l with
  | nil => simp [sumW]
  | cons a r ih => simp only [List.cons_append, sumW, ih]; omega
theorem sumW_le {B : Nat} {l : List (Nat × Nat)} (h : ∀ x ∈ l, x.1 * x.2 ≤ B) : sumW l ≤ l.length * B := by
  induction l with
  | nil => simp [sumW]
  | cons a r ih =>
    have h1 := h a (by simp)
    have h2 := ih fun x hx => h x (by simp [hx])
    simp only [sumW, List.length_cons, Nat.add_mul]
    omega
theorem widE_le {b : Nat} {s : Sec} (hb : b ≤ 100) {M P D : Nat} (e1 : s.m = M) (e2 : s.n = P) (e3 : s.d = D) (hM : M ≤ 300) (hP : P ≤ D) : (widE b s).1 ≤ 300 ∧ (widE b s).2 ≤ 465817912560000 := by
  simp only [widE, e1, e2, e3, Int.toNat_natCast]
  refine ⟨hM, ?_⟩
  have h1 : P * (2329089562800 / D) ≤ 2329089562800 := Nat.le_trans (Nat.mul_le_mul hP (Nat.le_refl _)) (Nat.mul_div_le _ _)
  have h2 : 2 * b * 1 * (P * (2329089562800 / D)) ≤ 200 * 2329089562800 := Nat.mul_le_mul (by omega) h1
  rw [← Nat.mul_assoc] at h2
  omega
theorem widL_le {b : Nat} {l : List Sec} (hb : b ≤ 100) (hv : SecOk l) : ∀ x ∈ widL b l, x.1 ≤ 300 ∧ x.2 ≤ 465817912560000 := by
  intro x hx
  obtain ⟨s, hs, rfl⟩ := List.mem_map.1 hx
  obtain ⟨i, hi, rfl⟩ := List.mem_iff_getElem.1 hs
  obtain ⟨M, P, D, e1, e2, e3, _, v2, _, v4, _⟩ := hv i hi
  exact widE_le hb e1 e2 e3 v2 v4
theorem sumW_wid {b : Nat} {l : List Sec} (hb : b ≤ 100) (hv : SecOk l) (hl : l.length ≤ 32) : sumW (widL b l) ≤ 4500000000000000000 := by
  have h := sumW_le (B := 300 * 465817912560000) (fun x hx => Nat.mul_le_mul (widL_le hb hv x hx).1 (widL_le hb hv x hx).2)
  have hlen : (widL b l).length = l.length := by simp [widL]
  rw [hlen] at h
  have := Nat.mul_le_mul hl (Nat.le_refl (300 * 465817912560000))
  omega
theorem KQ.set {Bo B0 B1 B2 : Nat} {W : World} (h0 : B0 ≤ Bo) (h1 : Bo < B1) (v : Value) : KQ B0 B1 B2 W (W.setCell ⟨Bo, 0, none⟩ v) :=
  ⟨(grownBy_setCell' W Bo v).size, fun b hb => Below.heap_setCell W _ v b (by show b ≠ Bo; omega)⟩
theorem cells_own {β : Type} (B : Nat) (o : Obj) (ho : o.isCells = true) : Own (fun (_ : β) W => W.heap[B]? = some o) := fun s X Y row hs hg hrow =>
  (hg.block B (blkSz hs) (fun e' => by obtain ⟨o', ho', hc⟩ := hrow B e'.symm; rw [hs] at ho'; cases ho'; rw [ho] at hc; cases hc)).trans hs
theorem size_own {β : Type} (n : Nat) : Own (fun (_ : β) W => n ≤ W.heap.size) := fun _ _ _ _ hs hg _ => Nat.le_trans hs hg.size
theorem set1 {W : World} {b : Nat} {u : Value} {t : TypeId} (h : W.heap[b]? = some (.cells #[u] t (0, 0))) (v : Value) : (W.setCell ⟨b, 0, none⟩ v).heap[b]? = some (.cells #[v] t (0, 0)) := by
  simp only [World.setCell, Array.getElem?_modify, if_true, h, Option.map_some]
  rfl
def ropS (l : List Sec) (b : Int) : Nat := sumW (widL b.toNat l)
/-- The error of Rope. -/
def ropeE (l : List Sec) (b : Int) : Int := if ropE l b = 0 then (if larB (qn (ropS l b) 2329089562800) (qd (ropS l b) 2329089562800) = true then 4 else 0) else ropE l b
set_option maxHeartbeats 4000000 in
set_option maxRecDepth 100000 in
theorem hgRope (A : Option Addr) (c : Nat) (l : List Sec) (b : Int) (w : World) (hl : l.length ≤ 1000) (hA : OKV Sec.c 3 w A c l) :
    Calls Tryz.prog 39 #[.slice A l.length c, .int .i64 b] w fun e w' => e = .returned (.tuple #[.agg #[.int .i64 (oz (ropeE l b) (qn (ropS l b) 2329089562800 : Nat)), .int .i64 (oz (ropeE l b) (qd (ropS l b) 2329089562800 : Nat))], .int .i64 (ropeE l b)]) ∧ Below w.heap.size w w' := by
  obtain ⟨w1, hw1, k1, hb1, hz1⟩ := boxS w (.cells #[.int .i64 0, .int .i64 0] 23)
  have HC := fun w h => hgCheckRope A c l b w hl h
  have HA := Lib.hid (hA.below hb1)
  by_cases hz : ropE l b = 0
  · obtain ⟨r1, r2⟩ := fst2_zero hz
    obtain ⟨l1, l2, hv⟩ := secsE_zero r1
    obtain ⟨g1, g2⟩ := rngH_zero r2
    rw [hz] at HC
    obtain ⟨E, hE⟩ : ∃ E, ropeE l b = E := ⟨_, rfl⟩
    rw [hE]
    rw [ropeE, if_pos hz] at hE
    obtain ⟨B, rfl⟩ : ∃ B : Nat, b = (B : Int) := ⟨b.toNat, by omega⟩
    have hS := sumW_wid (b := B) (by omega) hv l2
    have hwl := widL_le (b := B) (by omega) hv
    rw [show ropS l (B : Int) = sumW (widL B l) by rw [ropS, Int.toNat_natCast]] at hE ⊢
    have HWL := Lib.hid hwl
    have HV := Lib.hid (show SecOk l from hv)
    have HS := Lib.hid hS
    have HM := fun w => hgMarkAt (sumW (widL B l)) w (by omega)
    have HRV := Lib.hid hA.2.2.2
    generalize hSd : sumW (widL B l) = S at HM hE ⊢
    generalize qn S 2329089562800 = u at HM hE ⊢
    generalize qd S 2329089562800 = v at HM hE ⊢
    have HSd := Lib.hid hSd
    have HE := Lib.hid hE
    clear hz r1 r2 hv hwl hE hA hS hSd
    refine (callsIn_wide (n := 5)).1 (callsIn_of_wp_marks Tryz.func39 rfl trivial (wpIn_wide.2 ?_) rfl)
    simp only [Tryz.ntmps39, List.size_toArray, List.length_cons, List.length_nil, Nat.reduceAdd, Nat.reduceSub, Array.replicate_succ, Array.replicate_zero, List.push_toArray, List.append_toArray, List.nil_append, List.cons_append]
    go_wp2_with fail
    refine (HC _ HA.out).mono ?_
    rintro e w2 ⟨rfl, hb2⟩
    have k2 := blkT k1 hb2
    have B2' := tw hb1 hb2
    obtain ⟨w3, hw3, k3, hb3, hz3⟩ := boxS w2 (.cells #[.int .i64 0] 3)
    have k2' := blkT k2 hb3
    have B3 := tw B2' hb3
    have z13 : w.heap.size < w2.heap.size := blkSz k2
    have HW3 := Lib.hid hw3
    clear hw1 k1 hb1 HC HA hb2 k2 hw3
    go_wp2_with fail
    rw [HW3.out]
    refine (hgWidths A l.length c B _).mono ?_
    rintro e w9 ⟨rfl, hw9⟩
    obtain ⟨w4, hw4, k4, hb4, hz4⟩ := boxS w3 (.cells #[.slice A l.length c] 63)
    rw [hw4] at hw9
    obtain ⟨w5, hw5, k5, hb5, hz5⟩ := boxS w4 (.cells #[.int .i64 (B : Int)] 3)
    rw [hw5] at hw9
    have z4 : w4.heap.size = w3.heap.size + 1 := by rw [← hw4]; simp
    have z5 : w5.heap.size = w3.heap.size + 2 := by rw [← hw5]; simp; omega
    obtain rfl : w5 = w9 := hw9.symm
    have k55 := blkT (blkT k3 hb4) hb5
    have k56 := blkT (blkT k2' hb4) hb5
    have m0 := (cel1 (blkT k4 hb5)).1
    have m1 : w5.cell? ⟨w3.heap.size + 1, 0, none⟩ = some (.int .i64 (B : Int)) := by rw [← z4]; exact (cel1 k5).1
    have B5 := tw (tw B3 hb4) hb5
    have hs3 := hb3.size
    have HZ4 := Lib.hid z4
    have HZ5 := Lib.hid z5
    have hrv : RV Sec.c 3 w5 w.heap.size A l := HRV.out.below B5
    have hvis := widths_visits 4 (by omega) A c B l w3.heap.size (w3.heap.size + 1) w.heap.size w3.heap.size (w3.heap.size + 2) l2 HV.out (by omega) w5 (by omega) (by omega) (by omega) (by omega) (by omega) (by omega) m0 m1 hrv
    have bw5 := B5.size
    clear k4 k5 hw4 hw5 hb4 hb5 m0 m1 k3 k2' z4 z5 hrv
    go_wp2_with fail
    refine (wpIn_wide (n := 5)).1 ?_
    generalize hA0 : (Act.mk _ _) = A0
    refine wpIn_visitsH (n := 5) (by omega) (gf := 127) (lb := #[.pointer (some ⟨w3.heap.size, 0, none⟩), .pointer (some ⟨w3.heap.size + 1, 0, none⟩)]) (by rw [← hA0]; rfl) ?eg hvis KQ.trans (KQ.put (w := w5) (by omega) (by rw [HZ5.out]; omega)) (fun _ => rfl)
      (fun pre W => Below w.heap.size w W ∧ ((W.heap[w2.heap.size]? = some (.cells #[.int .i64 (sumW pre : Nat)] 3 (0, 0)) ∧ W.heap[w.heap.size]? = some (.cells #[.int .i64 0, .int .i64 0] 23 (0, 0))) ∧ w5.heap.size ≤ W.heap.size))
      (OwnFrom.and (ownFrom_below (Nat.le_refl _) bw5) (OwnFrom.and (OwnFrom.and (fun s X Y row hs hg hr => (boxed_own w2.heap.size 3 (fun pre : List (Nat × Nat) => .int .i64 (sumW pre : Nat))) s X Y row hs hg (fun r e => (hr r e).2)) (Own.from (cells_own _ _ rfl) _)) (Own.from (size_own _) _))) ⟨B5, ⟨k55, k56⟩, Nat.le_refl _⟩ ?round ?done
    case eg => exact fun _ _ => by kernel_rfl
    case round =>
      rintro lp pre x W hz ⟨hbW, ⟨hsW, hrW⟩, hzW⟩ ⟨r, hr⟩
      have hx := HWL.out x (by rw [hr]; simp)
      have hle : sumW pre + x.1 * x.2 ≤ 4500000000000000000 := by
        have h1 := HS.out
        rw [hr, sumW_app, sumW] at h1
        omega
      have hp : x.1 * x.2 ≤ 300 * 465817912560000 := Nat.mul_le_mul hx.1 hx.2
      have HSN := Lib.hid (show ((sumW pre : Nat) : Int) + (x.1 : Int) * (x.2 : Int) = ((sumW (pre ++ [x]) : Nat) : Int) by rw [sumW_app, mulI]; simp [sumW])
      have hq : 0 ≤ (x.1 : Int) * (x.2 : Int) ∧ (x.1 : Int) * (x.2 : Int) ≤ 139745373768000000 := by rw [mulI]; omega
      obtain ⟨hq1, hq2⟩ := hq
      have hq3 : ((sumW pre : Nat) : Int) + (x.1 : Int) * (x.2 : Int) ≤ 4500000000000000000 := by rw [mulI]; omega
      clear hx hr hle hp
      subst hA0
      dsimp only [pairV]
      gi_wp2
      refine ⟨⟨rfl, rfl, Nat.le_refl _⟩, KQ.refl _ _ _ _, fun Wb hg hobj _ => ?_⟩
      have z5 := HZ5.out
      have hsb : Wb.heap[w2.heap.size]? = some (.cells #[.int .i64 (sumW pre : Nat)] 3 (0, 0)) := (hg.block _ (by omega) (fun e => by injection e; omega)).trans hsW
      have hrb : Wb.heap[w.heap.size]? = some (.cells #[.int .i64 0, .int .i64 0] 23 (0, 0)) := (hg.block _ (by omega) (fun e => by injection e; omega)).trans hrW
      have hbb : Below w.heap.size w Wb := hbW.grown hg (by have := hbW.size; omega) (fun k e => by cases e; omega)
      have hzb : w5.heap.size + 2 ≤ Wb.heap.size := by have := hg.size; omega
      obtain ⟨y0, y1⟩ := cel1 hsb
      clear hsW hrW hobj
      generalize sumW pre = sp at *
      gi_wp2
      rw [HSN.out]
      exact ⟨⟨Below.heap_setCell _ _ _ _ (by show w5.heap.size ≠ w2.heap.size; omega), Below.heap_setCell _ _ _ _ (by show w5.heap.size + 1 ≠ w2.heap.size; omega), (grownBy_setCell' Wb w2.heap.size _).size⟩, KQ.set (by omega) (by omega) _,
        hbb.setCell (by show w.heap.size ≤ w2.heap.size; omega) _, ⟨set1 hsb _, (Below.heap_setCell _ _ _ _ (by show w.heap.size ≠ w2.heap.size; omega)).trans hrb⟩, by have := (grownBy_setCell' Wb w2.heap.size (.int .i64 (sumW (pre ++ [x]) : Nat))).size; omega⟩
    case done =>
      rintro D ys W hD hS ⟨hbW, ⟨hsW, hrW⟩, hzW⟩ hK
      subst hA0
      rw [hS, HSd.out] at hsW
      obtain ⟨y0, y1⟩ := cel1 hsW
      have zW := blkSz hrW
      go_wp2_with fail
      refine (HM _).mono ?_
      rintro e w6 ⟨rfl, hb6⟩
      obtain ⟨w7, hw7, k7, hb7, hz7⟩ := boxS w6 (.cells #[.int .i64 (u : Int), .int .i64 (v : Int)] 23)
      obtain ⟨x0, x1, -, -⟩ := cel2 k7
      clear HM y0 y1 hsW
      go_wp2_with fail
      refine (hgIsLarge _ _ _).mono ?_
      rintro e w8 ⟨rfl, hb8⟩
      have hK9 := blkT (blkT (blkT hK hb6) hb7) hb8
      have hbw := tw (tw (tw hbW hb6) hb7) hb8
      have k9 := blkT (blkT (blkT hrW hb6) hb7) hb8
      obtain ⟨z0, z1, -, -⟩ := cel2 (blkT k7 hb8)
      obtain ⟨q0, q1, q2, q3⟩ := cel2 k9
      have hDw : D ≠ w.heap.size := by omega
      clear x0 x1 hw7 hK
      by_cases hlb : larB (u : Int) (v : Int) = true
      · have HE4 := Lib.hid (show (4 : Int) = E by rw [← HE.out, if_pos hlb])
        obtain ⟨s1, s2⟩ := set2 k9 (.int .i64 0) (.int .i64 0)
        obtain ⟨t0, t1, -, -⟩ := cel2 s1
        have hbf := hbw.grown s2 hbw.size (fun j e => by cases e; exact Nat.le_refl _)
        have hKf := (s2.block D (blkSz hK9) (fun e => hDw (by injection e))).trans hK9
        rw [hlb]
        clear hlb HE
        go_wp2
        refine ⟨by simp, .inl ⟨_, _, rfl, run_takeDeferred hKf, ?_⟩⟩
        refine ⟨.tuple #[.agg #[.int .i64 0, .int .i64 0], .int .i64 4], ?_, ?_, ?_⟩
        · obtain ⟨r0, r1, -, -⟩ := cel2 ((World.putObj_heap_other (r := D) (o := .deferred none) (k := w.heap.size) (fun e => hDw e.symm)).trans s1)
          simp [results, Tryz.results39, go_sem, r0, r1]
        · rw [← HE4.out]; rfl
        · exact hbf.trans (belowK_b (w := w5) (n₀ := w.heap.size) bw5 _ D _ _ hD hKf rfl rfl)
      · have HE4 := Lib.hid (show (0 : Int) = E by rw [← HE.out, if_neg hlb])
        have hlf : larB (u : Int) (v : Int) = false := by simpa using hlb
        obtain ⟨s1, s2⟩ := set2 k9 (.int .i64 u) (.int .i64 v)
        obtain ⟨t0, t1, -, -⟩ := cel2 s1
        have hbf := hbw.grown s2 hbw.size (fun j e => by cases e; exact Nat.le_refl _)
        have hKf := (s2.block D (blkSz hK9) (fun e => hDw (by injection e))).trans hK9
        rw [hlf]
        clear hlb hlf HE
        go_wp2
        refine ⟨by simp, .inl ⟨_, _, rfl, run_takeDeferred hKf, ?_⟩⟩
        refine ⟨.tuple #[.agg #[.int .i64 u, .int .i64 v], .int .i64 0], ?_, ?_, ?_⟩
        · obtain ⟨r0, r1, -, -⟩ := cel2 ((World.putObj_heap_other (r := D) (o := .deferred none) (k := w.heap.size) (fun e => hDw e.symm)).trans s1)
          simp [results, Tryz.results39, go_sem, r0, r1]
        · rw [← HE4.out, oz0, oz0]
        · exact hbf.trans (belowK_b (w := w5) (n₀ := w.heap.size) bw5 _ D _ _ hD hKf rfl rfl)
  · have hE : ropeE l b = ropE l b := by rw [ropeE, if_neg hz]
    rw [hE, ozE hz, ozE hz]
    generalize ropE l b = E at HC hz ⊢
    have hne := nzH hz
    clear hz hE
    go_enter Tryz.func39, Tryz.ntmps39
    go_wp2_with fail
    refine (HC _ HA.out).mono ?_
    rintro e w3 ⟨rfl, hb3⟩
    have k3 := blkT k1 hb3
    obtain ⟨q0, q1, q2, q3⟩ := cel2 k3
    obtain ⟨s1, s2⟩ := set2 k3 (.int .i64 0) (.int .i64 0)
    obtain ⟨t0, t1, -, -⟩ := cel2 s1
    have hbw := tw hb1 hb3
    have hbf := hbw.grown s2 hbw.size (fun j e => by cases e; exact Nat.le_refl _)
    go_wp2
    exact bodyPost_ret (v := .tuple #[.agg #[.int .i64 0, .int .i64 0], .int .i64 E]) (by simp [results, Tryz.results39, go_sem, t0, t1]) rfl ⟨rfl, hbf⟩
end Go.Proofs.YtlkeejhaodedmaaGreatDoor

/- hang: the numerators of the marks of a rope. -/
namespace Go.Proofs.YtlkeejhaodedmaaGreatDoor
open Go.RowKit Go.Shelf
attribute [local go_sem] Oper.semAt_some

def icN (n : Nat) : List Value := [.int .i64 (n : Int)]
theorem icN1 (n : Nat) : (icN n).length = 1 := rfl
def cntW : List (Nat × Nat) → Nat
  | [] => 0
  | x :: r => x.1 + cntW r
theorem cntW_app (l m : List (Nat × Nat)) : cntW (l ++ m) = cntW l + cntW m := by
  induction l with
  | nil => simp [cntW]
  | cons a r ih => simp only [List.cons_append, cntW, ih]; omega
theorem cntW_wid (b : Nat) (l : List Sec) : cntW (widL b l) = totM l := by
  induction l with
  | nil => rfl
  | cons a r ih =>
    have e : widL b (a :: r) = widE b a :: widL b r := rfl
    rw [e, cntW, ih, totM, widE]
/-- The numerators behind the first mark. -/
def numsL : Nat → List (Nat × Nat) → List Nat
  | _, [] => []
  | s, x :: r => (List.range x.1).map (fun i => s + (i + 1) * x.2) ++ numsL (s + x.1 * x.2) r
theorem numsL_app (l m : List (Nat × Nat)) : ∀ s, numsL s (l ++ m) = numsL s l ++ numsL (s + sumW l) m := by
  induction l with
  | nil => intro s; simp [numsL, sumW]
  | cons a r ih =>
    intro s
    simp only [List.cons_append, numsL, ih, sumW, List.append_assoc, Nat.add_assoc]
theorem numsL_len (l : List (Nat × Nat)) : ∀ s, (numsL s l).length = cntW l := by
  induction l with
  | nil => intro s; rfl
  | cons a r ih => intro s; simp [numsL, cntW, ih]
def marksN (l : List (Nat × Nat)) : List Nat := 0 :: numsL 0 l
theorem marksN_len (l : List (Nat × Nat)) : (marksN l).length = cntW l + 1 := by simp [marksN, numsL_len]
theorem marksN_snoc (l : List (Nat × Nat)) (x : Nat × Nat) : marksN (l ++ [x]) = marksN l ++ (List.range x.1).map (fun i => sumW l + (i + 1) * x.2) := by
  simp [marksN, numsL_app, numsL]
theorem marksN_last (l : List (Nat × Nat)) : (marksN l)[cntW l]? = some (sumW l) := by
  rcases List.eq_nil_or_concat l with rfl | ⟨r, x, h⟩
  · rfl
  · rw [List.concat_eq_append] at h
    subst h
    rcases Nat.eq_zero_or_pos x.1 with h0 | h0
    · have e1 : marksN (r ++ [x]) = marksN r := by rw [marksN_snoc, h0]; simp
      have e2 : cntW (r ++ [x]) = cntW r := by rw [cntW_app, cntW, h0]; simp [cntW]
      have e3 : sumW (r ++ [x]) = sumW r := by rw [sumW_app, sumW, h0]; simp [sumW]
      rw [e1, e2, e3]
      exact marksN_last r
    · rw [marksN_snoc, cntW_app, sumW_app, List.getElem?_append_right (by rw [marksN_len]; simp [cntW]; omega), marksN_len]
      have e : cntW r + cntW [x] - (cntW r + 1) = x.1 - 1 := by simp [cntW]; omega
      rw [e, List.getElem?_map, List.getElem?_range (by omega)]
      simp [sumW]
      congr 1
      omega
termination_by l.length
/-- What the row holds once pre has been visited. -/
def numF (N : Nat) (pre : List (Nat × Nat)) : Array Value := ((marksN pre ++ List.replicate (N - (cntW pre + 1)) 0).map fun n : Nat => Value.int .i64 (n : Int)).toArray
theorem numF_size {N : Nat} {pre : List (Nat × Nat)} (h : cntW pre + 1 ≤ N) : (numF N pre).size = N := by
  simp [numF, marksN_len]
  omega
theorem numF_at {N : Nat} {pre : List (Nat × Nat)} : (numF N pre).toList[cntW pre]? = some (.int .i64 (sumW pre : Nat)) := by
  have h := marksN_last pre
  have hl : cntW pre < (marksN pre).length := by rw [marksN_len]; omega
  simp only [numF, List.getElem?_map, List.getElem?_append_left hl, h, Option.map_some]
theorem numF_snoc {N : Nat} {pre : List (Nat × Nat)} {x : Nat × Nat} (h : cntW pre + 1 + x.1 ≤ N) :
    ((numF N pre).toList.take (cntW pre + 1) ++ (stepsL (sumW pre) x.2 x.1).flatMap ic ++ (numF N pre).toList.drop (cntW pre + 1 + x.1)).toArray = numF N (pre ++ [x]) := by
  have e1 : (stepsL (sumW pre) x.2 x.1).flatMap ic = ((List.range x.1).map (fun i => sumW pre + (i + 1) * x.2)).map fun n : Nat => Value.int .i64 (n : Int) := by
    rw [stepsL, List.flatMap_map, List.map_map, List.map_eq_flatMap]
    rfl
  rw [e1]
  unfold numF
  rw [marksN_snoc, cntW_app]
  congr 1
  simp only [List.map_append, List.map_replicate]
  rw [List.take_append_of_le_length (by simp [marksN_len]), List.take_of_length_le (by simp [marksN_len])]
  rw [List.append_assoc, List.append_assoc]
  congr 2
  rw [List.drop_append, List.drop_of_length_le (by simp [marksN_len])]
  simp only [List.length_map, marksN_len, List.nil_append, List.drop_replicate]
  congr 1
  simp [cntW]
  omega
end Go.Proofs.YtlkeejhaodedmaaGreatDoor

/- A region that draws its order, inside a fence that shuts nothing out: loads are taken first where a condition on the world holds them; the condition need not hold behind an operation that waits for all others. -/
namespace Go.Proofs.YtlkeejhaodedmaaGreatDoor
open Go.RowKit

section
variable {F : Fence} {n : Nat} {P : Program} {ops : Array Oper} {md : Region.Mode} {Q : Exit → Act → World → Prop} {S : World → Prop}
theorem yieldsIf_wpOpIn (hF : WideF F) {i : Nat} {o : Oper} {v : Value} {a : Act} (hnd : noDefer ops = true) (hi : ops[i]? = some o) (hy : YieldsIf P ops S o v a)
    {K : Act → World → Prop} {w : World} (hS : S w) (h : K (a.put o.dst v) w) : wpOpIn F n P ops Q i K a w := by
  unfold wpOpIn
  simp only [hi]
  rcases hy with ⟨hw, hv⟩ | ⟨hw, rfl⟩
  · simp only [hw, if_true, Oper.wpIn, Oper.semAt_eq _ _ _ (noDefer_spec hnd hi), hv w hS, Oper.uponIn]; exact ⟨fun f _ => hF.fn f, h⟩
  · simp only [hw, Bool.false_eq_true, if_false]; exact ⟨fun f _ => hF.fn f, h⟩
theorem wpOpIn_putIf (hF : WideF F) (hnd : noDefer ops = true) {j : Nat} {oi oj : Oper} {v : Value} (hj : ops[j]? = some oj) (hap : oi.apart ops oj = true)
    (hsi : ∀ cs b, oi.op ≠ .select cs b) (hsj : ∀ cs b, oj.op ≠ .select cs b)
    (hQ : ∀ c a w, Q (.panic c) (a.put oi.dst v) w → Q (.panic c) a w) {K : Act → World → Prop} {a : Act} {w : World}
    (hy : YieldsIf P ops S oi v a) (h : wpOpIn F n P ops Q j K (a.put oi.dst v) w) :
    wpOpIn F n P ops Q j (fun a' w' => YieldsIf P ops S oi v a' ∧ K (a'.put oi.dst v) w') a w := by
  obtain ⟨h1, h2, h3⟩ := Oper.apart_spec hap
  have keep : ∀ (a : Act), YieldsIf P ops S oi v a → ∀ u, YieldsIf P ops S oi v (a.put oj.dst u) := fun a hy u =>
    hy.of_same (execOp_put oi hsi a oj.dst u h3) (wanted_put oi a oj.dst u h3)
  have keepD : ∀ d, YieldsIf P ops S oi v { a with defers := d :: a.defers } := fun d => hy.of_same rfl rfl
  have hnj := noDefer_spec hnd hj
  unfold wpOpIn at *
  simp only [hj] at *
  rw [wanted_put oj a oi.dst v h1] at h
  split
  · rename_i hw
    simp only [hw, if_true] at h
    unfold Oper.wpIn at *
    refine ⟨fun f _ => hF.fn f, ?_⟩
    have h := h.2
    rw [Oper.semAt_eq _ _ _ hnj, execOp_put oj hsj a oi.dst v h1] at h
    rw [Oper.semAt_eq _ _ _ hnj]
    generalize (execOp a.eval oj).run P w = r at *
    cases r with
    | ok x w' =>
      cases x <;> simp only [Oper.uponIn] at h ⊢
      case value u => exact ⟨keep a hy u, by rw [← Act.put_comm a v u h2]; exact h⟩
      case skip => exact ⟨keep a hy _, by rw [← Act.put_comm a v undef h2]; exact h⟩
      case defer d =>
        refine ⟨keep _ (keepD d) _, ?_⟩
        rw [← Act.put_comm _ v undef h2, ← Act.put_defers]
        exact h
      case enter f args =>
        refine ⟨h.1, CallsIn.mono h.2 fun e w'' he => ?_⟩
        cases e with
        | returned u => exact ⟨keep a hy u, by rw [← Act.put_comm a v u h2]; exact he⟩
        | panicked c => exact hQ _ _ _ he
        | outgrown => exact he
      case row row args => exact ⟨h.1, RowsIn.mono h.2 fun u w'' he => ⟨keep a hy u, by rw [← Act.put_comm a v u h2]; exact he⟩⟩
      case round l f tmps assign body =>
        refine ⟨h.1, RoundIn.mono h.2 fun e w'' he => ?_⟩
        cases e with
        | returned u => exact ⟨keep a hy u, by rw [← Act.put_comm a v u h2]; exact he⟩
        | panicked c => exact hQ _ _ _ he
        | outgrown => exact he
    | halt x w' =>
      cases x <;> simp only [Oper.uponIn] at h ⊢
      case panic u => exact hQ _ _ _ h
  · rename_i hw
    simp only [hw] at h
    exact ⟨fun f _ => hF.fn f, keep a hy _, by rw [← Act.put_comm a v undef h2]; exact h.2⟩
/-- The operation waits for all others. -/
def lastB (md : Region.Mode) (ops : Array Oper) (j : Nat) : Bool := (List.range ops.size).all fun i => decide (i = j) || Region.waitsFor md ops j i
def wpAnyK (F : Fence) (n : Nat) (P : Program) (md : Region.Mode) (ops : Array Oper) (Q : Exit → Act → World → Prop) (S : World → Prop) : Nat → Array Bool → Act → World → Prop
  | 0, listed, a, w => Region.ready md ops listed = [] ∧ Q .normal a w
  | fuel + 1, listed, a, w =>
    (Region.ready md ops listed = [] → Q .normal a w) ∧
    ∀ i ∈ Region.ready md ops listed, wpOpIn F n P ops Q i (fun a' w' => (lastB md ops i = false → S w') ∧ wpAnyK F n P md ops Q S fuel (listed.setIfInBounds i true) a' w') a w
theorem wpAnyIn_of_K : ∀ (fuel : Nat) (listed : Array Bool) (a : Act) (w : World), wpAnyK F n P md ops Q S fuel listed a w → wpAnyIn F n P md ops Q fuel listed a w
  | 0, _, _, _, h => h
  | fuel + 1, _, _, _, h => ⟨h.1, fun i hi => wpOpIn_mono (fun a' w' h' => wpAnyIn_of_K fuel _ a' w' h'.2) (h.2 i hi)⟩
theorem wpAnyK_first (hF : WideF F) (hnd : noDefer ops = true) {i : Nat} {oi : Oper} {v : Value} (hi : ops[i]? = some oi) (hsel : ∀ (j : Nat) (o : Oper) cs b, ops[j]? = some o → o.op ≠ .select cs b)
    (hQ : ∀ c a w, Q (.panic c) (a.put oi.dst v) w → Q (.panic c) a w) :
    ∀ (fuel : Nat) (listed : Array Bool) (a : Act) (w : World),
      (∀ j oj, ops[j]? = some oj → j ≠ i → listed.getD j true = false → (∀ e ∈ oj.after, Region.binds md e = true → e.on ≠ i) → oi.apart ops oj = true) →
      i ∈ Region.ready md ops listed → YieldsIf P ops S oi v a → S w →
      wpAnyK F n P md ops Q S fuel (listed.setIfInBounds i true) (a.put oi.dst v) w → wpAnyK F n P md ops Q S (fuel + 1) listed a w := by
  intro fuel
  induction fuel with
  | zero =>
    intro listed a w _ hr hy hS H
    refine ⟨fun h => (by rw [h] at hr; cases hr), fun j hj => ?_⟩
    by_cases hji : j = i
    · subst hji; exact yieldsIf_wpOpIn hF hnd hi hy hS ⟨fun _ => hS, H⟩
    · have := ready_mono hj hji
      rw [H.1] at this
      cases this
  | succ fuel ih =>
    intro listed a w hfree hr hy hS H
    refine ⟨fun h => (by rw [h] at hr; cases hr), fun j hj => ?_⟩
    by_cases hji : j = i
    · subst hji; exact yieldsIf_wpOpIn hF hnd hi hy hS ⟨fun _ => hS, H⟩
    · have h1 := H.2 j (ready_mono hj hji)
      obtain ⟨hjun, oj, hoj, hall⟩ := mem_ready.1 hj
      have hnot : ∀ e ∈ oj.after, Region.binds md e = true → e.on ≠ i := fun e he hb heq => by
        have h1 := hall e he hb
        have h0 := (mem_ready.1 hr).1
        rw [heq, getD_both h0] at h1
        cases h1
      have hlast : lastB md ops j = false := by
        cases hl : lastB md ops j with
        | false => rfl
        | true =>
          exfalso
          have hil : i < ops.size := (Array.getElem?_eq_some_iff.1 hi).1
          have h5 := List.all_eq_true.1 hl i (List.mem_range.2 hil)
          simp only [Bool.or_eq_true, decide_eq_true_eq] at h5
          rcases h5 with h5 | h5
          · exact hji h5.symm
          · obtain ⟨o', ho', e, he, hb, hon⟩ := Region.waitsFor_spec h5
            have : o' = oj := Option.some.inj (ho'.symm.trans hoj)
            subst this
            exact hnot e he hb hon
      have h2 := wpOpIn_putIf hF hnd hoj (hfree j oj hoj hji hjun hnot) (fun cs b => hsel i oi cs b hi) (fun cs b => hsel j oj cs b hoj) hQ hy h1
      have hfree' : ∀ k ok, ops[k]? = some ok → k ≠ i → (listed.setIfInBounds j true).getD k true = false →
          (∀ e ∈ ok.after, Region.binds md e = true → e.on ≠ i) → oi.apart ops ok = true := fun k ok hk hki hun hno => by
        refine hfree k ok hk hki ?_ hno
        by_cases hjk : j = k
        · subst hjk; exact hjun
        · rw [getD_set_ne true hjk] at hun; exact hun
      refine wpOpIn_mono (fun a' w' h3 => ⟨h3.2.1, ih (listed.setIfInBounds j true) a' w' hfree' (ready_mono hr (Ne.symm hji)) h3.1 (h3.2.1 hlast) ?_⟩) h2
      rw [Array.setIfInBounds_comm _ _ hji]
      exact h3.2.2
theorem wpAnyK_take (hF : WideF F) (hnd : noDefer ops = true) {i : Nat} {oi : Oper} {v : Value} {fuel : Nat} {listed : Array Bool} {a : Act} {w : World} (hi : ops[i]? = some oi)
    (hs : Region.noSelect ops = true) (hf : Region.free md ops listed i = true) (hr : (Region.ready md ops listed).contains i = true)
    (hQ : ∀ c a w, Q (.panic c) (a.put oi.dst v) w → Q (.panic c) a w) (hy : YieldsIf P ops S oi v a) (hS : S w)
    (h : wpAnyK F n P md ops Q S fuel (listed.setIfInBounds i true) (a.put oi.dst v) w) : wpAnyK F n P md ops Q S (fuel + 1) listed a w :=
  wpAnyK_first hF hnd hi (Region.noSelect_spec hs) hQ fuel listed a w (Region.free_spec hi hf) (by simpa using hr) hy hS h
/-- One operation comes up next, and is carried out. -/
theorem wpAnyK_one {i : Nat} {o : Oper} {fuel : Nat} {listed : Array Bool} {a : Act} {w : World} (hr : Region.ready md ops listed = [i]) (ho : ops[i]? = some o) (hw : Region.wanted o (yielded ops a.tmps) = true)
    (h : ∀ K' : Act → World → Prop, Hid (∀ a w, (lastB md ops i = false → S w) → wpAnyK F n P md ops Q S fuel (listed.setIfInBounds i true) a w → K' a w) → Oper.wpIn F n P o a w K' Q) : wpAnyK F n P md ops Q S (fuel + 1) listed a w :=
  ⟨fun h0 => (by rw [hr] at h0; cases h0), fun j hj => by
    rw [hr] at hj
    have hji : j = i := by simpa using hj
    subst hji
    unfold wpOpIn
    simp only [ho, hw, if_true]
    exact h _ (Lib.hid fun a w h1 h2 => ⟨h1, h2⟩)⟩
theorem wpAnyK_done {listed : Array Bool} {a : Act} {w : World} (hr : Region.ready md ops listed = []) (h : Q .normal a w) :
    ∀ fuel, wpAnyK F n P md ops Q S fuel listed a w
  | 0 => ⟨hr, h⟩
  | _ + 1 => ⟨fun _ => h, by rw [hr]; simp⟩
theorem wpIn_region_K {id : Nat} {a : Act} {w : World} (hm : P.follows .mixedOrders = true)
    (h : wpAnyK F n P .any ops Q S ops.size (Array.replicate ops.size false) a w.drew) : (Code.region id ops true).wpIn F n P Q a w :=
  wpIn_region_any hm (wpAnyIn_of_K _ _ _ _ h)
end
theorem layGH : (∀ (α : Type) (a : List α) (i : Nat) (h : i < a.toArray.size), a.toArray[i] = a[i]'(by simpa using h)) ∧ (∀ (α : Type) (a : α) (l : List α) (i : Nat) (h : i + 1 < (a :: l).length), (a :: l)[i + 1] = l[i]'(by simpa using h)) ∧ (∀ (α : Type) (a : α) (l : List α) (h : 0 < (a :: l).length), (a :: l)[0] = a) :=
  ⟨fun _ _ _ _ => by simp, fun _ _ _ _ _ => rfl, fun _ _ _ _ => rfl⟩
theorem layAH : ((∀ (α : Type) (a : List α) (i : Nat) (h : i < a.toArray.size), a.toArray[i] = a[i]'(by simpa using h)) ∧ (∀ (α : Type) (a : α) (l : List α) (i : Nat) (h : i + 1 < (a :: l).length), (a :: l)[i + 1] = l[i]'(by simpa using h)) ∧ (∀ (α : Type) (a : α) (l : List α) (h : 0 < (a :: l).length), (a :: l)[0] = a)) ∧ (∀ (a : Act) (i : Nat) (v : Value), a.put (some i) v = { a with tmps := a.tmps.setIfInBounds i v }) ∧ (∀ (l : List Value) (i : Nat) (v : Value), l.toArray.setIfInBounds i v = (l.set i v).toArray) ∧ (∀ (x : Value) (l : List Value) (v : Value), (x :: l).set 0 v = v :: l) ∧ (∀ (x : Value) (l : List Value) (i : Nat) (v : Value), (x :: l).set (i + 1) v = x :: l.set i v) :=
  ⟨layGH, fun _ _ _ => rfl, fun _ _ _ => by simp, fun _ _ _ => rfl, fun _ _ _ _ => rfl⟩
end Go.Proofs.YtlkeejhaodedmaaGreatDoor
