/- Helpers, part 3. -/
import Derived.Test.YtfmfpnnglogkmaaGreatDoorW2
import Derived.Shelf.Strings.BuilderK
import Derived.Deep.RegionHeld3
/- The knots along an edge: Walk of taper. -/
namespace Go.Proofs.YtfmfpnnglogkmaaGreatDoor
open Go.RowKit Go.Shelf Ck
attribute [local go_sem] Oper.semAt_some

/-- The knots along an edge, from its first one on. -/
def walkOf (k : Knot) (l : List (UInt8 × Knot × Knot)) : List Knot := k :: l.map fun q => q.2.2
def walkK (σ : Int) (k : Knot) (L : List UInt8) : List Knot := walkOf k (legsL σ k L)
theorem walkOf_snoc (k : Knot) (l : List (UInt8 × Knot × Knot)) (q : UInt8 × Knot × Knot) : walkOf k (l ++ [q]) = walkOf k l ++ [q.2.2] := by simp [walkOf]
theorem walkOf_length (k : Knot) (l : List (UInt8 × Knot × Knot)) : (walkOf k l).length = l.length + 1 := by simp [walkOf]
theorem walkK_length (σ : Int) (k : Knot) (L : List UInt8) : (walkK σ k L).length = L.length + 1 := by rw [walkK, walkOf_length, legsL_length]
theorem walkK_at (σ : Int) : ∀ (L : List UInt8) (k : Knot) (i : Nat) (h : i < (walkK σ k L).length), (walkK σ k L)[i] = posK σ k (L.take i)
  | [], k, i, h => by
    have : i = 0 := by rw [walkK_length] at h; simpa using h
    subst this
    rfl
  | c :: r, k, 0, h => rfl
  | c :: r, k, i + 1, h => by
    have hl : i < (walkK σ (stepK σ k c) r).length := by rw [walkK_length] at h ⊢; simp at h; omega
    have ih := walkK_at σ r (stepK σ k c) i hl
    have e : walkK σ k (c :: r) = k :: walkK σ (stepK σ k c) r := by simp [walkK, walkOf, legsL]
    simp only [e, List.getElem_cons_succ]
    rw [ih]
    rfl
def WalkPost (l : List Knot) (w : World) (e : Ending) (w' : World) : Prop :=
  ∃ v, e = .returned (.tuple #[v, .int .i64 0]) ∧ w'.ownsRow w.heap.size 43 2 v l.length (kcellsL l) ∧ Below w.heap.size w w'
theorem krow_one (w : World) (base : Nat) (hb : base ≤ w.heap.size) (t : TypeId) (u v : Value) : (w.alloc (.cells #[u, v] t)).ownsRow base t 2 (.slice (some ⟨w.heap.size, 0, none⟩) 1 1) 1 [u, v] :=
  ⟨rfl, .inr ⟨w.heap.size, 1, #[u, v], rfl, hb, heap_alloc_new _ _, Nat.le_refl _, by decide, rfl, rfl⟩⟩
/-- A row of knots beside the box of a knot that another function keeps: the row lies below block B, or has room for two. -/
def KRow (W : World) (B n₀ : Nat) (v : Value) (k : Nat) (xs : List Value) : Prop := W.ownsRow n₀ 43 2 v k xs ∧ (k ≤ 1 → ∀ g, v.ownBlock = some g → g < B)
theorem KRow.alloc {W : World} {B n₀ : Nat} {v : Value} {k : Nat} {xs : List Value} (h : KRow W B n₀ v k xs) (o : Obj) : KRow (W.alloc o) B n₀ v k xs := ⟨h.1.alloc o, h.2⟩
theorem bides_krow {β : Type} {B Bo n₀ B1 : Nat} {e t : TypeId} (k : β → Nat) (f : β → List Value) (hB : Bo < B) (hB1 : B1 ≤ B) : Bides B e (fun (s : β) W => ∃ v, Boxed W Bo t v ∧ KRow W B1 n₀ v (k s) (f s)) := by
  rintro s W W' r ⟨v, hv, hr, hk1⟩ hg hrow
  refine ⟨v, (hg.block Bo (Array.getElem?_eq_some_iff.1 hv).1 (fun e' => by have := (hrow Bo e'.symm).1; omega)).trans hv, hr.kept hg ?_, hk1⟩
  rcases hr.2 with ⟨rfl, _⟩ | ⟨g, cap, cur, rfl, _, hgb, h1, _, h3, _⟩
  · exact .inl rfl
  · refine .inr fun e' => ?_
    obtain ⟨hBg, o, ho, hk⟩ := hrow g (by simpa [Value.ownBlock] using e'.symm)
    rw [hgb] at ho
    cases ho
    rcases hk with hk | ⟨cs, f', hk, hk2⟩
    · cases hk
    · injection hk with h4
      subst h4
      have : ¬ k s ≤ 1 := fun h => by have := hk1 h g rfl; omega
      omega
theorem KT.appendedK {W w1 : World} {Bo B1 n₀ : Nat} {k : Nat} {v : Value} {xs : List Value} {tmp : Obj} (hB : Bo < B1) (hrow : KRow W B1 n₀ v k xs) (hgrow : (W.alloc tmp).grownBy w1 v.ownBlock) (v' : Value) : KT B1 43 W (w1.setCell ⟨Bo, 0, none⟩ v') := by
  refine ⟨?_, fun b o hb ho hk => ?_⟩
  · have := hgrow.size; simp at this ⊢; omega
  · have hlt := (Array.getElem?_eq_some_iff.1 ho).1
    have hnb : some b ≠ v.ownBlock := by
      intro e'
      rcases hrow.1.2 with ⟨rfl, _⟩ | ⟨g, cap, cur, rfl, _, hgb, h1, _, h3, _⟩
      · simp [Value.ownBlock] at e'
      · obtain rfl : b = g := by simpa [Value.ownBlock] using e'
        rw [hgb] at ho
        cases ho
        rcases hk with hk | ⟨cs, t, f, hk, hk2⟩
        · cases hk
        · injection hk with h4 h2
          subst h4
          rcases hk2 with hk2 | ⟨_, hk2⟩
          · exact hk2 h2.symm
          · have : ¬ k ≤ 1 := fun h => by have := hrow.2 h b rfl; omega
            omega
    rw [Below.heap_setCell _ _ _ b (by show b ≠ Bo; omega), hgrow.block b (by simp; omega) hnb, Below.heap_alloc _ _ _ hlt]
    exact ho

set_option maxHeartbeats 4000000 in
set_option maxRecDepth 100000 in
theorem tpWalk (x y : Int) (s : ByteArray) (c : Nat) (o : Bool) (w : World) (h : EdgeOk x y s c) :
    Calls Tryz.prog 17 #[.agg #[.int .i64 x, .int .i64 y], .string s, .int .i64 c, .bool o] w (WalkPost (walkK (sg o) ⟨x, y⟩ (Lib.repeatL s.data.toList c)) w) := by
  have HE := Lib.hid h
  have HL := Lib.hid (h.legs o)
  have HLEN := Lib.hid (show (legsL (sg o) ⟨x, y⟩ (Lib.repeatL s.data.toList c)).length ≤ 256 by rw [legsL_length, rep_len]; exact h.2.2.1)
  obtain ⟨hs, h1, h2, x1, x2, y1, y2, hp⟩ := h
  have HS := Lib.hid hs
  clear hs h1 hp
  refine (callsIn_wide (n := 6)).1 (callsIn_of_wp_marks Tryz.func17 rfl trivial (wpIn_wide.2 ?_) rfl)
  simp only [Tryz.ntmps17, List.size_toArray, List.length_cons, List.length_nil, Nat.reduceAdd, Nat.reduceSub, Array.replicate_succ, Array.replicate_zero, List.push_toArray, List.append_toArray, List.nil_append, List.cons_append]
  obtain ⟨w1, hw1, e0, e1, hb1, hz1⟩ := box2 w (.int .i64 x) (.int .i64 y) 43
  have HW1 := Lib.hid hw1
  clear hw1
  go_wp2_with fail
  rw [← HW1.out]
  refine (tpCheckEdge x y s c o _ HE.out).mono ?_
  rintro e w2 ⟨rfl, hb2⟩
  have f0 := (hb2.cell (p := ⟨w.heap.size, 0, none⟩) hz1).trans e0
  have f1 := (hb2.cell (p := ⟨w.heap.size, 1, none⟩) hz1).trans e1
  have hbw := hb1.trans (hb2.mono hb1.size)
  have hz2 := hb2.size
  have hwz := hbw.size
  obtain ⟨w6, hw6, hb3, hsz6, bO, hrow0⟩ : ∃ w6, (w2.alloc (.cells #[.int .i64 x, .int .i64 y] 43)).alloc (.cells #[.slice (some ⟨w2.heap.size, 0, none⟩) 1 1] 46) = w6 ∧ Below w2.heap.size w2 w6 ∧ w6.heap.size = w2.heap.size + 2 ∧ Boxed w6 (w2.heap.size + 1) 46 (.slice (some ⟨w2.heap.size, 0, none⟩) 1 1) ∧ w6.ownsRow w.heap.size 43 2 (.slice (some ⟨w2.heap.size, 0, none⟩) 1 1) 1 [.int .i64 x, .int .i64 y] := by
    refine ⟨_, rfl, ((Below.refl _ _).alloc (Nat.le_refl _) _).alloc (by simp) _, by simp, ?_, (krow_one w2 w.heap.size hwz _ _ _).alloc _⟩
    have := Boxed.new (w2.alloc (.cells #[.int .i64 x, .int .i64 y] 43)) 46 (.slice (some ⟨w2.heap.size, 0, none⟩) 1 1)
    rwa [World.size_alloc] at this
  have g0 := (hb3.cell (p := ⟨w.heap.size, 0, none⟩) (by show w.heap.size < _; omega)).trans f0
  have g1 := (hb3.cell (p := ⟨w.heap.size, 1, none⟩) (by show w.heap.size < _; omega)).trans f1
  have HSZ := Lib.hid hsz6
  have HW6 := Lib.hid hw6
  have F0 : ((w2.alloc (.cells #[.int .i64 x, .int .i64 y] 43)).alloc (.cells #[.slice (some ⟨w2.heap.size, 0, none⟩) 1 1] 46)).cell? ⟨w.heap.size, 0, none⟩ = some (.int .i64 x) := by rw [hw6]; exact g0
  have F1 : ((w2.alloc (.cells #[.int .i64 x, .int .i64 y] 43)).alloc (.cells #[.slice (some ⟨w2.heap.size, 0, none⟩) 1 1] 46)).cell? ⟨w.heap.size, 1, none⟩ = some (.int .i64 y) := by rw [hw6]; exact g1
  clear hw6 e0 e1 hsz6
  go_wp2_with fail
  rw [HW6.out]
  clear f0 f1 F0 F1
  refine (tpLegs x y s c o _).mono ?_
  rintro e w7 ⟨rfl, hw7⟩
  obtain ⟨W9, hW9, hb9, hz9, q0, q1, q2, q3⟩ := legs_boxes w6 x y c s o
  rw [← hW9] at hw7
  have hw7' := hw7.symm
  subst hw7'
  clear hW9
  have HZ9 := Lib.hid hz9
  have hz6 := HSZ.out
  have bO9 : Boxed W9 (w2.heap.size + 1) 46 (.slice (some ⟨w2.heap.size, 0, none⟩) 1 1) := (hb9.block _ (by omega)).trans bO
  have hrow9 : KRow W9 w6.heap.size w.heap.size (.slice (some ⟨w2.heap.size, 0, none⟩) 1 1) 1 [.int .i64 x, .int .i64 y] :=
    ⟨hrow0.kept (row := none) ⟨hb9.os, hb9.tape, hb9.output, hb9.size, fun i hi _ => hb9.block i hi⟩ (.inr (by simp [Value.ownBlock])), fun _ g hg => by simp [Value.ownBlock] at hg; omega⟩
  have bw6 := hbw.trans (hb3.mono hbw.size)
  have bw9 := bw6.trans (hb9.mono bw6.size)
  obtain ⟨ib, hib, hi0, hi1, hi2⟩ := info_parts Tryz.info43
  have HB := Lib.hid hib
  have HB0 := Lib.hid hi0
  have HB1 := Lib.hid hi1
  have HB2 := Lib.hid hi2
  clear hz9 hw7 hz6 hib hi0 hi1 hi2 hrow0
  go_wp2_with fail
  have hvis := legs_visits w6.heap.size 4 w6.heap.size (w6.heap.size + 1) (w6.heap.size + 2) (w6.heap.size + 3) 43 (by omega) x y s c o W9 (by decide) HS.out h2 (by omega) (by omega) (by omega) (by omega) (by omega) (by rw [HZ9.out]; omega) q0 q1 q2 q3
  refine (wpIn_wide (n := 5)).1 ?_
  generalize hA0 : (Act.mk _ _) = A0
  refine wpIn_visits (n := 5) (by omega) (gf := 99) (lb := #[.pointer (some ⟨w6.heap.size, 0, none⟩), .pointer (some ⟨w6.heap.size + 1, 0, none⟩), .pointer (some ⟨w6.heap.size + 2, 0, none⟩), .pointer (some ⟨w6.heap.size + 3, 0, none⟩)]) (by rw [← hA0]; rfl) ?eg hvis KT.trans (KT.put (w := W9)) (fun _ => rfl)
    (fun pre W => (∃ v, Boxed W (w2.heap.size + 1) 46 v ∧ KRow W w6.heap.size w.heap.size v (walkOf ⟨x, y⟩ pre).length (kcellsL (walkOf ⟨x, y⟩ pre))) ∧ (Below w.heap.size w W ∧ W9.heap.size ≤ W.heap.size))
    (Bides.and (bides_krow (fun pre => (walkOf ⟨x, y⟩ pre).length) (fun pre => kcellsL (walkOf ⟨x, y⟩ pre)) (by rw [HZ9.out, HSZ.out]; omega) (by rw [HZ9.out]; omega)) (Bides.and (bides_below bw9.size (Nat.le_refl _)) bides_size)) ⟨⟨_, bO9, hrow9⟩, bw9, Nat.le_refl _⟩ ?round ?done
  case eg => exact fun _ _ => by kernel_rfl
  case round =>
    rintro l pre q W hz ⟨⟨v, hv, hrow⟩, hbW, hsW⟩ ⟨r, hr⟩
    obtain ⟨-, -, -, hq4⟩ := HL.out q (by rw [hr]; simp)
    have hpre : (walkOf ⟨x, y⟩ pre).length ≤ 257 := by
      have h1 := HLEN.out
      rw [hr] at h1
      rw [walkOf_length]
      simp at h1
      omega
    obtain ⟨⟨a3, a4⟩, ⟨b3, b4⟩, -⟩ := hq4
    have HSN := Lib.hid (walkOf_snoc ⟨x, y⟩ pre q)
    have HWL := Lib.hid (walkOf_length ⟨x, y⟩ pre)
    have HWL2 := Lib.hid (walkOf_length ⟨x, y⟩ (pre ++ [q]))
    subst hA0
    dsimp only [legArr]
    gi_wp2
    have hb0 : Below W.heap.size W (W.alloc (.cells #[.int .i32 (q.1.toNat : Int), .int .i64 q.2.1.x, .int .i64 q.2.1.y, .int .i64 q.2.2.x, .int .i64 q.2.2.y] 104)) := (Below.refl _ _).alloc (Nat.le_refl _) _
    refine ⟨Book.below hz hb0, KT.of_below hb0, fun Wb hg hobj hbk => ?_⟩
    have hbx : Wb.heap[W.heap.size]? = some (.cells #[.int .i32 (q.1.toNat : Int), .int .i64 q.2.1.x, .int .i64 q.2.1.y, .int .i64 q.2.2.x, .int .i64 q.2.2.y] 104 (0, 0)) :=
      (hg.block _ (by simp) (fun e => by injection e; omega)).trans (heap_alloc_new _ _)
    obtain ⟨r0, r1, r2, r3, r4, -⟩ := five_of_block hbx
    obtain ⟨o1, ho1, ho2⟩ := hobj
    have hz9 := HZ9.out
    have hz6 := HSZ.out
    have hsb : W9.heap.size + 2 ≤ Wb.heap.size := by have := hg.size; simp at this; omega
    have hbb : Below w.heap.size w Wb := (hbW.trans (hb0.mono hbW.size)).grown hg (by have := hbW.size; simp; omega) (fun k e => by cases e; have := bw9.size; omega)
    have hI1 := bides_krow (t := 46) (e := 43) (n₀ := w.heap.size) (B1 := w6.heap.size) (fun pre => (walkOf ⟨x, y⟩ pre).length) (fun pre => kcellsL (walkOf ⟨x, y⟩ pre)) (show w2.heap.size + 1 < W9.heap.size by omega) (show w6.heap.size ≤ W9.heap.size by omega) pre _ Wb (some (W9.heap.size + 1)) ⟨v, hv.alloc _, hrow.alloc _⟩ hg (fun b e => by cases e; exact ⟨by omega, o1, ho1, .inl ho2⟩)
    obtain ⟨v, hvB, hrowB⟩ := hI1
    have hcB := hvB.cell
    have HBK := Lib.hid hbk
    have hwb : w.heap.size ≤ Wb.heap.size := by omega
    have HRB := Lib.hid hrowB
    have hrowP := hrowB.1
    clear hv hrow hrowB hbk ho1 ho2 hbx
    generalize hm : q.2.2 = m at *
    generalize walkOf ⟨x, y⟩ pre = wl at *
    gi_wp2_with (gi_at_builtin; refine wpListIn_append_own _ rfl _ _ 46 rfl w.heap.size 43 ib (.agg #[.int .i64 0, .int .i64 0]) 2 16 Tryz.underlying46 HB.out HB0.out HB1.out HB2.out rfl (by decide) _ _ _ rfl (hrowP.alloc _) ⟨Wb.heap.size, 0, none⟩ 1 1 [.int .i64 m.x, .int .i64 m.y] rfl rfl (two_new _ _ _ _) (by intro u hu; simp at hu; rcases hu with rfl | rfl <;> rfl) (by unfold maxLen; omega) (by omega) (by simp; omega) ?_; intro v' w1' hown' hgrow _; obtain ⟨g', cap', rfl⟩ := ownsRow_succ hown'; obtain ⟨hv1, hv2, hr2, hk2, hb2'⟩ := hvB.appended (by decide) hrowP hwb (by omega) hown' hgrow; have hkt := KT.appendedK (B1 := w6.heap.size) (Bo := w2.heap.size + 1) (by omega) HRB.out hgrow (.slice (some ⟨g', 0, none⟩) (wl.length + 1) cap'); have hc1 := hv1.cell; have hf1 := hv1.frozen)
    exact ⟨Book.others hk2 HBK.out.1 HBK.out.2, hkt, ⟨_, hv2, by rw [HSN.out, kcellsL_snoc]; simpa using hr2, fun h => by rw [HWL2.out] at h; simp at h⟩, hbb.trans hb2', by have := hb2'.size; omega⟩
  case done =>
    rintro D ys W hD hS ⟨⟨v, hv, hrow, -⟩, hbW, hsW⟩ hK
    subst hA0
    subst hS
    have hc := hv.cell
    go_wp2
    refine ⟨by simp, .inl ⟨_, _, rfl, run_takeDeferred hK, ?_⟩⟩
    exact ⟨_, results_tmp2 rfl _ _ _, v, rfl, ownsRow_putObj hrow _ hK rfl, hbW.trans (belowK_b (w := W9) (n₀ := w.heap.size) bw9.size W D _ _ hD hK rfl rfl)⟩
end Go.Proofs.YtfmfpnnglogkmaaGreatDoor

/- Spread words, and how near they stay to the line of their ratio: plain mathematics. -/
namespace Go.Proofs.YtfmfpnnglogkmaaGreatDoor
open Ck

/-- The first k pieces of the spread of m times v among n times w. -/
def spreadL (v : List UInt8) (m : Nat) (w : List UInt8) (n : Nat) : Nat → List UInt8
  | 0 => []
  | k + 1 => spreadL v m w n k ++ (if k * m / (m + n) < (k + 1) * m / (m + n) then v else w)
theorem floor_period {m n : Nat} (h : 0 < m + n) (i : Nat) : (m + n + i) * m / (m + n) = m + i * m / (m + n) := by
  rw [Nat.add_mul, Nat.add_comm ((m + n) * m) (i * m), Nat.mul_comm (m + n) m, Nat.add_mul_div_right _ _ h, Nat.add_comm]
theorem spreadL_period {v w : List UInt8} {m n : Nat} (h : 0 < m + n) : ∀ j, spreadL v m w n (m + n + j) = spreadL v m w n (m + n) ++ spreadL v m w n j
  | 0 => by simp [spreadL]
  | j + 1 => by
    have ih := spreadL_period (v := v) (w := w) h j
    have e1 := floor_period h j
    have e2 := floor_period h (j + 1)
    have hc : (m + n + j) * m / (m + n) < (m + n + (j + 1)) * m / (m + n) ↔ j * m / (m + n) < (j + 1) * m / (m + n) := by rw [e1, e2]; omega
    show spreadL v m w n (m + n + j) ++ (if (m + n + j) * m / (m + n) < (m + n + (j + 1)) * m / (m + n) then v else w) = spreadL v m w n (m + n) ++ (spreadL v m w n j ++ (if j * m / (m + n) < (j + 1) * m / (m + n) then v else w))
    rw [ih, List.append_assoc]
    by_cases hd : j * m / (m + n) < (j + 1) * m / (m + n)
    · rw [if_pos hd, if_pos (hc.2 hd)]
    · rw [if_neg hd, if_neg (fun h' => hd (hc.1 h'))]
theorem spreadL_repeat {v w : List UInt8} {m n : Nat} (h : 0 < m + n) : ∀ c, Lib.repeatL (spreadL v m w n (m + n)) c = spreadL v m w n (c * (m + n))
  | 0 => by simp [Lib.repeatL, spreadL]
  | c + 1 => by rw [Lib.repeatL, spreadL_repeat h c, ← spreadL_period h, Nat.add_mul, Nat.one_mul, Nat.add_comm]
theorem spreadL_len {a b : UInt8} {m n : Nat} : ∀ k, (spreadL [a] m [b] n k).length = k
  | 0 => rfl
  | k + 1 => by
    rw [spreadL, List.length_append, spreadL_len k]
    split <;> rfl
theorem spreadL_mem {a b : UInt8} {m n : Nat} : ∀ k, ∀ c ∈ spreadL [a] m [b] n k, c = a ∨ c = b
  | 0, c, h => by simp [spreadL] at h
  | k + 1, c, h => by
    rw [spreadL, List.mem_append] at h
    rcases h with h | h
    · exact spreadL_mem k c h
    · split at h <;> simp at h <;> simp [h]
theorem floor_step {m S : Nat} (k : Nat) (hm : m ≤ S) (hS : 0 < S) : k * m / S ≤ (k + 1) * m / S ∧ (k + 1) * m / S ≤ k * m / S + 1 := by
  rw [Nat.add_mul, Nat.one_mul]
  refine ⟨Nat.div_le_div_right (by omega), ?_⟩
  rw [← Nat.add_div_right _ hS]
  exact Nat.div_le_div_right (by omega)
theorem spreadL_bars {b : UInt8} {m n : Nat} (hb : b ≠ 66) (h : 0 < m + n) : ∀ k, barsN (spreadL [66] m [b] n k) = k * m / (m + n)
  | 0 => by simp [spreadL, barsN]
  | k + 1 => by
    have ih := spreadL_bars hb h k
    have hs := floor_step (m := m) (S := m + n) k (by omega) h
    have he : barsN (spreadL [66] m [b] n (k + 1)) = barsN (spreadL [66] m [b] n k) + barsN (if k * m / (m + n) < (k + 1) * m / (m + n) then [66] else [b]) := by
      rw [spreadL, barsN, List.countP_append]
      rfl
    rw [he, ih]
    split
    · have : barsN [66] = 1 := rfl
      omega
    · have : barsN [b] = 0 := by simp [barsN, hb]
      omega
theorem spreadL_take {a b : UInt8} {m n : Nat} : ∀ K k, k ≤ K → (spreadL [a] m [b] n K).take k = spreadL [a] m [b] n k
  | 0, k, h => by
    obtain rfl : k = 0 := by omega
    rfl
  | K + 1, k, h => by
    by_cases hk : k = K + 1
    · subst hk
      exact List.take_of_length_le (by rw [spreadL_len]; exact Nat.le_refl _)
    · rw [spreadL, List.take_append_of_le_length (by rw [spreadL_len]; omega)]
      exact spreadL_take K k (by omega)
theorem posK_flat : ∀ (l : List UInt8) (k : Knot), (∀ c ∈ l, c = 66 ∨ c = 78) → posK 1 k l = ⟨k.x + barsN l, k.y + (2 * (l.length : Int) - barsN l)⟩
  | [], k, _ => by simp [posK, barsN]
  | c :: r, k, h => by
    have ih := posK_flat r (stepK 1 k c) (fun c' h' => h c' (by simp [h']))
    have e : posK 1 k (c :: r) = posK 1 (stepK 1 k c) r := rfl
    rw [e, ih]
    have hb : barsN (c :: r) = barsN r + (if c = 66 then 1 else 0) := by simp [barsN, List.countP_cons]
    rw [hb]
    rcases h c (by simp) with rfl | rfl
    · simp [stepK, dxL, dyL]
      omega
    · simp [stepK, dxL, dyL]
      omega
theorem posK_steep : ∀ (l : List UInt8) (k : Knot), (∀ c ∈ l, c = 66 ∨ c = 84) → posK 1 k l = ⟨k.x + (2 * (l.length : Int) - barsN l), k.y + barsN l⟩
  | [], k, _ => by simp [posK, barsN]
  | c :: r, k, h => by
    have ih := posK_steep r (stepK 1 k c) (fun c' h' => h c' (by simp [h']))
    have e : posK 1 k (c :: r) = posK 1 (stepK 1 k c) r := rfl
    rw [e, ih]
    have hb : barsN (c :: r) = barsN r + (if c = 66 then 1 else 0) := by simp [barsN, List.countP_cons]
    rw [hb]
    rcases h c (by simp) with rfl | rfl
    · simp [stepK, dxL, dyL]
      omega
    · simp [stepK, dxL, dyL]
      omega

/-! ### shares -/
theorem lowest_facts {m S : Nat} (hS : 0 < S) (hm : m ≤ S) : m / m.gcd S ≤ S / m.gcd S ∧ 0 < S / m.gcd S ∧ S / m.gcd S ≤ S ∧ (∀ i, i * (m / m.gcd S) / (S / m.gcd S) = i * m / S) ∧ ∀ q, q * (S / m.gcd S) * m % S = 0 := by
  have hg : 0 < m.gcd S := Nat.gcd_pos_of_pos_right _ hS
  have e1 : m / m.gcd S * m.gcd S = m := Nat.div_mul_cancel (Nat.gcd_dvd_left _ _)
  have e2 : S / m.gcd S * m.gcd S = S := Nat.div_mul_cancel (Nat.gcd_dvd_right _ _)
  generalize m / m.gcd S = B at *
  generalize S / m.gcd S = L at *
  generalize m.gcd S = g at *
  have hL : 0 < L := by
    rcases Nat.eq_zero_or_pos L with h | h
    · subst h; omega
    · exact h
  refine ⟨?_, hL, ?_, fun i => ?_, fun q => ?_⟩
  · rw [← e1, ← e2] at hm
    exact Nat.le_of_mul_le_mul_right hm hg
  · rw [← e2]; exact Nat.le_mul_of_pos_right _ hg
  · rw [← e1, ← e2, ← Nat.mul_assoc, Nat.mul_div_mul_right _ _ hg]
  · rw [← e1, ← e2, Nat.mul_assoc q L, Nat.mul_left_comm L B g, ← Nat.mul_assoc, Nat.mul_mod_left]

/-- The share of bars of a ratio: bars and letters. -/
def shareB (P D : Nat) : Nat := 2 * min P D / (2 * min P D).gcd (P + D)
def shareL (P D : Nat) : Nat := (P + D) / (2 * min P D).gcd (P + D)
/-- The other letter of a ratio. -/
def otherC (P D : Nat) : UInt8 := if D < P then 84 else 78
def slW (P D : Nat) : List UInt8 := spreadL [66] (shareB P D) [otherC P D] (shareL P D - shareB P D) (shareL P D)
def slC (P D i : Nat) : Nat := i * (2 * min P D) / (P + D)
def slPos (P D i : Nat) : Knot := if D < P then ⟨2 * (i : Int) - slC P D i, slC P D i⟩ else ⟨slC P D i, 2 * (i : Int) - slC P D i⟩

theorem otherC_ne (P D : Nat) : otherC P D ≠ 66 := by unfold otherC; split <;> decide
theorem otherC_isL (P D : Nat) : isL (otherC P D) := by unfold otherC isL; split <;> simp
theorem min2 (P D : Nat) : 2 * min P D ≤ P + D := by omega
theorem slW_len (P D : Nat) : (slW P D).length = shareL P D := spreadL_len _
theorem slW_isL (P D : Nat) : ∀ c ∈ slW P D, isL c := fun c h => by
  rcases spreadL_mem _ c h with rfl | rfl
  · exact .inr (.inl rfl)
  · exact otherC_isL P D
theorem slW_take {P D : Nat} (hD : 1 ≤ D) (n i : Nat) (hi : i ≤ n * shareL P D) : (Lib.repeatL (slW P D) n).take i = spreadL [66] (shareB P D) [otherC P D] (shareL P D - shareB P D) i := by
  obtain ⟨h1, h2, -, -, -⟩ := lowest_facts (m := 2 * min P D) (S := P + D) (by omega) (min2 P D)
  change shareB P D ≤ shareL P D at h1
  change 0 < shareL P D at h2
  have e : shareB P D + (shareL P D - shareB P D) = shareL P D := by omega
  have h := spreadL_repeat (v := [66]) (w := [otherC P D]) (m := shareB P D) (n := shareL P D - shareB P D) (by omega) n
  rw [e] at h
  rw [slW, h]
  exact spreadL_take _ _ hi
theorem sl_pos {P D : Nat} (hD : 1 ≤ D) (n i : Nat) (hi : i ≤ n * shareL P D) : posK 1 ⟨0, 0⟩ ((Lib.repeatL (slW P D) n).take i) = slPos P D i := by
  obtain ⟨h1, h2, -, h4, -⟩ := lowest_facts (m := 2 * min P D) (S := P + D) (by omega) (min2 P D)
  change shareB P D ≤ shareL P D at h1
  change 0 < shareL P D at h2
  have hb := spreadL_bars (m := shareB P D) (n := shareL P D - shareB P D) (otherC_ne P D) (by omega) i
  rw [show shareB P D + (shareL P D - shareB P D) = shareL P D from by omega] at hb
  have hb' : barsN (spreadL [66] (shareB P D) [otherC P D] (shareL P D - shareB P D) i) = slC P D i := hb.trans (h4 i)
  have hl := spreadL_len (a := 66) (b := otherC P D) (m := shareB P D) (n := shareL P D - shareB P D) i
  have hm := spreadL_mem (a := 66) (b := otherC P D) (m := shareB P D) (n := shareL P D - shareB P D) i
  rw [slW_take hD n i hi]
  unfold slPos
  by_cases h : D < P
  · have ho : otherC P D = 84 := by simp [otherC, h]
    rw [ho] at hm hl hb' ⊢
    rw [posK_steep _ _ hm, hl, hb', if_pos h]
    simp
  · have ho : otherC P D = 78 := by simp [otherC, h]
    rw [ho] at hm hl hb' ⊢
    rw [posK_flat _ _ hm, hl, hb', if_neg h]
    simp
def slFar (P D i : Nat) : Int := (slPos P D i).x * D - P * (slPos P D i).y
theorem sl_far {P D : Nat} (hD : 1 ≤ D) (i : Nat) : (P ≤ D → slFar P D i ≤ 0 ∧ -(P : Int) - D < slFar P D i) ∧ (D < P → 0 ≤ slFar P D i ∧ slFar P D i < (P : Int) + D) ∧ ∀ q, slFar P D (q * shareL P D) = 0 := by
  have hmod : ∀ i, (P ≤ D → slFar P D i = -((i * (2 * min P D) % (P + D) : Nat) : Int)) ∧ (D < P → slFar P D i = ((i * (2 * min P D) % (P + D) : Nat) : Int)) := by
    intro i
    have e := Nat.div_add_mod (i * (2 * min P D)) (P + D)
    have e' : ((P : Int) + D) * (slC P D i : Int) + ((i * (2 * min P D) % (P + D) : Nat) : Int) = (i : Int) * (2 * (min P D : Nat)) := by
      have := congrArg (Nat.cast (R := Int)) e
      simpa [slC] using this
    generalize ((i * (2 * min P D) % (P + D) : Nat) : Int) = r at *
    constructor
    · intro h
      have hm : min P D = P := by omega
      rw [hm] at e'
      rw [slFar, slPos, if_neg (by omega)]
      simp only
      generalize (slC P D i : Int) = c at *
      grind
    · intro h
      have hm : min P D = D := by omega
      rw [hm] at e'
      rw [slFar, slPos, if_pos h]
      simp only
      generalize (slC P D i : Int) = c at *
      grind
  have hlt : ∀ i, i * (2 * min P D) % (P + D) < P + D := fun i => Nat.mod_lt _ (by omega)
  refine ⟨fun h => ?_, fun h => ?_, fun q => ?_⟩
  · rw [(hmod i).1 h]
    have := hlt i
    omega
  · rw [(hmod i).2 h]
    have := hlt i
    omega
  · obtain ⟨-, -, -, -, h5⟩ := lowest_facts (m := 2 * min P D) (S := P + D) (by omega) (min2 P D)
    have hz : q * shareL P D * (2 * min P D) % (P + D) = 0 := h5 q
    by_cases h : P ≤ D
    · rw [(hmod _).1 h, hz]; rfl
    · rw [(hmod _).2 (by omega), hz]; rfl
theorem slC_le (P D i : Nat) (hD : 1 ≤ D) : slC P D i ≤ i := by
  unfold slC
  have := Nat.div_le_div_right (c := P + D) (Nat.mul_le_mul_left i (min2 P D))
  rwa [Nat.mul_div_cancel _ (by omega)] at this
theorem sl_near (P D i : Nat) (hD : 1 ≤ D) : 0 ≤ (slPos P D i).x ∧ (slPos P D i).x ≤ 2 * i ∧ 0 ≤ (slPos P D i).y ∧ (slPos P D i).y ≤ 2 * i := by
  have := slC_le P D i hD
  unfold slPos
  split <;> simp only <;> omega
/-- The vector of the word has the ratio. -/
theorem sl_rate {P D : Nat} (hD : 1 ≤ D) (hg : P.gcd D = 1) : ∃ X Y : Nat, slPos P D (shareL P D) = ⟨X, Y⟩ ∧ 1 ≤ Y ∧ X / X.gcd Y = P ∧ Y / X.gcd Y = D ∧ X ≤ 2 * shareL P D ∧ Y ≤ 2 * shareL P D := by
  obtain ⟨h1, h2, -, h4, -⟩ := lowest_facts (m := 2 * min P D) (S := P + D) (by omega) (min2 P D)
  have h2' : 0 < shareL P D := h2
  have hfar := (sl_far (P := P) hD 0).2.2 1
  rw [Nat.one_mul, slFar] at hfar
  obtain ⟨n1, n2, n3, n4⟩ := sl_near P D (shareL P D) hD
  have hY : 1 ≤ (slPos P D (shareL P D)).y := by
    have hle := slC_le P D (shareL P D) hD
    unfold slPos
    by_cases h : D < P
    · rw [if_pos h]
      have hc : slC P D (shareL P D) = shareB P D := by
        have e : shareL P D * shareB P D / shareL P D = shareL P D * (2 * min P D) / (P + D) := h4 _
        rw [slC, ← e, Nat.mul_div_cancel_left _ h2']
      have hB : 0 < shareB P D := Nat.div_pos (Nat.le_of_dvd (by omega) (Nat.gcd_dvd_left _ _)) (Nat.gcd_pos_of_pos_right _ (by omega))
      simp only
      rw [hc]
      omega
    · rw [if_neg h]
      simp only
      omega
  generalize slPos P D (shareL P D) = K at *
  obtain ⟨x, y⟩ := K
  simp only at *
  refine ⟨x.toNat, y.toNat, by rw [Int.toNat_of_nonneg n1, Int.toNat_of_nonneg n3], by omega, ?_⟩
  have hx : ((x.toNat : Nat) : Int) = x := Int.toNat_of_nonneg n1
  have hy : ((y.toNat : Nat) : Int) = y := Int.toNat_of_nonneg n3
  generalize x.toNat = X at *
  generalize y.toNat = Y at *
  subst hx hy
  have hXY : X * D = P * Y := by
    have : ((X * D : Nat) : Int) = ((P * Y : Nat) : Int) := by push_cast; omega
    exact Int.ofNat.inj this
  have hdvd : D ∣ Y := by
    have : D ∣ P * Y := ⟨X, by rw [← hXY, Nat.mul_comm]⟩
    exact Nat.Coprime.dvd_of_dvd_mul_left (show D.Coprime P from (Nat.gcd_comm D P).trans hg) this
  obtain ⟨k, rfl⟩ := hdvd
  have hk : 0 < k := by
    rcases Nat.eq_zero_or_pos k with rfl | h
    · simp at hY
    · exact h
  have hX : X = P * k := by
    have e : X * D = (P * k) * D := by rw [hXY]; rw [Nat.mul_assoc, Nat.mul_comm D k]
    exact Nat.eq_of_mul_eq_mul_right (by omega) e
  subst hX
  have hgc : (P * k).gcd (D * k) = k := by rw [Nat.gcd_mul_right, hg, Nat.one_mul]
  rw [hgc]
  refine ⟨Nat.mul_div_cancel _ hk, Nat.mul_div_cancel _ hk, by omega, by omega⟩
theorem shareL_le {P D : Nat} (hD : 1 ≤ D) : 1 ≤ shareL P D ∧ shareL P D ≤ P + D ∧ shareB P D ≤ shareL P D := by
  obtain ⟨h1, h2, h3, -, -⟩ := lowest_facts (m := 2 * min P D) (S := P + D) (by omega) (min2 P D)
  exact ⟨h2, h3, h1⟩
end Go.Proofs.YtfmfpnnglogkmaaGreatDoor

/- Divisors and quotients in lowest terms: the program's and the reference's. -/
namespace Go.Proofs.YtfmfpnnglogkmaaGreatDoor
open Go.RowKit

theorem boxH2 (w : World) (u v : Value) (t : TypeId) : ∃ w1, w1 = w.alloc (.cells #[u, v] t) ∧ w1.heap[w.heap.size]? = some (.cells #[u, v] t (0, 0)) ∧ Below w.heap.size w w1 ∧ w.heap.size < w1.heap.size :=
  ⟨_, rfl, heap_alloc_new _ _, (Below.refl _ _).alloc (Nat.le_refl _) _, by simp⟩
theorem nat_tmod (p q : Nat) : (p : Int).tmod (q : Int) = ((p % q : Nat) : Int) := by rw [Int.tmod_eq_emod_of_nonneg (by omega)]; rfl
theorem nat_tdiv (p q : Nat) : (p : Int).tdiv (q : Int) = ((p / q : Nat) : Int) := by rw [Int.tdiv_eq_ediv_of_nonneg (by omega)]; rfl

set_option maxHeartbeats 1000000 in
set_option maxRecDepth 100000 in
theorem tpDivisor (a b : Nat) (w : World) (ha : a ≤ 4000000000) (hb : b ≤ 4000000000) :
    Calls Tryz.prog 104 #[.int .i64 a, .int .i64 b] w fun e w' => e = .returned (.int .i64 (a.gcd b : Nat)) ∧ Below w.heap.size w w' := by
  obtain ⟨g, hg⟩ : ∃ g, a.gcd b = g := ⟨_, rfl⟩
  rw [hg]
  have HG := Lib.hid hg
  clear hg
  go_enter Tryz.func104, Tryz.ntmps104
  go_wp2_with fail
  go_loopw [0, 1] (fun x y wr => ∃ p q : Nat, p ≤ 4000000000 ∧ q ≤ 4000000000 ∧ x = .int .i64 p ∧ y = .int .i64 q ∧ p.gcd q = g ∧ Below w.heap.size w wr) (fun _ y _ => (intOf y).toNat)
  case atStart => exact ⟨a, b, ha, hb, rfl, rfl, HG.out, Below.refl _ _⟩
  case round =>
    obtain ⟨p, q, hp, hq, rfl, rfl, hgg, hbw⟩ := hrel
    by_cases hz : q = 0
    · subst hz
      rw [Nat.gcd_zero_right] at hgg
      subst hgg
      go_wp2
      go_ret
      exact ⟨rfl, hbw⟩
    · have hz0 : ((q : Int) != 0) = true := by rw [bne_iff_ne]; omega
      have hz1 : ¬ (q : Int) = 0 := by omega
      have hm := nat_tmod p q
      have hlt : p % q < q := Nat.mod_lt _ (by omega)
      have HGG := Lib.hid (show q.gcd (p % q) = g by rw [← hgg, Nat.gcd_comm p q, Nat.gcd_rec q p, Nat.gcd_comm])
      clear hgg
      obtain ⟨r, hr⟩ : ∃ r, p % q = r := ⟨_, rfl⟩
      rw [hr] at hm hlt HGG
      clear hr hz
      go_wp2_with fail
      go_quiet (fail)
      have hb8 := below_drewN hbw nq
      go_wp2
      go_roundw
      case rel => exact ⟨q, r, hq, by omega, rfl, rfl, HGG.out, hb8⟩
      case measure => simp [intOf]; omega

set_option maxHeartbeats 1000000 in
set_option maxRecDepth 100000 in
theorem refGcd (a b : Nat) (w : World) (ha : a ≤ 4000000000) (hb : b ≤ 4000000000) :
    Calls Tryz.prog 27 #[.int .i64 a, .int .i64 b] w fun e w' => e = .returned (.int .i64 (a.gcd b : Nat)) ∧ Below w.heap.size w w' := by
  obtain ⟨g, hg⟩ : ∃ g, a.gcd b = g := ⟨_, rfl⟩
  rw [hg]
  have HG := Lib.hid hg
  clear hg
  go_enter Tryz.func27, Tryz.ntmps27
  go_wp2_with fail
  go_loopw [0, 1] (fun x y wr => ∃ p q : Nat, p ≤ 4000000000 ∧ q ≤ 4000000000 ∧ x = .int .i64 p ∧ y = .int .i64 q ∧ p.gcd q = g ∧ Below w.heap.size w wr) (fun _ y _ => (intOf y).toNat)
  case atStart => exact ⟨a, b, ha, hb, rfl, rfl, HG.out, Below.refl _ _⟩
  case round =>
    obtain ⟨p, q, hp, hq, rfl, rfl, hgg, hbw⟩ := hrel
    by_cases hz : q = 0
    · subst hz
      rw [Nat.gcd_zero_right] at hgg
      subst hgg
      go_wp2
      go_ret
      exact ⟨rfl, hbw⟩
    · have hz0 : ((q : Int) != 0) = true := by rw [bne_iff_ne]; omega
      have hz1 : ¬ (q : Int) = 0 := by omega
      have hm := nat_tmod p q
      have hlt : p % q < q := Nat.mod_lt _ (by omega)
      have HGG := Lib.hid (show q.gcd (p % q) = g by rw [← hgg, Nat.gcd_comm p q, Nat.gcd_rec q p, Nat.gcd_comm])
      clear hgg
      obtain ⟨r, hr⟩ : ∃ r, p % q = r := ⟨_, rfl⟩
      rw [hr] at hm hlt HGG
      clear hr hz
      go_wp2_with fail
      go_quiet (fail)
      have hb8 := below_drewN hbw nq
      go_wp2
      go_roundw
      case rel => exact ⟨q, r, hq, by omega, rfl, rfl, HGG.out, hb8⟩
      case measure => simp [intOf]; omega

set_option maxHeartbeats 1000000 in
set_option maxRecDepth 100000 in
theorem tpLowest (a b : Nat) (w : World) (ha : a ≤ 4000000000) (hb : b ≤ 4000000000) (h : 0 < b) :
    Calls Tryz.prog 92 #[.int .i64 a, .int .i64 b] w fun e w' => e = .returned (.agg #[.int .i64 (a / a.gcd b : Nat), .int .i64 (b / a.gcd b : Nat)]) ∧ Below w.heap.size w w' := by
  obtain ⟨g, hg⟩ : ∃ g, a.gcd b = g := ⟨_, rfl⟩
  have hg0 : 0 < g := by rw [← hg]; exact Nat.gcd_pos_of_pos_right _ h
  have hz1 : ¬ (g : Int) = 0 := by omega
  have hz0 : ((g : Int) != 0) = true := by rw [bne_iff_ne]; omega
  have h1 := nat_tdiv a g
  have h2 := nat_tdiv b g
  have h3 : a / g ≤ a := Nat.div_le_self _ _
  have h4 : b / g ≤ b := Nat.div_le_self _ _
  rw [hg]
  have HG := Lib.hid hg
  obtain ⟨u, hu⟩ : ∃ u, a / g = u := ⟨_, rfl⟩
  obtain ⟨v, hv⟩ : ∃ v, b / g = v := ⟨_, rfl⟩
  rw [hu] at h1 h3 ⊢
  rw [hv] at h2 h4 ⊢
  have hw1 : IntKind.i64.wrap (u : Int) = (u : Int) := by rw [IntKind.wrap_i64]; omega
  have hw2 : IntKind.i64.wrap (v : Int) = (v : Int) := by rw [IntKind.wrap_i64]; omega
  clear hu hv hg
  obtain ⟨w0, hw0, hB, hb0, hz⟩ := boxH2 w (.int .i64 0) (.int .i64 0) 23
  have hg1 : ¬ g = 0 := by omega
  have HW0 := Lib.hid hw0
  clear hw0
  go_enter Tryz.func92, Tryz.ntmps92
  go_wp2_with fail
  rw [← HW0.out]
  refine (tpDivisor a b _ ha hb).mono ?_
  rintro e w1 ⟨rfl, hb1⟩
  rw [HG.out]
  have hB1 := (hb1.block _ hz).trans hB
  have hbw := hb0.trans (hb1.mono hb0.size)
  obtain ⟨p0, p1, p2, p3⟩ := two_cell hB1
  obtain ⟨s1, s2⟩ := two_set hB1 (.int .i64 u) (.int .i64 v)
  obtain ⟨t0, t1, -, -⟩ := two_cell s1
  have hbf := hbw.grown s2 hbw.size (fun j e => by cases e; exact Nat.le_refl _)
  clear hB hb1 hB1 hbw hb0
  go_wp2_with fail
  go_region
  go_wp2
  exact bodyPost_ret (v := .agg #[.int .i64 u, .int .i64 v]) (by simp [results, Tryz.results92, go_sem, t0, t1]) rfl ⟨rfl, below_drew hbf⟩

set_option maxHeartbeats 1000000 in
set_option maxRecDepth 100000 in
theorem refLowest (a b : Nat) (w : World) (ha : a ≤ 4000000000) (hb : b ≤ 4000000000) (h : 0 < b) :
    Calls Tryz.prog 97 #[.int .i64 a, .int .i64 b] w fun e w' => e = .returned (.agg #[.int .i64 (a / a.gcd b : Nat), .int .i64 (b / a.gcd b : Nat)]) ∧ Below w.heap.size w w' := by
  obtain ⟨g, hg⟩ : ∃ g, a.gcd b = g := ⟨_, rfl⟩
  have hg0 : 0 < g := by rw [← hg]; exact Nat.gcd_pos_of_pos_right _ h
  have hz1 : ¬ (g : Int) = 0 := by omega
  have hz0 : ((g : Int) != 0) = true := by rw [bne_iff_ne]; omega
  have h1 := nat_tdiv a g
  have h2 := nat_tdiv b g
  have h3 : a / g ≤ a := Nat.div_le_self _ _
  have h4 : b / g ≤ b := Nat.div_le_self _ _
  rw [hg]
  have HG := Lib.hid hg
  obtain ⟨u, hu⟩ : ∃ u, a / g = u := ⟨_, rfl⟩
  obtain ⟨v, hv⟩ : ∃ v, b / g = v := ⟨_, rfl⟩
  rw [hu] at h1 h3 ⊢
  rw [hv] at h2 h4 ⊢
  have hw1 : IntKind.i64.wrap (u : Int) = (u : Int) := by rw [IntKind.wrap_i64]; omega
  have hw2 : IntKind.i64.wrap (v : Int) = (v : Int) := by rw [IntKind.wrap_i64]; omega
  clear hu hv hg
  obtain ⟨w0, hw0, hB, hb0, hz⟩ := boxH2 w (.int .i64 0) (.int .i64 0) 23
  have hg1 : ¬ g = 0 := by omega
  have HW0 := Lib.hid hw0
  clear hw0
  go_enter Tryz.func97, Tryz.ntmps97
  go_wp2_with fail
  rw [← HW0.out]
  refine (refGcd a b _ ha hb).mono ?_
  rintro e w1 ⟨rfl, hb1⟩
  rw [HG.out]
  have hB1 := (hb1.block _ hz).trans hB
  have hbw := hb0.trans (hb1.mono hb0.size)
  obtain ⟨p0, p1, p2, p3⟩ := two_cell hB1
  obtain ⟨s1, s2⟩ := two_set hB1 (.int .i64 u) (.int .i64 v)
  obtain ⟨t0, t1, -, -⟩ := two_cell s1
  have hbf := hbw.grown s2 hbw.size (fun j e => by cases e; exact Nat.le_refl _)
  clear hB hb1 hB1 hbw hb0
  go_wp2_with fail
  go_region
  go_wp2
  exact bodyPost_ret (v := .agg #[.int .i64 u, .int .i64 v]) (by simp [results, Tryz.results97, go_sem, t0, t1]) rfl ⟨rfl, below_drew hbf⟩
end Go.Proofs.YtfmfpnnglogkmaaGreatDoor

/- Spread words in memory: spread. -/
namespace Go.Proofs.YtfmfpnnglogkmaaGreatDoor
open Go.RowKit Go.Shelf

theorem Tryz.repT72 : Tryz.rep_ren.t 72 = 122 := by kernel_rfl
theorem Tryz.repT5 : Tryz.rep_ren.t 5 = 5 := by kernel_rfl
theorem Tryz.repF166 : Tryz.rep_ren.f 166 = 78 := by kernel_rfl
theorem Tryz.repF169 : Tryz.rep_ren.f 169 = 81 := by kernel_rfl
def BldIs (B b : Nat) (l : List UInt8) (w : World) : Prop := Lib.IsBuilderF 122 5 B b (Lib.byteCells l) w
theorem bldNew (w : World) : BldIs w.heap.size w.heap.size [] (w.alloc (.cells #[.pointer none, .slice none 0 0] 122)) := Lib.IsBuilderF.of (Lib.fresh_isBuilder 122 5 w)
theorem bldWrite (B b : Nat) (l : List UInt8) (s : ByteArray) (w : World) (h : BldIs B b l w) (hlen : l.length + s.size ≤ 1000000) (hBw : B ≤ w.heap.size) :
    Calls Tryz.prog 78 #[.pointer (some ⟨b, 0, none⟩), .string s] w fun e w' => e = .returned (.tuple #[.int .i64 s.size, .nilIface]) ∧ BldIs B b (l ++ s.data.toList) w' ∧ Below B w w' := by
  have k := Any.Builder_WriteString_k { Tryz.rep with } Tryz.repX B b (Lib.byteCells l) s w (by rw [Tryz.repT72, Tryz.repT5]; exact h) (by rw [Lib.byteCells_length]; omega) hBw
  rw [Tryz.repF166] at k
  refine k.mono fun e w' ⟨he, h1, h2, _⟩ => ⟨he, ?_, h2⟩
  rw [Tryz.repT72, Tryz.repT5, Lib.strCells_eq, ← Lib.byteCells_append] at h1
  exact .inr h1
theorem bldString (B b : Nat) (l : List UInt8) (w : World) (h : BldIs B b l w) (hBw : B ≤ w.heap.size) :
    Calls Tryz.prog 81 #[.pointer (some ⟨b, 0, none⟩)] w fun e w' => e = .returned (.string ⟨l.toArray⟩) ∧ BldIs B b l w' ∧ Below B w w' := by
  have k := Any.Builder_String_any_k { Tryz.rep with } Tryz.repX B b l w (by rw [Tryz.repT72, Tryz.repT5]; exact h) hBw
  rw [Tryz.repF169] at k
  refine k.mono fun e w' ⟨he, h1, h2, _⟩ => ⟨he, ?_, h2⟩
  rw [Tryz.repT72, Tryz.repT5] at h1
  exact h1
theorem BldIs.drewN {B b : Nat} {l : List UInt8} {w : World} (h : BldIs B b l w) (n : Nat) : BldIs B b l (World.drewN w n) := h
theorem spreadL_short {v u : List UInt8} {m n N : Nat} (hv : v.length ≤ N) (hu : u.length ≤ N) : ∀ k, (spreadL v m u n k).length ≤ k * N
  | 0 => by simp [spreadL]
  | k + 1 => by
    have ih := spreadL_short (m := m) (n := n) hv hu k
    have e : (k + 1) * N = k * N + N := by rw [Nat.add_mul, Nat.one_mul]
    rw [spreadL, List.length_append, e]
    split <;> omega

set_option maxHeartbeats 4000000 in
set_option maxRecDepth 100000 in
theorem tpSpread (v u : ByteArray) (m n : Nat) (w : World) (hv : v.size ≤ 100) (hu : u.size ≤ 100) (hm : m ≤ 1000) (hn : n ≤ 1000) :
    Calls Tryz.prog 105 #[.string v, .int .i64 m, .string u, .int .i64 n] w fun e w' => e = .returned (.string ⟨(spreadL v.data.toList m u.data.toList n (m + n)).toArray⟩) ∧ Below w.heap.size w w' := by
  have HSP := Lib.hid (show ∀ k, (spreadL v.data.toList m u.data.toList n k).length ≤ k * 100 from spreadL_short (by rw [← Lib.size_eq]; exact hv) (by rw [← Lib.size_eq]; exact hu))
  have HV := Lib.hid hv
  have HU := Lib.hid hu
  obtain ⟨S, hS⟩ : ∃ S : Nat → List UInt8, S = spreadL v.data.toList m u.data.toList n := ⟨_, rfl⟩
  have HS := Lib.hid hS
  rw [← hS] at HSP ⊢
  clear hv hu hS
  have b0 := bldNew w
  have bb0 : Below w.heap.size w (w.alloc (.cells #[.pointer none, .slice none 0 0] 122)) := (Below.refl _ _).alloc (Nat.le_refl _) _
  have m0 : (0 : Int) ≤ (m : Int) := by omega
  have n0 : (0 : Int) ≤ (n : Int) := by omega
  go_enter Tryz.func105, Tryz.ntmps105
  go_wp2_with fail
  go_loopw [10, 14] (fun _ x wr => ∃ k : Nat, k ≤ m + n ∧ x = .int .i64 k ∧ BldIs w.heap.size w.heap.size (S k) wr ∧ Below w.heap.size w wr) (fun _ x _ => m + n - (intOf x).toNat)
  case atStart => exact ⟨0, Nat.zero_le _, rfl, by rw [HS.out]; exact b0, bb0⟩
  case round =>
    obtain ⟨k, hk, rfl, hI, hb⟩ := hrel
    clear b0 bb0
    by_cases hlt : k < m + n
    · have q0 : ((k : Int) < (m : Int) + (n : Int)) := by omega
      have q1 : decide ((k : Int) < (m : Int) + (n : Int)) = true := by simpa using q0
      have hs0 : ¬ ((m : Int) + (n : Int)) = 0 := by omega
      have p1 : (k + 1) * m ≤ 3000000 := Nat.le_trans (Nat.mul_le_mul (by omega : k + 1 ≤ 2000) hm) (by decide)
      have p2 : k * m ≤ 3000000 := Nat.le_trans (Nat.mul_le_mul (by omega : k ≤ 2000) hm) (by decide)
      have t1 : (((k : Int) + 1) * (m : Int)).tdiv ((m : Int) + (n : Int)) = (((k + 1) * m / (m + n) : Nat) : Int) := by rw [← nat_tdiv]; push_cast; rfl
      have t2 : ((k : Int) * (m : Int)).tdiv ((m : Int) + (n : Int)) = ((k * m / (m + n) : Nat) : Int) := by rw [← nat_tdiv]; push_cast; rfl
      have w1 : IntKind.i64.wrap ((k : Int) + 1) = (k : Int) + 1 := by rw [IntKind.wrap_i64]; omega
      have w2 : IntKind.i64.wrap (((k : Int) + 1) * (m : Int)) = ((k : Int) + 1) * (m : Int) := by
        have e : ((k : Int) + 1) * (m : Int) = (((k + 1) * m : Nat) : Int) := by push_cast; rfl
        rw [e, IntKind.wrap_i64]; omega
      have w3 : IntKind.i64.wrap ((m : Int) + (n : Int)) = (m : Int) + (n : Int) := by rw [IntKind.wrap_i64]; omega
      have w4 : IntKind.i64.wrap ((k : Int) * (m : Int)) = (k : Int) * (m : Int) := by
        have e : (k : Int) * (m : Int) = ((k * m : Nat) : Int) := by push_cast; rfl
        rw [e, IntKind.wrap_i64]; omega
      have l1 : (k + 1) * m / (m + n) ≤ 3000000 := Nat.le_trans (Nat.div_le_self _ _) p1
      have l2 : k * m / (m + n) ≤ 3000000 := Nat.le_trans (Nat.div_le_self _ _) p2
      have HST := Lib.hid (show S (k + 1) = S k ++ (if k * m / (m + n) < (k + 1) * m / (m + n) then v.data.toList else u.data.toList) by rw [HS.out, spreadL])
      obtain ⟨x, hx⟩ : ∃ x, (k + 1) * m / (m + n) = x := ⟨_, rfl⟩
      obtain ⟨y, hy⟩ : ∃ y, k * m / (m + n) = y := ⟨_, rfl⟩
      rw [hx] at t1 l1 HST
      rw [hy] at t2 l2 HST
      have w5 : IntKind.i64.wrap (x : Int) = (x : Int) := by rw [IntKind.wrap_i64]; omega
      have w6 : IntKind.i64.wrap (y : Int) = (y : Int) := by rw [IntKind.wrap_i64]; omega
      have hlen := HSP.out k
      have hkn : k ≤ 2000 := by omega
      clear hx hy p1 p2
      by_cases hd : y < x
      · have hd1 : (y : Int) < (x : Int) := by omega
        have hd2 : decide ((y : Int) < (x : Int)) = true := by simpa using hd1
        rw [if_pos hd] at HST
        go_wp2_with fail
        go_quiet (fail)
        have hb8 := below_drewN hb nq
        have hI8 := hI.drewN nq
        generalize World.drewN wr nq = W8 at *
        clear nq
        have hz8 := hb8.size
        go_wp2_with fail
        refine (bldWrite _ _ _ v _ hI8 (by have := HV.out; omega) hz8).mono ?_
        rintro e W9 ⟨rfl, hI9, hb9⟩
        go_wp2
        go_roundw
        case rel => exact ⟨k + 1, by omega, by go_num, by rw [HST.out]; exact hI9, hb8.trans hb9⟩
        case measure => simp [intOf]; omega
      · have hd1 : ¬ (y : Int) < (x : Int) := by omega
        have hd2 : decide ((y : Int) < (x : Int)) = false := by simpa using hd1
        rw [if_neg hd] at HST
        go_wp2_with fail
        go_quiet (fail)
        have hb8 := below_drewN hb nq
        have hI8 := hI.drewN nq
        generalize World.drewN wr nq = W8 at *
        clear nq
        have hz8 := hb8.size
        go_wp2_with fail
        refine (bldWrite _ _ _ u _ hI8 (by have := HU.out; omega) hz8).mono ?_
        rintro e W9 ⟨rfl, hI9, hb9⟩
        go_wp2
        go_roundw
        case rel => exact ⟨k + 1, by omega, by go_num, by rw [HST.out]; exact hI9, hb8.trans hb9⟩
        case measure => simp [intOf]; omega
    · obtain rfl : k = m + n := by omega
      have hg1 : decide (((m + n : Nat) : Int) < (m : Int) + (n : Int)) = false := by simp
      have hz8 := hb.size
      go_wp2_with fail
      refine (bldString _ _ _ _ hI hz8).mono ?_
      rintro e W9 ⟨rfl, hI9, hb9⟩
      go_wp2
      go_ret
      exact ⟨rfl, hb.trans hb9⟩
end Go.Proofs.YtfmfpnnglogkmaaGreatDoor

/- The word of a ratio: shareOf, checkRatio, spreadWord, Exact. -/
namespace Go.Proofs.YtfmfpnnglogkmaaGreatDoor
open Go.RowKit Go.Shelf

theorem tpSpreadI (v u : ByteArray) (m n : Nat) (d : Int) (w : World) (hd : d = (n : Int)) (hv : v.size ≤ 100) (hu : u.size ≤ 100) (hm : m ≤ 1000) (hn : n ≤ 1000) :
    Calls Tryz.prog 105 #[.string v, .int .i64 m, .string u, .int .i64 d] w fun e w' => e = .returned (.string ⟨(spreadL v.data.toList m u.data.toList n (m + n)).toArray⟩) ∧ Below w.heap.size w w' := by
  subst hd
  exact tpSpread v u m n w hv hu hm hn
theorem tpLowestI (a b : Nat) (x y : Int) (w : World) (hx : x = (a : Int)) (hy : y = (b : Int)) (ha : a ≤ 4000000000) (hb : b ≤ 4000000000) (h : 0 < b) :
    Calls Tryz.prog 92 #[.int .i64 x, .int .i64 y] w fun e w' => e = .returned (.agg #[.int .i64 (a / a.gcd b : Nat), .int .i64 (b / a.gcd b : Nat)]) ∧ Below w.heap.size w w' := by
  subst hx hy
  exact tpLowest a b w ha hb h
theorem boxH22 (w : World) (a b c d : Value) (t t' : TypeId) : ∃ w1, w1 = (w.alloc (.cells #[a, b] t)).alloc (.cells #[c, d] t') ∧ w1.heap[w.heap.size]? = some (.cells #[a, b] t (0, 0)) ∧ w1.heap[w.heap.size + 1]? = some (.cells #[c, d] t' (0, 0)) ∧ Below w.heap.size w w1 ∧ w1.heap.size = w.heap.size + 2 := by
  refine ⟨_, rfl, ?_, ?_, ((Below.refl _ _).alloc (Nat.le_refl _) _).alloc (by simp) _, by simp⟩
  · rw [Below.heap_alloc _ _ _ (by simp)]
    exact heap_alloc_new _ _
  · have := heap_alloc_new (w.alloc (.cells #[a, b] t)) (.cells #[c, d] t')
    rwa [World.size_alloc] at this

set_option maxHeartbeats 2000000 in
set_option maxRecDepth 100000 in
theorem tpSpreadWord (P D B L : Nat) (w : World) (hBL : B ≤ L) (hL : L ≤ 1000) (_ : P ≤ 1000000000) (_ : D ≤ 1000000000) :
    Calls Tryz.prog 71 #[.agg #[.int .i64 P, .int .i64 D], .agg #[.int .i64 B, .int .i64 L]] w fun e w' => e = .returned (.string ⟨(spreadL [66] B [otherC P D] (L - B) L).toArray⟩) ∧ Below w.heap.size w w' := by
  obtain ⟨w1, hw1, h0, h1, hb1, hz1⟩ := boxH22 w (.int .i64 P) (.int .i64 D) (.int .i64 B) (.int .i64 L) 23 28
  obtain ⟨p0, p1, -, -⟩ := two_cell h0
  obtain ⟨q0, q1, -, -⟩ := two_cell h1
  have HW1 := Lib.hid hw1
  have hsub : (L : Int) - (B : Int) = ((L - B : Nat) : Int) := by omega
  have hE : B + (L - B) = L := by omega
  clear hw1 h0 h1 hz1
  by_cases h : D < P
  · have HO := Lib.hid (show otherC P D = 84 by simp [otherC, h])
    have hd1 : (D : Int) < (P : Int) := by omega
    have hd2 : decide ((D : Int) < (P : Int)) = true := by simpa using hd1
    go_enter Tryz.func71, Tryz.ntmps71
    go_wp2_with fail
    rw [← HW1.out]
    go_wp2_with fail
    refine (tpSpreadI ⟨#[66]⟩ ⟨#[84]⟩ B (L - B) _ _ (by omega) (by decide) (by decide) (by omega) (by omega)).mono ?_
    rintro e w2 ⟨rfl, hb2⟩
    go_wp2
    go_ret
    rw [HO.out]
    exact ⟨rfl, hb1.trans (hb2.mono hb1.size)⟩
  · have HO := Lib.hid (show otherC P D = 78 by simp [otherC, h])
    have hd1 : ¬ (D : Int) < (P : Int) := by omega
    have hd2 : decide ((D : Int) < (P : Int)) = false := by simpa using hd1
    go_enter Tryz.func71, Tryz.ntmps71
    go_wp2_with fail
    rw [← HW1.out]
    go_wp2_with fail
    refine (tpSpreadI ⟨#[66]⟩ ⟨#[78]⟩ B (L - B) _ _ (by omega) (by decide) (by decide) (by omega) (by omega)).mono ?_
    rintro e w2 ⟨rfl, hb2⟩
    go_wp2
    go_ret
    rw [HO.out]
    exact ⟨rfl, hb1.trans (hb2.mono hb1.size)⟩

set_option maxHeartbeats 2000000 in
set_option maxRecDepth 100000 in
theorem tpShareOf (P D : Nat) (w : World) (hD0 : 1 ≤ D) (hP : P ≤ 1000000000) (hD : D ≤ 1000000000) :
    Calls Tryz.prog 45 #[.agg #[.int .i64 P, .int .i64 D]] w fun e w' => e = .returned (.agg #[.int .i64 (shareB P D), .int .i64 (shareL P D)]) ∧ Below w.heap.size w w' := by
  obtain ⟨w1, hw1, h0, h1, hb1, hz1⟩ := boxH22 w (.int .i64 P) (.int .i64 D) (.int .i64 0) (.int .i64 0) 23 23
  obtain ⟨p0, p1, -, -⟩ := two_cell h0
  have HW1 := Lib.hid hw1
  obtain ⟨m, hm⟩ : ∃ m, min P D = m := ⟨_, rfl⟩
  have hmi : (if (D : Int) < (P : Int) then (D : Int) else (P : Int)) = (m : Int) := by
    subst hm
    split <;> omega
  have hm1 : m ≤ 1000000000 := by omega
  have hm2 : m ≤ D := by omega
  obtain ⟨B, hB⟩ : ∃ B, shareB P D = B := ⟨_, rfl⟩
  obtain ⟨L, hL⟩ : ∃ L, shareL P D = L := ⟨_, rfl⟩
  have HB := Lib.hid (show 2 * m / (2 * m).gcd (P + D) = B by rw [← hB, shareB, hm])
  have HL := Lib.hid (show (P + D) / (2 * m).gcd (P + D) = L by rw [← hL, shareL, hm])
  rw [hB, hL]
  clear hw1 hm hB hL
  go_enter Tryz.func45, Tryz.ntmps45
  go_wp2_with fail
  rw [← HW1.out]
  go_wp2_with fail
  refine (tpLowestI (2 * m) (P + D) _ _ _ (by omega) (by omega) (by omega) (by omega) (by omega)).mono ?_
  rintro e w2 ⟨rfl, hb2⟩
  have hbw := hb1.trans (hb2.mono hb1.size)
  have h2 := (hb2.block _ (by omega)).trans h1
  rw [HB.out, HL.out]
  obtain ⟨r0, r1, r2, r3⟩ := two_cell h2
  obtain ⟨s1, s2⟩ := two_set h2 (.int .i64 B) (.int .i64 L)
  obtain ⟨t0, t1, -, -⟩ := two_cell s1
  have hbf := hbw.grown s2 hbw.size (fun j e => by cases e; omega)
  clear h0 h1 h2 hb2 hbw
  go_wp2
  exact bodyPost_ret (v := .agg #[.int .i64 B, .int .i64 L]) (by simp [results, Tryz.results45, go_sem, t0, t1]) rfl ⟨rfl, hbf⟩

set_option maxHeartbeats 2000000 in
set_option maxRecDepth 100000 in
theorem tpCheckRatio (P D : Nat) (w : World) (hD0 : 1 ≤ D) (hP : P ≤ 999999999) (hD : D ≤ 999999999) (hg : P.gcd D = 1) :
    Calls Tryz.prog 69 #[.agg #[.int .i64 P, .int .i64 D]] w fun e w' => e = .returned (.int .i64 0) ∧ Below w.heap.size w w' := by
  obtain ⟨w1, hw1, h0, hb1, hz1⟩ := boxH2 w (.int .i64 P) (.int .i64 D) 23
  obtain ⟨p0, p1, -, -⟩ := two_cell h0
  have HW1 := Lib.hid hw1
  have HG := Lib.hid hg
  have HR0 := Lib.hid (show (if (P : Int) < 0 ∨ 999999999 < (P : Int) then (3 : Int) else 0) = 0 by rw [if_neg]; omega)
  have HR1 := Lib.hid (show (if (D : Int) < 1 ∨ 999999999 < (D : Int) then (3 : Int) else 0) = 0 by rw [if_neg]; omega)
  clear hw1 hg
  go_enter Tryz.func69, Tryz.ntmps69
  go_wp2_with fail
  rw [← HW1.out]
  go_wp2_with fail
  refine wp_region_still_tail 6 (by kernel_rfl) (by kernel_rfl) ?_
  simp only [List.take_succ_cons, List.take_zero, List.drop_succ_cons, List.drop_zero]
  still_step
  still_step
  still_call (Calls.mono (tpCheckRange _ _ _ _) fun _ _ h => ⟨h.1, h.2.symm⟩)
  still_step
  still_step
  still_call (Calls.mono (tpCheckRange _ _ _ _) fun _ _ h => ⟨h.1, h.2.symm⟩)
  refine wpStill_nil ?_
  change wpList _ _ _ _ _ w1.drew
  rw [HR0.out, HR1.out]
  go_wp2_with fail
  refine (tpFirst2 _ _ 0 0 30 _ (by exact heap_alloc_new _ _)).mono ?_
  rintro e w3 ⟨rfl, rfl⟩
  rw [show firstE [0, 0] = 0 from rfl]
  obtain ⟨w4, hw4, hb4, e0, e1⟩ : ∃ w4, w4 = (w1.alloc (.cells #[.int .i64 0, .int .i64 0] 30)).drew ∧ Below w1.heap.size w1 w4 ∧ w4.cell? ⟨w.heap.size, 0, none⟩ = some (.int .i64 P) ∧ w4.cell? ⟨w.heap.size, 1, none⟩ = some (.int .i64 D) := by
    have hb : Below w1.heap.size w1 (w1.alloc (.cells #[.int .i64 0, .int .i64 0] 30)).drew := below_drew ((Below.refl _ _).alloc (Nat.le_refl _) _)
    exact ⟨_, rfl, hb, (hb.cell (p := ⟨w.heap.size, 0, none⟩) hz1).trans p0, (hb.cell (p := ⟨w.heap.size, 1, none⟩) hz1).trans p1⟩
  rw [← hw4]
  clear hw4
  go_wp2_with fail
  refine (tpDivisor P D _ (by omega) (by omega)).mono ?_
  rintro e w5 ⟨rfl, hb5⟩
  rw [HG.out]
  go_wp2
  go_ret
  have hb14 := hb1.trans (hb4.mono hb1.size)
  exact ⟨rfl, hb14.trans (hb5.mono hb14.size)⟩

/-- The word that Exact returns. -/
def slB (P D : Nat) : ByteArray := ⟨(slW P D).toArray⟩
set_option maxHeartbeats 2000000 in
set_option maxRecDepth 100000 in
theorem tpExact (P D : Nat) (w : World) (hD0 : 1 ≤ D) (hS : P + D ≤ 64) (hg : P.gcd D = 1) :
    Calls Tryz.prog 32 #[.agg #[.int .i64 P, .int .i64 D]] w fun e w' => e = .returned (.tuple #[.string (slB P D), .int .i64 0]) ∧ Below w.heap.size w w' := by
  obtain ⟨w1, hw1, p0, p1, hb1, hz1⟩ := box2 w (.int .i64 P) (.int .i64 D) 23
  have HW1 := Lib.hid hw1
  have HG := Lib.hid hg
  obtain ⟨l1, l2, l3⟩ := shareL_le (P := P) hD0
  have HSW := Lib.hid (show (⟨(spreadL [66] (shareB P D) [otherC P D] (shareL P D - shareB P D) (shareL P D)).toArray⟩ : ByteArray) = slB P D from rfl)
  clear hw1 hg
  go_enter Tryz.func32, Tryz.ntmps32
  go_wp2_with fail
  rw [← HW1.out]
  go_wp2_with fail
  refine (tpCheckRatio P D _ hD0 (by omega) (by omega) HG.out).mono ?_
  rintro e w2 ⟨rfl, hb2⟩
  have p2 := (hb2.cell (p := ⟨w.heap.size, 0, none⟩) hz1).trans p0
  have p3 := (hb2.cell (p := ⟨w.heap.size, 1, none⟩) hz1).trans p1
  have hz2 := hb2.size
  have b2 := hb1.trans (hb2.mono hb1.size)
  go_wp2_with fail
  refine (tpShareOf P D _ hD0 (by omega) (by omega)).mono ?_
  rintro e w3 ⟨rfl, hb3⟩
  have p4 := (hb3.cell (p := ⟨w.heap.size, 0, none⟩) (by show w.heap.size < _; omega)).trans p2
  have p5 := (hb3.cell (p := ⟨w.heap.size, 1, none⟩) (by show w.heap.size < _; omega)).trans p3
  have hz3 := hb3.size
  have b3 := b2.trans (hb3.mono b2.size)
  obtain ⟨B, hB⟩ : ∃ B, shareB P D = B := ⟨_, rfl⟩
  obtain ⟨L, hL⟩ : ∃ L, shareL P D = L := ⟨_, rfl⟩
  rw [hB, hL] at HSW
  rw [hB] at l3 ⊢
  rw [hL] at l1 l2 l3 ⊢
  clear hB hL p0 p1 p2 p3
  obtain ⟨w4, hw4, q0, q1, hb4, hz4⟩ := box2 w3 (.int .i64 B) (.int .i64 L) 23
  have p6 := (hb4.cell (p := ⟨w.heap.size, 0, none⟩) (by show w.heap.size < _; omega)).trans p4
  have p7 := (hb4.cell (p := ⟨w.heap.size, 1, none⟩) (by show w.heap.size < _; omega)).trans p5
  have HW4 := Lib.hid hw4
  have hL64 : (L : Int) ≤ 64 := by omega
  have b4 := b3.trans (hb4.mono b3.size)
  clear hw4 p4 p5
  go_wp2_with fail
  rw [← HW4.out]
  go_wp2_with fail
  refine (tpCheckLength _ _ hL64).mono ?_
  rintro e w5 ⟨rfl, rfl⟩
  go_wp2_with fail
  refine (tpSpreadWord P D B L _ l3 (by omega) (by omega) (by omega)).mono ?_
  rintro e w6 ⟨rfl, hb6⟩
  rw [HSW.out]
  go_wp2
  go_ret2
  exact ⟨rfl, b4.trans (hb6.mono b4.size)⟩
end Go.Proofs.YtfmfpnnglogkmaaGreatDoor

/- The reference's Power at words without an error. -/
namespace Go.Proofs.YtfmfpnnglogkmaaGreatDoor
open Go.RowKit Go.Shelf Ck

theorem repeat_comm (l : List UInt8) : ∀ c, Lib.repeatL l c ++ l = l ++ Lib.repeatL l c
  | 0 => by simp [Lib.repeatL]
  | c + 1 => by rw [Lib.repeatL, List.append_assoc, repeat_comm l c]
def strL (l : List UInt8) : ByteArray := ⟨l.toArray⟩
theorem strL_data (l : List UInt8) : (strL l).data.toList = l := rfl
theorem strL_size (l : List UInt8) : (strL l).size = l.length := by simp [strL, ByteArray.size]
end Go.Proofs.YtfmfpnnglogkmaaGreatDoor

/- Meshes and Has of the program at valid nets. -/
namespace Go.Proofs.YtfmfpnnglogkmaaGreatDoor
open Go.RowKit Go.Shelf Ck

end Go.Proofs.YtfmfpnnglogkmaaGreatDoor

/- The reference's Vector at words without an error. -/
namespace Go.Proofs.YtfmfpnnglogkmaaGreatDoor
open Go.RowKit Go.Shelf Ck

set_option maxHeartbeats 800000 in
theorem refStep (c : UInt8) (w : World) (h : isL c) : Calls Tryz.prog 66 #[.int .u8 c.toNat] w fun e w' => e = .returned (.agg #[.int .i64 (dxL c), .int .i64 (dyL c)]) ∧ Below w.heap.size w w' := by
  rcases h with rfl | rfl | rfl
  all_goals
    go_enter Tryz.func66, Tryz.ntmps66
    go_wp2
    first
    | exact bodyPost_ret (v := .agg #[.int .i64 0, .int .i64 2]) (by simp [results, Tryz.results66, go_sem]) rfl ⟨rfl, (Below.refl _ _).alloc (Nat.le_refl _) _⟩
    | exact bodyPost_ret (v := .agg #[.int .i64 1, .int .i64 1]) (by simp [results, Tryz.results66, go_sem]) rfl ⟨rfl, (Below.refl _ _).alloc (Nat.le_refl _) _⟩
    | exact bodyPost_ret (v := .agg #[.int .i64 2, .int .i64 0]) (by simp [results, Tryz.results66, go_sem]) rfl ⟨rfl, (Below.refl _ _).alloc (Nat.le_refl _) _⟩
def vecL (l : List UInt8) : Int × Int := ((l.map dxL).sum, (l.map dyL).sum)
theorem vecL_snoc (l : List UInt8) (c : UInt8) : vecL (l ++ [c]) = ((vecL l).1 + dxL c, (vecL l).2 + dyL c) := by simp [vecL]
theorem vecL_near : ∀ (l : List UInt8), 0 ≤ (vecL l).1 ∧ (vecL l).1 ≤ 2 * (l.length : Int) ∧ 0 ≤ (vecL l).2 ∧ (vecL l).2 ≤ 2 * (l.length : Int)
  | [] => by simp [vecL]
  | c :: r => by
    have ih := vecL_near r
    have h1 : (vecL (c :: r)).1 = dxL c + (vecL r).1 := by simp [vecL]
    have h2 : (vecL (c :: r)).2 = dyL c + (vecL r).2 := by simp [vecL]
    have hx : 0 ≤ dxL c ∧ dxL c ≤ 2 := by unfold dxL; split <;> (try split) <;> omega
    have hy : 0 ≤ dyL c ∧ dyL c ≤ 2 := by unfold dyL; split <;> (try split) <;> omega
    rw [h1, h2]
    simp only [List.length_cons]
    omega
set_option maxHeartbeats 2000000 in
set_option maxRecDepth 100000 in
theorem refVector (L : List UInt8) (w : World) (hl : ∀ c ∈ L, isL c) (hn : L.length ≤ 1000) :
    Calls Tryz.prog 30 #[.string (strL L)] w fun e w' => e = .returned (.agg #[.int .i64 (vecL L).1, .int .i64 (vecL L).2]) ∧ Below w.heap.size w w' := by
  have HL := Lib.hid hl
  have hsz := strL_size L
  have hsd := strL_data L
  generalize strL L = s at hsz hsd ⊢
  have HSZ := Lib.hid hsz
  have HSD := Lib.hid hsd
  have hs1 : (s.size : Int) ≤ 1000 := by omega
  clear hl hsz hsd
  go_enter Tryz.func30, Tryz.ntmps30
  go_wp2_with fail
  obtain ⟨w1, hw1⟩ : ∃ w1, w1 = (w.alloc (.cells #[.int .i64 0, .int .i64 0] 66)).alloc (.cells #[.int .i64 0, .int .i64 0] 66) := ⟨_, rfl⟩
  have g0 : w1.heap[w.heap.size]? = some (.cells #[.int .i64 0, .int .i64 0] 66 (0, 0)) := by
    rw [hw1, Below.heap_alloc _ _ _ (by simp)]
    exact heap_alloc_new _ _
  have g1 : w1.heap[w.heap.size + 1]? = some (.cells #[.int .i64 0, .int .i64 0] 66 (0, 0)) := by
    rw [hw1]
    have := heap_alloc_new (w.alloc (.cells #[.int .i64 0, .int .i64 0] 66)) (.cells #[.int .i64 0, .int .i64 0] 66)
    rwa [World.size_alloc] at this
  have b0 : Below w.heap.size w w1 := by rw [hw1]; exact ((Below.refl _ _).alloc (Nat.le_refl _) _).alloc (by simp) _
  rw [← hw1]
  clear hw1
  go_loopw [4] (fun i wr => ∃ k : Nat, k ≤ s.size ∧ i = .int .i64 k ∧ wr.heap[w.heap.size]? = some (.cells #[.int .i64 0, .int .i64 0] 66 (0, 0)) ∧ wr.heap[w.heap.size + 1]? = some (.cells #[.int .i64 (vecL (L.take k)).1, .int .i64 (vecL (L.take k)).2] 66 (0, 0)) ∧ Below w.heap.size w wr) (fun i _ => s.size - (intOf i).toNat)
  case atStart => exact ⟨0, Nat.zero_le _, rfl, g0, g1, b0⟩
  case round =>
    obtain ⟨k, hk, rfl, h0, h1, hb⟩ := hrel
    clear g0 g1 b0
    have hz0 := (Array.getElem?_eq_some_iff.1 h0).1
    have hz1 := (Array.getElem?_eq_some_iff.1 h1).1
    have hvn := vecL_near (L.take k)
    by_cases hlt : k < s.size
    · have c0 : (0 : Int) ≤ (k : Int) := by omega
      have c1 : (k : Int) < (s.size : Int) := by omega
      have hkL : k < L.length := by rw [← HSZ.out]; exact hlt
      have hkl : k < s.data.toList.length := by rw [HSD.out]; exact hkL
      have hel : s[k] = L[k] := by rw [← byte_at s k hlt hkl]; simp only [HSD.out]
      have hLk := HL.out _ (List.getElem_mem hkL)
      have HV := Lib.hid (show vecL (L.take (k + 1)) = ((vecL (L.take k)).1 + dxL L[k], (vecL (L.take k)).2 + dyL L[k]) by rw [List.take_succ_eq_append_getElem hkL, vecL_snoc])
      have hx : 0 ≤ dxL L[k] ∧ dxL L[k] ≤ 2 := by unfold dxL; split <;> (try split) <;> omega
      have hy : 0 ≤ dyL L[k] ∧ dyL L[k] ≤ 2 := by unfold dyL; split <;> (try split) <;> omega
      have hlen : ((L.take k).length : Int) ≤ 1000 := by rw [List.length_take]; omega
      generalize L[k] = q at *
      generalize (vecL (L.take k)).1 = vx at *
      generalize (vecL (L.take k)).2 = vy at *
      obtain ⟨a0, a1⟩ := hx
      obtain ⟨a2, a3⟩ := hy
      obtain ⟨d0, d1, d2, d3⟩ := hvn
      go_wp2_with fail
      refine (refStep q _ hLk).mono ?_
      rintro e w2 ⟨rfl, hb2⟩
      obtain ⟨w3, hw3, n0, n1, hb3, hz3⟩ := box2 w2 (.int .i64 (dxL q)) (.int .i64 (dyL q)) 66
      have b23 := hb2.trans (hb3.mono hb2.size)
      have h0' := (b23.block _ hz0).trans h0
      have h1' := (b23.block _ hz1).trans h1
      obtain ⟨p0, p1, p2, p3⟩ := two_cell h1'
      obtain ⟨s1, s2⟩ := two_set h1' (.int .i64 (vx + dxL q)) (.int .i64 (vy + dyL q))
      have hbw := (hb.trans (b23.mono hb.size)).grown s2 (by have := b23.size; omega) (fun j e => by cases e; omega)
      have h0'' := (s2.block _ (Array.getElem?_eq_some_iff.1 h0').1 (fun e => by injection e; omega)).trans h0'
      have hw3' := hw3.symm
      have hlc := HSZ.out
      clear hw3 hel hlc h0 h1 hb2 hb3 hb
      go_wp2
      go_roundw
      case rel => exact ⟨k + 1, by omega, by go_num, h0'', by rw [HV.out]; exact s1, hbw⟩
      case measure => simp [intOf]; omega
    · obtain rfl : k = s.size := by omega
      have HT := Lib.hid (show L.take s.size = L by rw [HSZ.out, List.take_length])
      rw [HT.out] at h1 hvn
      obtain ⟨p0, p1, -, -⟩ := two_cell h1
      obtain ⟨o0, o1, o2, o3⟩ := two_cell h0
      obtain ⟨s1, s2⟩ := two_set h0 (.int .i64 (vecL L).1) (.int .i64 (vecL L).2)
      obtain ⟨t0, t1, -, -⟩ := two_cell s1
      have hbw := hb.grown s2 (by have := hb.size; omega) (fun j e => by cases e; omega)
      clear h0 h1
      go_wp2
      exact bodyPost_ret (v := .agg #[.int .i64 (vecL L).1, .int .i64 (vecL L).2]) (by simp [results, Tryz.results30, go_sem, t0, t1]) rfl ⟨rfl, hbw⟩
end Go.Proofs.YtfmfpnnglogkmaaGreatDoor

/- The rate of a word: vectorOf, hasRate, checkRate, Rate. -/
namespace Go.Proofs.YtfmfpnnglogkmaaGreatDoor
open Go.RowKit Go.Shelf

set_option maxHeartbeats 4000000 in
set_option maxRecDepth 100000 in
theorem tpVectorOf (s : ByteArray) (w : World) (hs : Word s) :
    Calls Tryz.prog 73 #[.string s] w fun e w' => e = .returned (.agg #[.int .i64 (vecL s.data.toList).1, .int .i64 (vecL s.data.toList).2]) ∧ Below w.heap.size w w' := by
  obtain ⟨L, hL⟩ : ∃ L, s.data.toList = L := ⟨_, rfl⟩
  have hLs : L.length = s.size := by rw [← hL]; exact (Lib.size_eq s).symm
  have HLL := Lib.hid (show ∀ q ∈ L, isL q by rw [← hL]; exact hs.1)
  have hs64 : (s.size : Int) ≤ 64 := by have := hs.2.2; omega
  have HSD := Lib.hid hL
  have HLN := Lib.hid hLs
  rw [hL]
  clear hL hLs hs
  obtain ⟨w1, hw1, g0, g1, b0, hz1⟩ := boxH22 w (.int .i64 0) (.int .i64 0) (.int .i64 0) (.int .i64 0) 66 66
  have HW1 := Lib.hid hw1
  have HZ1 := Lib.hid hz1
  clear hw1 hz1
  go_enter Tryz.func73, Tryz.ntmps73
  go_wp2_with fail
  rw [← HW1.out]
  go_wp2_with fail
  refine (tpVectors _).mono ?_
  rintro e w2 ⟨rfl, hv2, hb2⟩
  go_wp2_with fail
  have hz1 := HZ1.out
  have hzv := hv2.lt
  have hi0 : (w2.iter s 0).heap[w2.heap.size]? = some (.stringIter s 0) := World.iter_heap w2 s 0
  have hbi : Below w2.heap.size w2 (w2.iter s 0) := (Below.refl _ _).alloc (Nat.le_refl _) _
  have hv3 : VecAt (w2.iter s 0) w1.heap.size := hv2.of_block (hbi.block _ hzv)
  have b2 := b0.trans (hb2.mono b0.size)
  have b3 := b2.trans (hbi.mono b2.size)
  have g0' := (hbi.block _ (by omega)).trans ((hb2.block _ (by omega)).trans g0)
  have g1' := (hbi.block _ (by omega)).trans ((hb2.block _ (by omega)).trans g1)
  generalize w2.iter s 0 = w3 at *
  clear g0 g1 hb2 hbi hv2
  go_loopw [6] (fun _ wr => ∃ pos : Nat, pos ≤ L.length ∧ wr.heap[w2.heap.size]? = some (.stringIter s pos) ∧ VecAt wr w1.heap.size ∧ wr.heap[w.heap.size]? = some (.cells #[.int .i64 0, .int .i64 0] 66 (0, 0)) ∧ wr.heap[w.heap.size + 1]? = some (.cells #[.int .i64 (vecL (L.take pos)).1, .int .i64 (vecL (L.take pos)).2] 66 (0, 0)) ∧ Below w.heap.size w wr) (fun _ wr => s.size - wr.iterPos w2.heap.size)
  case atStart => exact ⟨0, Nat.zero_le _, hi0, hv3, g0', g1', b3⟩
  case round =>
    obtain ⟨pos, hpos, hit, hv, h0, h1, hb⟩ := hrel
    clear hi0 hv3 g0' g1' b2 b3 hz1
    have hz1 := HZ1.out
    have hvn := vecL_near (L.take pos)
    have hlen : ((L.take pos).length : Int) ≤ 64 := by rw [List.length_take]; have := HLN.out; omega
    by_cases hp : pos < s.size
    · have hpl : pos < L.length := by rw [HLN.out]; exact hp
      have hkl : pos < s.data.toList.length := by rw [HSD.out]; exact hpl
      have hel : s[pos] = L[pos] := by rw [← byte_at s pos hp hkl]; simp only [HSD.out]
      have hLq : isL L[pos] := HLL.out _ (List.getElem_mem hpl)
      have HV := Lib.hid (show vecL (L.take (pos + 1)) = ((vecL (L.take pos)).1 + dxL L[pos], (vecL (L.take pos)).2 + dyL L[pos]) by rw [List.take_succ_eq_append_getElem hpl, vecL_snoc])
      have hx : 0 ≤ dxL L[pos] ∧ dxL L[pos] ≤ 2 := by unfold dxL; split <;> (try split) <;> omega
      have hy : 0 ≤ dyL L[pos] ∧ dyL L[pos] ≤ 2 := by unfold dyL; split <;> (try split) <;> omega
      generalize L[pos] = q at *
      generalize (vecL (L.take pos)).1 = vx at *
      generalize (vecL (L.take pos)).2 = vy at *
      obtain ⟨a0, a1⟩ := hx
      obtain ⟨a2, a3⟩ := hy
      obtain ⟨d0, d1, d2, d3⟩ := hvn
      have hnext : ∀ ty, (Instr.next (.pointer (some ⟨w2.heap.size, 0, none⟩)) true ty).run Tryz.prog wr = _ := fun ty => Lib.run_next_ascii_at wr w2.heap.size s pos ty hit hp (by rw [hel]; exact isL_small hLq)
      rw [hel] at hnext
      have hmu : wr.iterPos w2.heap.size = pos := by simp [World.iterPos, hit]
      have hit1 := Lib.iterAt_heap wr w2.heap.size s pos (pos + 1) hit
      have hv1 := hv.of_block (Lib.iterAt_other wr w2.heap.size w1.heap.size s (pos + 1) (by omega))
      have h01 := (Lib.iterAt_other wr w2.heap.size w.heap.size s (pos + 1) (by omega)).trans h0
      have h11 := (Lib.iterAt_other wr w2.heap.size (w.heap.size + 1) s (pos + 1) (by omega)).trans h1
      have hb1 : Below w.heap.size w (wr.iterAt w2.heap.size s (pos + 1)) := Lib.below_iterAt hb (by omega) s (pos + 1)
      generalize wr.iterAt w2.heap.size s (pos + 1) = W1 at hnext hit1 hv1 h01 h11 hb1
      have hlk := vecLookup hv1 hLq
      obtain ⟨W2, hW2, n0, n1, hb2, hz2⟩ := box2 W1 (.int .i64 (dxL q)) (.int .i64 (dyL q)) 66
      have zi := (Array.getElem?_eq_some_iff.1 hit1).1
      have z0 := (Array.getElem?_eq_some_iff.1 h01).1
      have z1 := (Array.getElem?_eq_some_iff.1 h11).1
      have hit2 := (hb2.block _ zi).trans hit1
      have hv2 := hv1.of_block (hb2.block _ hv1.lt)
      have h02 := (hb2.block _ z0).trans h01
      have h12 := (hb2.block _ z1).trans h11
      obtain ⟨p0, p1, p2, p3⟩ := two_cell h12
      obtain ⟨s1, s2⟩ := two_set h12 (.int .i64 (vx + dxL q)) (.int .i64 (vy + dyL q))
      have hbw := (hb1.trans (hb2.mono hb1.size)).grown s2 (by have := hb1.size; have := hb2.size; omega) (fun j e => by cases e; omega)
      have h03 := (s2.block _ (Array.getElem?_eq_some_iff.1 h02).1 (fun e => by injection e; omega)).trans h02
      have hit3 := (s2.block _ (Array.getElem?_eq_some_iff.1 hit2).1 (fun e => by injection e; omega)).trans hit2
      have hv3 : VecAt _ w1.heap.size := (s2.block _ hv2.lt (fun e => by injection e; omega)).trans hv2
      have hW2' := hW2.symm
      clear hW2 hel hit hv h0 h1 hb hit1 h01 h11 hb1 hit2 hv2 h02 h12 hb2 hz1
      go_wp2
      go_roundw
      case rel => exact ⟨pos + 1, by omega, hit3, hv3, h03, by rw [HV.out]; exact s1, hbw⟩
      case measure =>
        have hmu2 : ∀ W : World, W.heap[w2.heap.size]? = some (.stringIter s (pos + 1)) → W.iterPos w2.heap.size = pos + 1 := fun W h => by simp [World.iterPos, h]
        rw [hmu, hmu2 _ hit3]
        omega
    · obtain rfl : pos = L.length := by have := HLN.out; omega
      have hnext : ∀ ty, (Instr.next (.pointer (some ⟨w2.heap.size, 0, none⟩)) true ty).run Tryz.prog wr = _ := fun ty => Lib.run_next_end_at wr w2.heap.size s L.length ty hit hp
      have HT := Lib.hid (show L.take L.length = L by rw [List.take_length])
      rw [HT.out] at h1 hvn
      obtain ⟨p0, p1, -, -⟩ := two_cell h1
      obtain ⟨o0, o1, o2, o3⟩ := two_cell h0
      obtain ⟨s1, s2⟩ := two_set h0 (.int .i64 (vecL L).1) (.int .i64 (vecL L).2)
      obtain ⟨t0, t1, -, -⟩ := two_cell s1
      have hbw := hb.grown s2 (by have := hb.size; omega) (fun j e => by cases e; omega)
      clear h0 h1 hz1
      go_wp2
      exact bodyPost_ret (v := .agg #[.int .i64 (vecL L).1, .int .i64 (vecL L).2]) (by simp [results, Tryz.results73, go_sem, t0, t1]) rfl ⟨rfl, hbw⟩

theorem idxI1 (a b : Value) (w : World) : (Instr.index 66 (.agg #[a, b]) (.int .i64 1)).run Tryz.prog w = .ok b w := by kernel_rfl
end Go.Proofs.YtfmfpnnglogkmaaGreatDoor

/- Has of the program at valid nets. -/
namespace Go.Proofs.YtfmfpnnglogkmaaGreatDoor
open Go.RowKit Go.Shelf Ck

end Go.Proofs.YtfmfpnnglogkmaaGreatDoor

/- Equality of counts. -/
namespace Go.Proofs.YtfmfpnnglogkmaaGreatDoor
open Go.RowKit

end Go.Proofs.YtfmfpnnglogkmaaGreatDoor

/- A sheet is a net: plain mathematics. -/
namespace Go.Proofs.YtfmfpnnglogkmaaGreatDoor
open Ck

theorem cell_mem {x y : Int} {r c : Nat} {b : Bar} (h : b ∈ cellL x y r c) :
    (b.y = y + (r : Int)) ∧ ((r % 2 = 1 ∧ b.x = x + 2 * (c : Int) + 1 ∧ (b.s = -1 ∨ b.s = 1)) ∨ (r % 2 = 0 ∧ (b.x = x + 2 * (c : Int) ∧ b.s = 1 ∨ b.x = x + 2 * (c : Int) + 2 ∧ b.s = -1))) := by
  unfold cellL cel0 cel1 oddB at h
  by_cases ho : r % 2 = 1
  · simp [ho] at h
    rcases h with rfl | rfl
    · exact ⟨rfl, .inl ⟨ho, rfl, .inl rfl⟩⟩
    · exact ⟨rfl, .inl ⟨ho, rfl, .inr rfl⟩⟩
  · have h0 : r % 2 = 0 := by omega
    simp [h0] at h
    rcases h with rfl | rfl
    · exact ⟨rfl, .inr ⟨h0, .inl ⟨rfl, rfl⟩⟩⟩
    · exact ⟨rfl, .inr ⟨h0, .inr ⟨rfl, rfl⟩⟩⟩
theorem cell_pair (x y : Int) (r c : Nat) : (cellL x y r c).Pairwise Blt := by
  unfold cellL cel0 cel1
  cases oddB r <;> simp [Blt] <;> omega
theorem row_mem {x y : Int} {r k : Nat} {b : Bar} (h : b ∈ rowL x y r k) : ∃ c, c < k ∧ b ∈ cellL x y r c := by
  obtain ⟨c, hc, hb⟩ := List.mem_flatMap.1 h
  exact ⟨c, List.mem_range.1 hc, hb⟩
theorem row_pair (x y : Int) (r : Nat) : ∀ k, (rowL x y r k).Pairwise Blt
  | 0 => by simp [rowL]
  | k + 1 => by
    rw [rowL_succ]
    refine List.pairwise_append.2 ⟨row_pair x y r k, cell_pair x y r k, fun a ha b hb => ?_⟩
    obtain ⟨c, hc, ha⟩ := row_mem ha
    obtain ⟨h1, h2⟩ := cell_mem ha
    obtain ⟨k1, k2⟩ := cell_mem hb
    unfold Blt
    omega
theorem sheet_mem {x y : Int} {cols r : Nat} {b : Bar} (h : b ∈ sheetP x y cols r) : ∃ q, q < r ∧ ∃ c, c < cols ∧ b ∈ cellL x y q c := by
  obtain ⟨q, hq, hb⟩ := List.mem_flatMap.1 h
  exact ⟨q, List.mem_range.1 hq, row_mem hb⟩
theorem sheet_pair (x y : Int) (cols : Nat) : ∀ r, (sheetP x y cols r).Pairwise Blt
  | 0 => by simp [sheetP]
  | r + 1 => by
    rw [sheetP_succ]
    refine List.pairwise_append.2 ⟨sheet_pair x y cols r, row_pair x y r cols, fun a ha b hb => ?_⟩
    obtain ⟨q, hq, c, hc, ha⟩ := sheet_mem ha
    obtain ⟨c', hc', hb⟩ := row_mem hb
    have h1 := (cell_mem ha).1
    have h2 := (cell_mem hb).1
    unfold Blt
    omega
theorem sheet_net {x y : Int} {cols rows : Nat} (hk : okKnot ⟨x, y⟩) (hx : inPlace (x + 2 * (cols : Int))) (hy : inPlace (y + (rows : Int))) : Net (sheetP x y cols rows) := by
  refine ⟨fun b hb => ?_, sheet_pair x y cols rows⟩
  obtain ⟨q, hq, c, hc, hb⟩ := sheet_mem hb
  obtain ⟨h1, h2⟩ := cell_mem hb
  obtain ⟨⟨k1, k2⟩, ⟨k3, k4⟩, k5⟩ := hk
  unfold inPlace at hx hy
  simp only [okBar, okKnot, Bar.lo, Bar.hi, inPlace]
  simp only at k1 k2 k3 k4 k5
  omega
end Go.Proofs.YtfmfpnnglogkmaaGreatDoor

/- The fixed example of the statements on edges: otterEdge. -/
namespace Go.Proofs.YtfmfpnnglogkmaaGreatDoor
open Go.RowKit Go.Shelf Ck

theorem barsS (x y : Int) (s : ByteArray) (c : Nat) (o : Bool) (w : World) (h : EdgeOk x y s c) :
    Calls Tryz.prog 18 #[.agg #[.int .i64 x, .int .i64 y], .string s, .int .i64 c, .bool o] w (PairPost (barsP (sg o) ⟨x, y⟩ (Lib.repeatL s.data.toList c)) w) :=
  (tpBars x y s c o w h).mono fun e w' ⟨v, he, hrow, hb⟩ => by
    obtain ⟨a, c', rfl, hok⟩ := own_oks hrow
    exact ⟨a, c', he, hok, hb⟩
theorem edge_net {x y : Int} {s : ByteArray} {c : Nat} (h : EdgeOk x y s c) (o : Bool) : Net (barsP (sg o) ⟨x, y⟩ (Lib.repeatL s.data.toList c)) := by
  obtain ⟨hs, h1, h2, x1, x2, y1, y2, hp⟩ := h
  refine ⟨fun b hb => ?_, barsP_lt _ _⟩
  obtain ⟨n1, n2, n3, n4⟩ := barsP_near (sg_or o) hb
  obtain ⟨g1, g2⟩ := barsP_ge hb
  have hl : ((Lib.repeatL s.data.toList c).length : Int) ≤ 256 := by rw [rep_len]; omega
  have he := n4 hp (rep_letters hs c)
  simp only at n1 n2 n3 g1
  have hs' : b.s = 1 ∨ b.s = -1 := by rw [g2]; exact sg_or o
  simp only [okBar, okKnot, Bar.lo, Bar.hi, inPlace]
  rcases hs' with h | h <;> rw [h] <;> omega
def nbb : ByteArray := ⟨#[78, 66, 66]⟩
theorem nbb_ok : EdgeOk 0 0 nbb 2 := ⟨⟨by intro c hc; simp [nbb] at hc; rcases hc with rfl | rfl <;> simp [isL], by decide, by decide⟩, by decide, by decide, by decide, by decide, by decide, by decide, by decide⟩
theorem nbb_runs : endsR (Lib.repeatL nbb.data.toList 2) = 2 := by decide +kernel
theorem nbb_bars : barsN (Lib.repeatL nbb.data.toList 2) = 4 := by decide +kernel
theorem four_facts : ∃ l, barsP (sg true) ⟨0, 0⟩ (Lib.repeatL nbb.data.toList 2) = l ∧ l.length = 4 ∧ PartsIs l 2 ∧ nK l = 6 ∧ nM l = 0 ∧ Net l := by
  have hp := barsP_parts (sg_or true) (k := ⟨0, 0⟩) (rep_letters nbb_ok.1 2)
  have hm := barsP_meshes (σ := sg true) (Lib.repeatL nbb.data.toList 2) ⟨0, 0⟩
  have hn := edge_net nbb_ok true
  have hl := barsP_length (σ := sg true) (Lib.repeatL nbb.data.toList 2) ⟨0, 0⟩
  rw [nbb_runs, nbb_bars] at hp
  rw [nbb_bars] at hl
  generalize barsP (sg true) ⟨0, 0⟩ (Lib.repeatL nbb.data.toList 2) = l at *
  exact ⟨l, rfl, hl, hp.1, hp.2, hm, hn⟩
theorem sheet_facts : ∃ S, S = sheetP (-2) (-2) 4 12 ∧ Net S ∧ S.length ≤ 200 ∧ (⟨1, 3, 1⟩ : Bar) ∈ S := by
  refine ⟨_, rfl, sheet_net (x := -2) (y := -2) (cols := 4) (rows := 12) ((knotE_ok (-2) (-2)).1 (by decide)) (by unfold inPlace; omega) (by unfold inPlace; omega), by rw [sheetP_length]; decide, ?_⟩
  refine List.mem_flatMap.2 ⟨5, by decide, List.mem_flatMap.2 ⟨1, by decide, ?_⟩⟩
  decide
theorem nbbBars (l : List Bar) (hl : barsP (sg true) ⟨0, 0⟩ (Lib.repeatL nbb.data.toList 2) = l) (w : World) :
    Calls Tryz.prog 18 #[.agg #[.int .i64 0, .int .i64 0], .string nbb, .int .i64 ((2 : Nat) : Int), .bool true] w (PairPost l w) := by
  have h := barsS 0 0 nbb 2 true w nbb_ok
  rw [hl] at h
  exact h
theorem two_cast : ((2 : Nat) : Int) = 2 := rfl
theorem nbbBars' (l : List Bar) (hl : barsP (sg true) ⟨0, 0⟩ (Lib.repeatL nbb.data.toList 2) = l) (w : World) :
    Calls Tryz.prog 18 #[.agg #[.int .i64 0, .int .i64 0], .string ⟨#[78, 66, 66]⟩, .int .i64 2, .bool true] w (PairPost l w) := by
  have h := nbbBars l hl w
  rw [two_cast] at h
  exact h
end Go.Proofs.YtfmfpnnglogkmaaGreatDoor

/- What the walk of TopOtterSlopes knows of its numbers. -/
namespace Go.Proofs.YtfmfpnnglogkmaaGreatDoor
open Go.RowKit Go.Shelf Ck

theorem vec_pos : ∀ (l : List UInt8) (k : Knot), posK 1 k l = ⟨k.x + (vecL l).1, k.y + (vecL l).2⟩
  | [], k => by simp [posK, vecL]
  | c :: r, k => by
    have ih := vec_pos r (stepK 1 k c)
    have e : posK 1 k (c :: r) = posK 1 (stepK 1 k c) r := rfl
    have h1 : (vecL (c :: r)).1 = dxL c + (vecL r).1 := by simp [vecL]
    have h2 : (vecL (c :: r)).2 = dyL c + (vecL r).2 := by simp [vecL]
    rw [e, ih, h1, h2]
    simp [stepK]
    omega
def farOf (P D : Nat) (k : Knot) : Int := k.x * (D : Int) - (P : Int) * k.y
structure Slp (a b c P D L X Y : Nat) (s : ByteArray) (K : List Knot) (l : List Bar) : Prop where
  num : a / a.gcd b = P
  den : b / a.gcd b = D
  d1 : 1 ≤ D
  p30 : P ≤ 30
  d30 : D ≤ 30
  cop : P.gcd D = 1
  str : slB P D = s
  size : s.size = L
  l1 : 1 ≤ L
  l60 : L ≤ 60
  word : Word s
  wordE : wordE s.data.toList = 0
  edge : EdgeOk 0 0 s c
  vec : vecL s.data.toList = ((X : Int), (Y : Int))
  y0 : 0 < Y
  x1000 : X ≤ 1000
  y1000 : Y ≤ 1000
  rp : X / X.gcd Y = P
  rd : Y / X.gcd Y = D
  walk : walkK (sg true) ⟨0, 0⟩ (Lib.repeatL s.data.toList c) = K
  len : K.length = L * c + 1
  bars : barsP (sg true) ⟨0, 0⟩ (Lib.repeatL s.data.toList c) = l
  net : netE l = 0
  short : l.length ≤ 256
  near : ∀ i (h : i < K.length), 0 ≤ K[i].x ∧ K[i].x ≤ 400 ∧ 0 ≤ K[i].y ∧ K[i].y ≤ 400
  flat : P ≤ D → ∀ i (h : i < K.length), farOf P D K[i] ≤ 0 ∧ -(P : Int) - D < farOf P D K[i]
  steep : D < P → ∀ i (h : i < K.length), 0 ≤ farOf P D K[i] ∧ farOf P D K[i] < (P : Int) + D
  turn : ∀ i (h : i < K.length), i % L = 0 → farOf P D K[i] = 0

theorem slp_all (a b c : Nat) (ha : a ≤ 30) (hb1 : 1 ≤ b) (hb : b ≤ 30) (hc : 1 ≤ c) (hc3 : c ≤ 3) : ∃ (P D L X Y : Nat) (s : ByteArray) (K : List Knot) (l : List Bar), Slp a b c P D L X Y s K l := by
  have hg : 0 < a.gcd b := Nat.gcd_pos_of_pos_right _ (by omega)
  obtain ⟨P, hP⟩ : ∃ P, a / a.gcd b = P := ⟨_, rfl⟩
  obtain ⟨D, hD⟩ : ∃ D, b / a.gcd b = D := ⟨_, rfl⟩
  have hp30 : P ≤ 30 := by rw [← hP]; exact Nat.le_trans (Nat.div_le_self _ _) (by omega)
  have hd30 : D ≤ 30 := by rw [← hD]; exact Nat.le_trans (Nat.div_le_self _ _) (by omega)
  have hd1 : 1 ≤ D := by rw [← hD]; exact Nat.div_pos (Nat.le_of_dvd (by omega) (Nat.gcd_dvd_right _ _)) hg
  have hcop : P.gcd D = 1 := by rw [← hP, ← hD]; exact Nat.coprime_div_gcd_div_gcd hg
  obtain ⟨l1, l2, l3⟩ := shareL_le (P := P) hd1
  obtain ⟨s, hs⟩ : ∃ s, slB P D = s := ⟨_, rfl⟩
  have hsd : s.data.toList = slW P D := by rw [← hs]; rfl
  have hsz : s.size = shareL P D := by rw [Lib.size_eq, hsd, slW_len]
  have hlet : ∀ q ∈ s.data.toList, isL q := by rw [hsd]; exact slW_isL P D
  have hw : Word s := ⟨hlet, by omega, by omega⟩
  have hwE : wordE s.data.toList = 0 := by
    have hlen : s.data.toList.length = s.size := (Lib.size_eq s).symm
    have hne : ¬ s.data.toList = [] := fun e => by rw [e] at hlen; simp at hlen; omega
    rw [wordE, if_neg hne, if_neg (by omega), if_pos]
    rw [List.all_eq_true]
    exact fun q hq => (okC_iff q).2 (hlet q hq)
  have hcl : c * s.size ≤ 180 := Nat.le_trans (Nat.mul_le_mul hc3 (by omega : s.size ≤ 60)) (by decide)
  have hE : EdgeOk 0 0 s c := ⟨hw, hc, by omega, by omega, by omega, by omega, by omega, by decide⟩
  obtain ⟨X, Y, hXY, hY, hr1, hr2, hX2, hY2⟩ := sl_rate hd1 hcop
  have hpos1 := sl_pos (P := P) hd1 1 (shareL P D) (by omega)
  have htk : (Lib.repeatL (slW P D) 1).take (shareL P D) = slW P D := by
    have e : Lib.repeatL (slW P D) 1 = slW P D := by simp [Lib.repeatL]
    rw [e]
    exact List.take_of_length_le (by rw [slW_len]; exact Nat.le_refl _)
  have hvec : vecL s.data.toList = ((X : Int), (Y : Int)) := by
    rw [htk, hXY, vec_pos] at hpos1
    injection hpos1 with e1 e2
    rw [hsd]
    ext
    · simpa using e1
    · simpa using e2
  obtain ⟨K, hK⟩ : ∃ K, walkK (sg true) ⟨0, 0⟩ (Lib.repeatL s.data.toList c) = K := ⟨_, rfl⟩
  have hKl : K.length = shareL P D * c + 1 := by rw [← hK, walkK_length, rep_len, hsz, Nat.mul_comm]
  have hKat : ∀ i (h : i < K.length), K[i] = slPos P D i := by
    intro i h
    subst hK
    rw [walkK_at]
    have hi : i ≤ c * shareL P D := by rw [hKl, Nat.mul_comm] at h; omega
    rw [hsd]
    exact sl_pos hd1 c i hi
  have hfar : ∀ i (h : i < K.length), farOf P D K[i] = slFar P D i := fun i h => by rw [farOf, slFar, hKat i h]
  obtain ⟨l, hl⟩ : ∃ l, barsP (sg true) ⟨0, 0⟩ (Lib.repeatL s.data.toList c) = l := ⟨_, rfl⟩
  have hll : l.length ≤ 256 := by
    rw [← hl, barsP_length, barsN]
    exact Nat.le_trans List.countP_le_length (by rw [rep_len]; omega)
  have hnet : netE l = 0 := (netE_zero l).2 ⟨by omega, by rw [← hl]; exact edge_net hE true⟩
  refine ⟨P, D, shareL P D, X, Y, s, K, l, hP, hD, hd1, hp30, hd30, hcop, hs, hsz, l1, by omega, hw, hwE, hE, hvec, hY, by omega, by omega, hr1, hr2, hK, hKl, hl, hnet, hll, fun i h => ?_, fun hPD i h => ?_, fun hPD i h => ?_, fun i h hi => ?_⟩
  · rw [hKat i h]
    obtain ⟨a1, a2, a3, a4⟩ := sl_near P D i hd1
    have hi : i ≤ 180 := by
      have : shareL P D * c ≤ 180 := by rw [← hsz, Nat.mul_comm]; exact hcl
      omega
    exact ⟨a1, by omega, a3, by omega⟩
  · rw [hfar i h]
    exact (sl_far hd1 i).1 hPD
  · rw [hfar i h]
    exact (sl_far hd1 i).2.1 hPD
  · rw [hfar i h]
    obtain ⟨q, rfl⟩ : ∃ q, i = q * shareL P D := ⟨i / shareL P D, by rw [Nat.div_mul_cancel (Nat.dvd_of_mod_eq_zero hi)]⟩
    exact (sl_far hd1 0).2.2 q

theorem kcellsL_atW (l : List Knot) : ∀ (i : Nat) (h : i < l.length), (kcellsL l)[i * 2]? = some (.int .i64 l[i].x) ∧ (kcellsL l)[i * 2 + 1]? = some (.int .i64 l[i].y) := by
  induction l with
  | nil => intro i h; simp at h
  | cons a r ih =>
    intro i h
    have e : kcellsL (a :: r) = [.int .i64 a.x, .int .i64 a.y] ++ kcellsL r := by simp [kcellsL]
    rw [e]
    cases i with
    | zero => exact ⟨rfl, rfl⟩
    | succ i =>
      have := ih i (by simpa using h)
      rw [show (i + 1) * 2 = i * 2 + 2 from by omega]
      simpa using this
theorem own_rkW {w : World} {base : Nat} {v : Value} {t : TypeId} {l : List Knot} (h : w.ownsRow base t 2 v l.length (kcellsL l)) : ∃ a c, v = .slice a l.length c ∧ RK w w.heap.size a l := by
  rcases h.2 with ⟨rfl, hz⟩ | ⟨g, cap, cur, rfl, _, hgb, h1, h2, _⟩
  · have : l = [] := List.eq_nil_of_length_eq_zero hz
    subst this
    exact ⟨none, 0, rfl, fun hl => by simp at hl⟩
  · refine ⟨_, _, rfl, fun hl => ⟨g, 0, rfl, (Array.getElem?_eq_some_iff.1 hgb).1, fun i hi => ?_⟩⟩
    have hc := h.cells (g := g) rfl
    obtain ⟨k0, k1⟩ := kcellsL_atW l i hi
    have q0 := hc _ _ k0
    have q1 := hc _ _ k1
    rw [add0] at q0 q1
    simp only [Nat.zero_add]
    exact ⟨q0, q1⟩
theorem rkBelow {w w' : World} {a : Option Addr} {l : List Knot} (h : RK w w.heap.size a l) (hb : Below w.heap.size w w') : RK w' w'.heap.size a l := (h.below hb).more hb.size
def KnotsPost (l : List Knot) (w : World) (e : Ending) (w' : World) : Prop := ∃ a c, e = .returned (.tuple #[.slice a l.length c, .int .i64 0]) ∧ RK w' w'.heap.size a l ∧ Below w.heap.size w w'
theorem walkS (x y : Int) (s : ByteArray) (c : Nat) (o : Bool) (K : List Knot) (n : Int) (hn : n = (c : Int)) (w : World) (hK : walkK (sg o) ⟨x, y⟩ (Lib.repeatL s.data.toList c) = K) (h : EdgeOk x y s c) :
    Calls Tryz.prog 17 #[.agg #[.int .i64 x, .int .i64 y], .string s, .int .i64 n, .bool o] w (KnotsPost K w) := by
  subst hn
  exact (tpWalk x y s c o w h).mono fun e w' ⟨v, he, hrow, hb⟩ => by
    rw [hK] at hrow
    obtain ⟨a, c', rfl, hok⟩ := own_rkW hrow
    exact ⟨a, c', he, hok, hb⟩
theorem barsSI (x y : Int) (s : ByteArray) (c : Nat) (o : Bool) (l : List Bar) (n : Int) (hn : n = (c : Int)) (w : World) (hl : barsP (sg o) ⟨x, y⟩ (Lib.repeatL s.data.toList c) = l) (h : EdgeOk x y s c) :
    Calls Tryz.prog 18 #[.agg #[.int .i64 x, .int .i64 y], .string s, .int .i64 n, .bool o] w (PairPost l w) := by
  subst hn hl
  exact barsS x y s c o w h
end Go.Proofs.YtfmfpnnglogkmaaGreatDoor

/- Edges all of whose knots are in place: plain mathematics. -/
namespace Go.Proofs.YtfmfpnnglogkmaaGreatDoor
open Go.RowKit Go.Shelf Ck

def EdgeG (x y : Int) (s : ByteArray) (c : Nat) (o : Bool) : Prop := Word s ∧ 1 ≤ c ∧ c * s.size ≤ 256 ∧ okKnot ⟨x, y⟩ ∧ ∀ q ∈ legsL (sg o) ⟨x, y⟩ (Lib.repeatL s.data.toList c), okKnot q.2.2
theorem legs_from (σ : Int) : ∀ (L : List UInt8) (k : Knot), okKnot k → (∀ q ∈ legsL σ k L, okKnot q.2.2) → ∀ q ∈ legsL σ k L, q.1 ∈ L ∧ q.2.2 = stepK σ q.2.1 q.1 ∧ okKnot q.2.1
  | [], _, _, _, q, hq => by simp [legsL] at hq
  | c :: r, k, hk, h, q, hq => by
    have hs : okKnot (stepK σ k c) := h (c, k, stepK σ k c) (by simp [legsL])
    rw [legsL, List.mem_cons] at hq
    rcases hq with rfl | hq
    · exact ⟨by simp, rfl, hk⟩
    · obtain ⟨h1, h2, h3⟩ := legs_from σ r (stepK σ k c) hs (fun q' hq' => h q' (by rw [legsL]; exact List.mem_cons_of_mem _ hq')) q hq
      exact ⟨List.mem_cons_of_mem _ h1, h2, h3⟩
theorem EdgeG.legs {x y : Int} {s : ByteArray} {c : Nat} {o : Bool} (h : EdgeG x y s c o) : ∀ q ∈ legsL (sg o) ⟨x, y⟩ (Lib.repeatL s.data.toList c), isL q.1 ∧ q.2.2 = stepK (sg o) q.2.1 q.1 ∧ okKnot q.2.1 ∧ okKnot q.2.2 := fun q hq => by
  obtain ⟨hs, -, -, hk, hq2⟩ := h
  obtain ⟨h1, h2, h3⟩ := legs_from _ _ _ hk hq2 q hq
  exact ⟨rep_letters hs c _ h1, h2, h3, hq2 q hq⟩
theorem EdgeOk.toG {x y : Int} {s : ByteArray} {c : Nat} (h : EdgeOk x y s c) (o : Bool) : EdgeG x y s c o := by
  have hl := h.legs o
  obtain ⟨hs, h1, h2, x1, x2, y1, y2, hp⟩ := h
  exact ⟨hs, h1, h2, ⟨⟨by simp; omega, by simp; omega⟩, ⟨by simp; omega, by simp; omega⟩, hp⟩, fun q hq => (hl q hq).2.2.2⟩
theorem walkK_snoc (σ : Int) (k : Knot) (L : List UInt8) (c : UInt8) : walkK σ k (L ++ [c]) = walkK σ k L ++ [posK σ k (L ++ [c])] := by
  rw [walkK, legsL_snoc, walkOf_snoc, posK_snoc]
  rfl
theorem walkK_mem {σ : Int} {k q : Knot} {L : List UInt8} : q ∈ walkK σ k L ↔ q = k ∨ ∃ p ∈ legsL σ k L, q = p.2.2 := by
  simp only [walkK, walkOf, List.mem_cons, List.mem_map]
  constructor
  · rintro (h | ⟨p, hp, rfl⟩)
    · exact .inl h
    · exact .inr ⟨p, hp, rfl⟩
  · rintro (h | ⟨p, hp, rfl⟩)
    · exact .inl h
    · exact .inr ⟨p, hp, rfl⟩
theorem dL_near (c : UInt8) : 0 ≤ dxL c ∧ dxL c ≤ 2 ∧ 0 ≤ dyL c ∧ dyL c ≤ 2 := by
  unfold dxL dyL
  split <;> (try split) <;> (try split) <;> omega
theorem stepK_near (o : Bool) (k : Knot) (c : UInt8) : k.x - 2 ≤ (stepK (sg o) k c).x ∧ (stepK (sg o) k c).x ≤ k.x + 2 ∧ k.y ≤ (stepK (sg o) k c).y ∧ (stepK (sg o) k c).y ≤ k.y + 2 := by
  have := dL_near c
  cases o <;> simp [stepK, sg] <;> omega
theorem posK_near (o : Bool) : ∀ (L : List UInt8) (k : Knot), k.x - 2 * (L.length : Int) ≤ (posK (sg o) k L).x ∧ (posK (sg o) k L).x ≤ k.x + 2 * (L.length : Int) ∧ k.y ≤ (posK (sg o) k L).y ∧ (posK (sg o) k L).y ≤ k.y + 2 * (L.length : Int)
  | [], k => by simp [posK]
  | c :: r, k => by
    have ih := posK_near o r (stepK (sg o) k c)
    have h := stepK_near o k c
    have e : posK (sg o) k (c :: r) = posK (sg o) (stepK (sg o) k c) r := rfl
    rw [e]
    simp only [List.length_cons]
    omega
theorem stepK_even (o : Bool) (k : Knot) {c : UInt8} (hc : isL c) : ((stepK (sg o) k c).x + (stepK (sg o) k c).y) % 2 = (k.x + k.y) % 2 := by
  rcases hc with rfl | rfl | rfl <;> cases o <;> simp [stepK, sg, dxL, dyL] <;> omega
/-- Is a knot beyond the place? (Upwards or sideways: an edge does not go down.) -/
def outK (q : Knot) : Bool := decide (q.x < -100000 ∨ 100000 < q.x ∨ 100000 < q.y)
theorem legs_in (o : Bool) : ∀ (L : List UInt8) (k : Knot), (∀ c ∈ L, isL c) → okKnot k → (∀ q ∈ legsL (sg o) k L, outK q.2.2 = false) → ∀ q ∈ legsL (sg o) k L, okKnot q.2.2
  | [], _, _, _, _, q, hq => by simp [legsL] at hq
  | c :: r, k, hL, hk, h, q, hq => by
    have h0 := h (c, k, stepK (sg o) k c) (by simp [legsL])
    have hn := stepK_near o k c
    have he := stepK_even o k (hL c (by simp))
    obtain ⟨⟨a1, a2⟩, ⟨b1, b2⟩, hp⟩ := hk
    simp only [outK, decide_eq_false_iff_not] at h0
    have hs : okKnot (stepK (sg o) k c) := ⟨⟨by omega, by omega⟩, ⟨by omega, by omega⟩, by omega⟩
    rw [legsL, List.mem_cons] at hq
    rcases hq with rfl | hq
    · exact hs
    · exact legs_in o r (stepK (sg o) k c) (fun c' hc' => hL c' (by simp [hc'])) hs (fun q' hq' => h q' (by rw [legsL]; exact List.mem_cons_of_mem _ hq')) q hq
/-- CheckWalk's error for the reference. -/
def wlk0 (x y : Int) (s : ByteArray) (t : Int) : Int := firstE [knotE x y, wordE s.data.toList, (if t < 1 ∨ 256 < t then 3 else 0)]
def wlkE (x y : Int) (s : ByteArray) (t : Int) (o : Bool) : Int :=
  if wlk0 x y s t = 0 then (if 256 < (s.size : Int) * t then 26 else if (walkK (sg o) ⟨x, y⟩ (Lib.repeatL s.data.toList t.toNat)).any outK then 32 else 0) else wlk0 x y s t
theorem wlk0_zero {x y : Int} {s : ByteArray} {t : Int} (h : wlk0 x y s t = 0) : okKnot ⟨x, y⟩ ∧ Word s ∧ ∃ c : Nat, t = (c : Int) ∧ 1 ≤ c ∧ c ≤ 256 := by
  simp only [wlk0, firstE] at h
  by_cases h1 : knotE x y = 0
  · rw [if_pos h1] at h
    by_cases h2 : wordE s.data.toList = 0
    · rw [if_pos h2] at h
      by_cases h3 : t < 1 ∨ 256 < t
      · rw [if_pos h3, if_neg (by decide)] at h
        cases h
      · exact ⟨(knotE_ok x y).1 h1, wordE_zero h2, t.toNat, by omega, by omega, by omega⟩
    · rw [if_neg h2] at h
      exact absurd h h2
  · rw [if_neg h1] at h
    exact absurd h h1
theorem wlkE_zero {x y : Int} {s : ByteArray} {t : Int} {o : Bool} (h : wlkE x y s t o = 0) : ∃ c : Nat, t = (c : Int) ∧ EdgeG x y s c o := by
  rw [wlkE] at h
  by_cases h0 : wlk0 x y s t = 0
  · obtain ⟨hk, hs, c, rfl, c1, c2⟩ := wlk0_zero h0
    rw [if_pos h0] at h
    by_cases h1 : 256 < (s.size : Int) * (c : Int)
    · rw [if_pos h1] at h
      cases h
    · rw [if_neg h1, Int.toNat_natCast] at h
      have hm : c * s.size ≤ 256 := by
        rw [Nat.mul_comm]
        have : ((s.size * c : Nat) : Int) = (s.size : Int) * (c : Int) := by push_cast; rfl
        omega
      refine ⟨c, rfl, hs, c1, hm, hk, legs_in o _ _ (rep_letters hs c) hk fun q hq => ?_⟩
      by_cases h2 : (walkK (sg o) ⟨x, y⟩ (Lib.repeatL s.data.toList c)).any outK = true
      · rw [if_pos h2] at h
        cases h
      · have h3 : ∀ q ∈ walkK (sg o) ⟨x, y⟩ (Lib.repeatL s.data.toList c), outK q = false := by simpa using h2
        exact h3 _ (walkK_mem.2 (.inr ⟨q, hq, rfl⟩))
  · rw [if_neg h0] at h
    exact absurd h h0
end Go.Proofs.YtfmfpnnglogkmaaGreatDoor

/- checkEdge, Bars, Meshes and Walk of taper at every edge whose knots are in place. -/
namespace Go.Proofs.YtfmfpnnglogkmaaGreatDoor
open Go.RowKit Go.Shelf Ck
attribute [local go_sem] Oper.semAt_some

set_option maxHeartbeats 4000000 in
set_option maxRecDepth 100000 in
theorem tpCheckEdgeG (x y : Int) (s : ByteArray) (c : Nat) (o : Bool) (w : World) (h : EdgeG x y s c o) :
    Calls Tryz.prog 61 #[.agg #[.int .i64 x, .int .i64 y], .string s, .int .i64 c, .bool o] w fun e w' => e = .returned (.int .i64 0) ∧ Below w.heap.size w w' := by
  have HL := Lib.hid (h.legs)
  obtain ⟨hs, h1, h2, ⟨⟨x1, x2⟩, ⟨y1, y2⟩, hp⟩, -⟩ := h
  simp only at x1 x2 y1 y2 hp
  have HK := Lib.hid ((knotE_ok x y).2 ⟨⟨by simp; omega, by simp; omega⟩, ⟨by simp; omega, by simp; omega⟩, hp⟩)
  have HR := Lib.hid (show (if (c : Int) < 1 ∨ 256 < (c : Int) then (3 : Int) else 0) = 0 by
    rw [if_neg]
    have := Nat.mul_le_mul_left c hs.2.1
    omega)
  have hmul : (s.size : Int) * (c : Int) ≤ 256 := by
    rw [Int.mul_comm, ← Int.natCast_mul]
    omega
  have hmul0 : 0 ≤ (s.size : Int) * (c : Int) := Int.mul_nonneg (by omega) (by omega)
  have HS := Lib.hid hs
  clear hs h1 hp
  refine (callsIn_wide (n := 6)).1 (callsIn_of_wp_marks Tryz.func61 rfl trivial (wpIn_wide.2 ?_) rfl)
  simp only [Tryz.ntmps61, List.size_toArray, List.length_cons, List.length_nil, Nat.reduceAdd, Nat.reduceSub, Array.replicate_succ, Array.replicate_zero, List.push_toArray, List.append_toArray, List.nil_append, List.cons_append]
  obtain ⟨w1, hw1, hb1, hz1, ex, er⟩ : ∃ w1, w1 = (w.alloc (.cells #[.int .i64 x, .int .i64 y] 43)).alloc (.cells #[.int .i64 0] 30) ∧ Below w.heap.size w w1 ∧ w1.heap.size = w.heap.size + 2 ∧ w1.heap[w.heap.size]? = some (.cells #[.int .i64 x, .int .i64 y] 43 (0, 0)) ∧ w1.heap[w.heap.size + 1]? = some (.cells #[.int .i64 0] 30 (0, 0)) := by
    refine ⟨_, rfl, ((Below.refl _ _).alloc (Nat.le_refl _) _).alloc (by simp) _, by simp, ?_, ?_⟩
    · rw [Below.heap_alloc _ _ _ (by simp)]
      exact heap_alloc_new _ _
    · have := heap_alloc_new (w.alloc (.cells #[.int .i64 x, .int .i64 y] 43)) (.cells #[.int .i64 0] 30)
      rwa [World.size_alloc] at this
  have HW1 := Lib.hid hw1
  have HZ1 := Lib.hid hz1
  clear hw1 hz1
  go_wp2_with fail
  rw [← HW1.out]
  refine (netCheckKnot x y _).mono ?_
  rintro e w2 ⟨rfl, hb2⟩
  rw [HK.out]
  go_wp2_with fail
  refine (tpCheckWord s _ HS.out).mono ?_
  rintro e w3 ⟨rfl, hb3⟩
  go_wp2_with fail
  refine (tpCheckRange _ _ _ _).mono ?_
  rintro e w4 ⟨rfl, rfl⟩
  rw [HR.out]
  go_wp2_with fail
  refine (tpFirst3 _ _ 0 0 0 30 _ (by exact heap_alloc_new _ _)).mono ?_
  rintro e w5 ⟨rfl, rfl⟩
  rw [show firstE [0, 0, 0] = 0 from rfl]
  have b13 : Below w1.heap.size w1 w3 := hb2.trans (hb3.mono hb2.size)
  have b16 : Below w1.heap.size w1 (w3.alloc (.cells #[.int .i64 0, .int .i64 0, .int .i64 0] 30)) := b13.alloc b13.size _
  generalize w3.alloc (.cells #[.int .i64 0, .int .i64 0, .int .i64 0] 30) = w6 at *
  have hz1 := HZ1.out
  have ex6 := (b16.block _ (by omega)).trans ex
  have er6 := (b16.block _ (by omega)).trans er
  obtain ⟨f0, f1, -, -⟩ := two_cell ex6
  have bw6 := hb1.trans (b16.mono hb1.size)
  clear ex er hz1
  go_wp2_with fail
  refine (tpLegs x y s c o _).mono ?_
  rintro e w7 ⟨rfl, hw7⟩
  obtain ⟨W9, hW9, hb9, hz9, q0, q1, q2, q3⟩ := legs_boxes w6 x y c s o
  rw [← hW9] at hw7
  have hw7' := hw7.symm
  subst hw7'
  clear hW9
  have HZ9 := Lib.hid hz9
  have er9 := (hb9.block _ (Array.getElem?_eq_some_iff.1 er6).1).trans er6
  have her6 := (Array.getElem?_eq_some_iff.1 er6).1
  have bw9 := bw6.trans (hb9.mono bw6.size)
  clear hz9 f0 f1 hw7
  go_wp2_with fail
  have hvis := legs_visits w6.heap.size 4 w6.heap.size (w6.heap.size + 1) (w6.heap.size + 2) (w6.heap.size + 3) 104 (by omega) x y s c o W9 (by decide) HS.out h2 (by omega) (by omega) (by omega) (by omega) (by omega) (by rw [HZ9.out]; omega) q0 q1 q2 q3
  refine (wpIn_wide (n := 5)).1 ?_
  generalize hA0 : (Act.mk _ _) = A0
  refine wpIn_visits (n := 5) (by omega) (gf := 99) (lb := #[.pointer (some ⟨w6.heap.size, 0, none⟩), .pointer (some ⟨w6.heap.size + 1, 0, none⟩), .pointer (some ⟨w6.heap.size + 2, 0, none⟩), .pointer (some ⟨w6.heap.size + 3, 0, none⟩)]) (by rw [← hA0]; rfl) ?eg hvis KT.trans (KT.put (w := W9)) (fun _ => rfl)
    (fun _ W => Below w.heap.size w W ∧ (W.heap[w.heap.size + 1]? = some (.cells #[.int .i64 0] 30 (0, 0)) ∧ W9.heap.size ≤ W.heap.size))
    (Bides.and (bides_below bw9.size (Nat.le_refl _)) (Bides.and (bides_block (by rw [HZ9.out]; omega)) bides_size)) ⟨bw9, er9, Nat.le_refl _⟩ ?round ?done
  case eg => exact fun _ _ => by kernel_rfl
  case round =>
    rintro l pre q W hz ⟨hbW, herW, hsW⟩ ⟨r, hr⟩
    obtain ⟨hq1, hq2, hq3, hq4⟩ := HL.out q (by rw [hr]; simp)
    clear hq1 hq2 hq3
    have HKq := Lib.hid ((knotE_ok q.2.2.x q.2.2.y).2 hq4)
    subst hA0
    dsimp only [legArr]
    gi_wp2
    have hb0 : Below W.heap.size W (W.alloc (.cells #[.int .i32 (q.1.toNat : Int), .int .i64 q.2.1.x, .int .i64 q.2.1.y, .int .i64 q.2.2.x, .int .i64 q.2.2.y] 104)) := (Below.refl _ _).alloc (Nat.le_refl _) _
    refine ⟨Book.below hz hb0, KT.of_below hb0, fun Wb hg hobj _ => ?_⟩
    have hbx : Wb.heap[W.heap.size]? = some (.cells #[.int .i32 (q.1.toNat : Int), .int .i64 q.2.1.x, .int .i64 q.2.1.y, .int .i64 q.2.2.x, .int .i64 q.2.2.y] 104 (0, 0)) :=
      (hg.block _ (by simp) (fun e => by injection e; omega)).trans (heap_alloc_new _ _)
    obtain ⟨r0, r1, r2, r3, r4, -⟩ := five_of_block hbx
    obtain ⟨o1, ho1, ho2⟩ := hobj
    have hz9 := HZ9.out
    have hfk : Fence.wide.fn 98 := trivial
    have hfk' : (Fence.wide.inRound l).fn 98 := trivial
    have hn1 : 1 ≤ 5 - 1 - 1 := by decide
    have hbb : Below w.heap.size w Wb := (hbW.trans (hb0.mono hbW.size)).grown hg (by have := hbW.size; simp; omega) (fun k e => by cases e; have := bw9.size; omega)
    have heb : Wb.heap[w.heap.size + 1]? = some (.cells #[.int .i64 0] 30 (0, 0)) := (hg.block _ (by simp; omega) (fun e => by injection e; omega)).trans ((hb0.block _ (by omega)).trans herW)
    have hsb : W9.heap.size + 2 ≤ Wb.heap.size := by have := hg.size; simp at this; omega
    gi_wp2_with (gi_at_call 98; refine (CallsIn.inRound l (callsIn_wide.2 (netCheckKnot _ _ _))).mono ?_; rintro e W2 ⟨rfl, hb2⟩; rw [HKq.out])
    exact ⟨Book.below hsb hb2, KT.of_below hb2, hbb.trans (hb2.mono hbb.size), (hb2.block _ (Array.getElem?_eq_some_iff.1 heb).1).trans heb, by have := hb2.size; omega⟩
  case done =>
    rintro D ys W hD hS ⟨hbW, herW, hsW⟩ hK
    subst hA0
    obtain ⟨k0, k1⟩ := one_cell' herW
    have hDn : D ≠ w.heap.size + 1 := by have := HZ9.out; omega
    go_wp2
    have hK' : (W.setCell ⟨w.heap.size + 1, 0, none⟩ (.int .i64 0)).heap[D]? = some (.deferred (some [])) := (Below.heap_setCell _ _ _ D hDn).trans hK
    have hbf : Below w.heap.size w (W.setCell ⟨w.heap.size + 1, 0, none⟩ (.int .i64 0)) := hbW.setCell (by simp) _
    refine ⟨by simp, .inl ⟨_, _, rfl, run_takeDeferred hK', ?_⟩⟩
    refine ⟨.int .i64 0, ?_, rfl, hbf.trans (belowK_b (w := W9) (n₀ := w.heap.size) bw9.size _ D _ _ hD hK' rfl rfl)⟩
    have hcl := one_cell ((World.putObj_heap_other (r := D) (o := .deferred none) (k := w.heap.size + 1) (fun e => hDn e.symm)).trans (one_set herW (.int .i64 0)))
    simp [results, Tryz.results61, go_sem, hcl]
set_option maxHeartbeats 4000000 in
set_option maxRecDepth 100000 in
theorem tpBarsG (x y : Int) (s : ByteArray) (c : Nat) (o : Bool) (w : World) (h : EdgeG x y s c o) :
    Calls Tryz.prog 18 #[.agg #[.int .i64 x, .int .i64 y], .string s, .int .i64 c, .bool o] w (SheetPost (barsP (sg o) ⟨x, y⟩ (Lib.repeatL s.data.toList c)) w) := by
  have HE := Lib.hid h
  have HL := Lib.hid (h.legs)
  have HLEN := Lib.hid (show (legsL (sg o) ⟨x, y⟩ (Lib.repeatL s.data.toList c)).length ≤ 256 by rw [legsL_length, rep_len]; exact h.2.2.1)
  obtain ⟨hs, h1, h2, ⟨⟨x1, x2⟩, ⟨y1, y2⟩, hp⟩, -⟩ := h
  simp only at x1 x2 y1 y2 hp
  have HS := Lib.hid hs
  clear hs h1 hp
  refine (callsIn_wide (n := 6)).1 (callsIn_of_wp_marks Tryz.func18 rfl trivial (wpIn_wide.2 ?_) rfl)
  simp only [Tryz.ntmps18, List.size_toArray, List.length_cons, List.length_nil, Nat.reduceAdd, Nat.reduceSub, Array.replicate_succ, Array.replicate_zero, List.push_toArray, List.append_toArray, List.nil_append, List.cons_append]
  obtain ⟨w1, hw1, e0, e1, hb1, hz1⟩ := box2 w (.int .i64 x) (.int .i64 y) 43
  have HW1 := Lib.hid hw1
  clear hw1
  go_wp2_with fail
  rw [← HW1.out]
  refine (tpCheckEdgeG x y s c o _ HE.out).mono ?_
  rintro e w2 ⟨rfl, hb2⟩
  have f0 := (hb2.cell (p := ⟨w.heap.size, 0, none⟩) hz1).trans e0
  have f1 := (hb2.cell (p := ⟨w.heap.size, 1, none⟩) hz1).trans e1
  have hbw := hb1.trans (hb2.mono hb1.size)
  have hz2 := hb2.size
  have bO := Boxed.new w2 49 (.slice none 0 0)
  have hb3 : Below w2.heap.size w2 (w2.alloc (.cells #[.slice none 0 0] 49)) := (Below.refl _ _).alloc (Nat.le_refl _) _
  have g0 := (hb3.cell (p := ⟨w.heap.size, 0, none⟩) (by show w.heap.size < _; omega)).trans f0
  have g1 := (hb3.cell (p := ⟨w.heap.size, 1, none⟩) (by show w.heap.size < _; omega)).trans f1
  have HSZ := Lib.hid (show (w2.alloc (.cells #[.slice none 0 0] 49)).heap.size = w2.heap.size + 1 by simp)
  obtain ⟨w6, hw6⟩ : ∃ w6, w2.alloc (.cells #[.slice none 0 0] 49) = w6 := ⟨_, rfl⟩
  rw [hw6] at bO hb3 HSZ
  have HW6 := Lib.hid hw6
  clear hw6 f0 f1 e0 e1
  go_wp2_with fail
  rw [HW6.out]
  refine (tpLegs x y s c o _).mono ?_
  rintro e w7 ⟨rfl, hw7⟩
  obtain ⟨W9, hW9, hb9, hz9, q0, q1, q2, q3⟩ := legs_boxes w6 x y c s o
  rw [← hW9] at hw7
  have hw7' := hw7.symm
  subst hw7'
  clear hW9
  have HZ9 := Lib.hid hz9
  have hz6 := HSZ.out
  have bO9 : Boxed W9 w2.heap.size 49 (.slice none 0 0) := (hb9.block _ (by omega)).trans bO
  have bw6 := hbw.trans (hb3.mono hbw.size)
  have bw9 := bw6.trans (hb9.mono bw6.size)
  have hwz := hbw.size
  obtain ⟨ib, hib, hi0, hi1, hi2⟩ := info_parts Tryz.info74
  have HB := Lib.hid hib
  have HB0 := Lib.hid hi0
  have HB1 := Lib.hid hi1
  have HB2 := Lib.hid hi2
  clear hz9 hw7 hz6 hib hi0 hi1 hi2
  go_wp2_with fail
  have hvis := legs_visits w6.heap.size 4 w6.heap.size (w6.heap.size + 1) (w6.heap.size + 2) (w6.heap.size + 3) 74 (by omega) x y s c o W9 (by decide) HS.out h2 (by omega) (by omega) (by omega) (by omega) (by omega) (by rw [HZ9.out]; omega) q0 q1 q2 q3
  refine (wpIn_wide (n := 5)).1 ?_
  generalize hA0 : (Act.mk _ _) = A0
  refine wpIn_visits (n := 5) (by omega) (gf := 99) (lb := #[.pointer (some ⟨w6.heap.size, 0, none⟩), .pointer (some ⟨w6.heap.size + 1, 0, none⟩), .pointer (some ⟨w6.heap.size + 2, 0, none⟩), .pointer (some ⟨w6.heap.size + 3, 0, none⟩)]) (by rw [← hA0]; rfl) ?eg hvis KT.trans (KT.put (w := W9)) (fun _ => rfl)
    (fun pre W => (∃ v, Boxed W w2.heap.size 49 v ∧ W.ownsRow w.heap.size 74 3 v (barsOf pre).length (bcellsL (barsOf pre))) ∧ (Below w.heap.size w W ∧ W9.heap.size ≤ W.heap.size))
    (Bides.and (bides_row (fun pre => (barsOf pre).length) (fun pre => bcellsL (barsOf pre)) (by rw [HZ9.out, HSZ.out]; omega) (by decide)) (Bides.and (bides_below bw9.size (Nat.le_refl _)) bides_size)) ⟨⟨_, bO9, World.ownsRow_nil _ _ _ _⟩, bw9, Nat.le_refl _⟩ ?round ?done
  case eg => exact fun _ _ => by kernel_rfl
  case round =>
    rintro l pre q W hz ⟨⟨v, hv, hrow⟩, hbW, hsW⟩ ⟨r, hr⟩
    obtain ⟨hq1, -, hq3, hq4⟩ := HL.out q (by rw [hr]; simp)
    have hpre : (barsOf pre).length ≤ 256 := by
      have h1 := HLEN.out
      rw [hr] at h1
      have : ∀ l : List (UInt8 × Knot × Knot), (barsOf l).length ≤ l.length := fun l => by
        induction l with
        | nil => simp [barsOf]
        | cons a t ih =>
          have e : barsOf (a :: t) = (if a.1 = 66 then [⟨a.2.1.x, a.2.1.y, a.2.2.x - a.2.1.x⟩] else []) ++ barsOf t := by simp [barsOf]
          rw [e, List.length_append, List.length_cons]
          split <;> simp <;> omega
      have := this pre
      simp at h1
      omega
    obtain ⟨⟨a1, a2⟩, -, -⟩ := hq3
    obtain ⟨⟨a3, a4⟩, -, -⟩ := hq4
    have HSNOC := Lib.hid (barsOf_snoc pre q)
    subst hA0
    dsimp only [legArr]
    gi_wp2
    have hb0 : Below W.heap.size W (W.alloc (.cells #[.int .i32 (q.1.toNat : Int), .int .i64 q.2.1.x, .int .i64 q.2.1.y, .int .i64 q.2.2.x, .int .i64 q.2.2.y] 104)) := (Below.refl _ _).alloc (Nat.le_refl _) _
    refine ⟨Book.below hz hb0, KT.of_below hb0, fun Wb hg hobj hbk => ?_⟩
    have hbx : Wb.heap[W.heap.size]? = some (.cells #[.int .i32 (q.1.toNat : Int), .int .i64 q.2.1.x, .int .i64 q.2.1.y, .int .i64 q.2.2.x, .int .i64 q.2.2.y] 104 (0, 0)) :=
      (hg.block _ (by simp) (fun e => by injection e; omega)).trans (heap_alloc_new _ _)
    obtain ⟨r0, r1, r2, r3, r4, -⟩ := five_of_block hbx
    obtain ⟨o1, ho1, ho2⟩ := hobj
    have hz9 := HZ9.out
    have hz6 := HSZ.out
    have hsb : W9.heap.size + 2 ≤ Wb.heap.size := by have := hg.size; simp at this; omega
    have hbb : Below w.heap.size w Wb := (hbW.trans (hb0.mono hbW.size)).grown hg (by have := hbW.size; simp; omega) (fun k e => by cases e; have := bw9.size; omega)
    have hI1 := bides_row (t := 49) (te := 74) (n₀ := w.heap.size) (size := 3) (fun pre => (barsOf pre).length) (fun pre => bcellsL (barsOf pre)) (show w2.heap.size < W9.heap.size by omega) (show 74 ≠ 43 by decide) pre _ Wb (some (W9.heap.size + 1)) ⟨v, hv.alloc _, hrow.alloc _⟩ hg (fun b e => by cases e; exact ⟨by omega, o1, ho1, .inl ho2⟩)
    obtain ⟨v, hvB, hrowB⟩ := hI1
    have hcB := hvB.cell
    have HBK := Lib.hid hbk
    have hwb : w.heap.size ≤ Wb.heap.size := by omega
    clear hv hrow hbk ho1 ho2 hbx
    by_cases h66 : q.1 = 66
    · have r0' : Wb.cell? ⟨W.heap.size, 0, none⟩ = some (.int .i32 66) := by rw [h66] at r0; exact r0
      have HSN := Lib.hid (show barsOf (pre ++ [q]) = barsOf pre ++ [⟨q.2.1.x, q.2.1.y, q.2.2.x - q.2.1.x⟩] by rw [HSNOC.out, if_pos h66])
      clear r0 h66 hq1 HSNOC
      gi_wp2_with (gi_at_builtin; refine wpListIn_append_own _ rfl _ _ 49 rfl w.heap.size 74 ib (.agg #[.int .i64 0, .int .i64 0, .int .i64 0]) 3 24 Tryz.underlying49 HB.out HB0.out HB1.out HB2.out rfl (by decide) _ _ _ rfl (hrowB.alloc _) ⟨Wb.heap.size, 0, none⟩ 1 1 [.int .i64 q.2.1.x, .int .i64 q.2.1.y, .int .i64 (q.2.2.x - q.2.1.x)] rfl rfl (three_new _ _ _ _ _) (by intro u hu; simp at hu; rcases hu with rfl | rfl | rfl <;> rfl) (by unfold maxLen; omega) (by omega) (by simp; omega) ?_; intro v' w1' hown' hgrow _; obtain ⟨g', cap', rfl⟩ := ownsRow_succ hown'; obtain ⟨hv1, hv2, hr2, hk2, hb2'⟩ := hvB.appended (by decide) hrowB hwb (by omega) hown' hgrow; have hkt := KT.appended (B1 := w6.heap.size) (Bo := w2.heap.size) (by omega) (by decide) hrowB hgrow (.slice (some ⟨g', 0, none⟩) ((barsOf pre).length + 1) cap'); have hc1 := hv1.cell; have hf1 := hv1.frozen)
      exact ⟨Book.others hk2 HBK.out.1 HBK.out.2, hkt, ⟨_, hv2, by rw [HSN.out, bcellsL_snoc]; simpa using hr2⟩, hbb.trans hb2', by have := hb2'.size; omega⟩
    · have hne : ((q.1.toNat : Int) == 66) = false := by
        rw [beq_eq_false_iff_ne]
        intro e
        exact h66 (UInt8.toNat.inj (by show q.1.toNat = 66; omega))
      have HSN := Lib.hid (show barsOf (pre ++ [q]) = barsOf pre by rw [HSNOC.out, if_neg h66, List.append_nil])
      clear h66 hq1 HSNOC
      gi_wp2
      exact ⟨Book.below hsb (Below.refl _ _), KT.of_below (Below.refl _ _), ⟨_, hvB, by rw [HSN.out]; exact hrowB⟩, hbb, by omega⟩
  case done =>
    rintro D ys W hD hS ⟨⟨v, hv, hrow⟩, hbW, hsW⟩ hK
    subst hA0
    subst hS
    have hc := hv.cell
    go_wp2
    refine ⟨by simp, .inl ⟨_, _, rfl, run_takeDeferred hK, ?_⟩⟩
    rw [barsOf_legs] at hrow
    exact ⟨_, results_tmp2 rfl _ _ _, v, rfl, ownsRow_putObj hrow _ hK rfl, hbW.trans (belowK_b (w := W9) (n₀ := w.heap.size) bw9.size W D _ _ hD hK rfl rfl)⟩
set_option maxHeartbeats 4000000 in
set_option maxRecDepth 100000 in
theorem tpMeshesG (x y : Int) (s : ByteArray) (c : Nat) (o : Bool) (w : World) (h : EdgeG x y s c o) :
    Calls Tryz.prog 19 #[.agg #[.int .i64 x, .int .i64 y], .string s, .int .i64 c, .bool o] w (MidPost (midsP (sg o) ⟨x, y⟩ (Lib.repeatL s.data.toList c)) w) := by
  have HE := Lib.hid h
  have HL := Lib.hid (h.legs)
  have HLEN := Lib.hid (show (legsL (sg o) ⟨x, y⟩ (Lib.repeatL s.data.toList c)).length ≤ 256 by rw [legsL_length, rep_len]; exact h.2.2.1)
  obtain ⟨hs, h1, h2, ⟨⟨x1, x2⟩, ⟨y1, y2⟩, hp⟩, -⟩ := h
  simp only at x1 x2 y1 y2 hp
  have HS := Lib.hid hs
  clear hs h1 hp
  refine (callsIn_wide (n := 6)).1 (callsIn_of_wp_marks Tryz.func19 rfl trivial (wpIn_wide.2 ?_) rfl)
  simp only [Tryz.ntmps19, List.size_toArray, List.length_cons, List.length_nil, Nat.reduceAdd, Nat.reduceSub, Array.replicate_succ, Array.replicate_zero, List.push_toArray, List.append_toArray, List.nil_append, List.cons_append]
  obtain ⟨w1, hw1, e0, e1, hb1, hz1⟩ := box2 w (.int .i64 x) (.int .i64 y) 43
  have HW1 := Lib.hid hw1
  clear hw1
  go_wp2_with fail
  rw [← HW1.out]
  refine (tpCheckEdgeG x y s c o _ HE.out).mono ?_
  rintro e w2 ⟨rfl, hb2⟩
  have f0 := (hb2.cell (p := ⟨w.heap.size, 0, none⟩) hz1).trans e0
  have f1 := (hb2.cell (p := ⟨w.heap.size, 1, none⟩) hz1).trans e1
  have hbw := hb1.trans (hb2.mono hb1.size)
  have hz2 := hb2.size
  have bO := Boxed.new w2 52 (.slice none 0 0)
  have hb3 : Below w2.heap.size w2 (w2.alloc (.cells #[.slice none 0 0] 52)) := (Below.refl _ _).alloc (Nat.le_refl _) _
  have g0 := (hb3.cell (p := ⟨w.heap.size, 0, none⟩) (by show w.heap.size < _; omega)).trans f0
  have g1 := (hb3.cell (p := ⟨w.heap.size, 1, none⟩) (by show w.heap.size < _; omega)).trans f1
  have HSZ := Lib.hid (show (w2.alloc (.cells #[.slice none 0 0] 52)).heap.size = w2.heap.size + 1 by simp)
  obtain ⟨w6, hw6⟩ : ∃ w6, w2.alloc (.cells #[.slice none 0 0] 52) = w6 := ⟨_, rfl⟩
  rw [hw6] at bO hb3 HSZ
  have HW6 := Lib.hid hw6
  clear hw6 f0 f1 e0 e1
  go_wp2_with fail
  rw [HW6.out]
  refine (tpLegs x y s c o _).mono ?_
  rintro e w7 ⟨rfl, hw7⟩
  obtain ⟨W9, hW9, hb9, hz9, q0, q1, q2, q3⟩ := legs_boxes w6 x y c s o
  rw [← hW9] at hw7
  have hw7' := hw7.symm
  subst hw7'
  clear hW9
  have HZ9 := Lib.hid hz9
  have hz6 := HSZ.out
  have bO9 : Boxed W9 w2.heap.size 52 (.slice none 0 0) := (hb9.block _ (by omega)).trans bO
  have bw6 := hbw.trans (hb3.mono hbw.size)
  have bw9 := bw6.trans (hb9.mono bw6.size)
  have hwz := hbw.size
  obtain ⟨ib, hib, hi0, hi1, hi2⟩ := info_parts infoP
  have HB := Lib.hid hib
  have HB0 := Lib.hid hi0
  have HB1 := Lib.hid hi1
  have HB2 := Lib.hid hi2
  clear hz9 hw7 hz6 hib hi0 hi1 hi2
  go_wp2_with fail
  have hvis := legs_visits w6.heap.size 4 w6.heap.size (w6.heap.size + 1) (w6.heap.size + 2) (w6.heap.size + 3) 66 (by omega) x y s c o W9 (by decide) HS.out h2 (by omega) (by omega) (by omega) (by omega) (by omega) (by rw [HZ9.out]; omega) q0 q1 q2 q3
  refine (wpIn_wide (n := 5)).1 ?_
  generalize hA0 : (Act.mk _ _) = A0
  refine wpIn_visits (n := 5) (by omega) (gf := 99) (lb := #[.pointer (some ⟨w6.heap.size, 0, none⟩), .pointer (some ⟨w6.heap.size + 1, 0, none⟩), .pointer (some ⟨w6.heap.size + 2, 0, none⟩), .pointer (some ⟨w6.heap.size + 3, 0, none⟩)]) (by rw [← hA0]; rfl) ?eg hvis KT.trans (KT.put (w := W9)) (fun _ => rfl)
    (fun pre W => (∃ v, Boxed W w2.heap.size 52 v ∧ W.ownsRow w.heap.size 66 2 v (midsOf (sg o) pre).length (kcellsL (midsOf (sg o) pre))) ∧ (Below w.heap.size w W ∧ W9.heap.size ≤ W.heap.size))
    (Bides.and (bides_row (fun pre => (midsOf (sg o) pre).length) (fun pre => kcellsL (midsOf (sg o) pre)) (by rw [HZ9.out, HSZ.out]; omega) (by decide)) (Bides.and (bides_below bw9.size (Nat.le_refl _)) bides_size)) ⟨⟨_, bO9, World.ownsRow_nil _ _ _ _⟩, bw9, Nat.le_refl _⟩ ?round ?done
  case eg => exact fun _ _ => by kernel_rfl
  case round =>
    rintro l pre q W hz ⟨⟨v, hv, hrow⟩, hbW, hsW⟩ ⟨r, hr⟩
    obtain ⟨hq1, hq2, hq3, hq4⟩ := HL.out q (by rw [hr]; simp)
    have HQ2 := Lib.hid hq2
    clear hq2
    have hpre : (midsOf (sg o) pre).length ≤ 256 := by
      have h1 := HLEN.out
      rw [hr] at h1
      have : ∀ l : List (UInt8 × Knot × Knot), (midsOf (sg o) l).length ≤ l.length := fun l => by
        induction l with
        | nil => simp [midsOf]
        | cons a t ih =>
          have e : midsOf (sg o) (a :: t) = (if a.1 = 66 then [] else [midK (sg o) a.2.1 a.1]) ++ midsOf (sg o) t := by simp [midsOf]
          rw [e, List.length_append, List.length_cons]
          split <;> simp <;> omega
      have := this pre
      simp at h1
      omega
    obtain ⟨⟨a1, a2⟩, ⟨b1, b2⟩, -⟩ := hq3
    obtain ⟨⟨a3, a4⟩, ⟨b3, b4⟩, -⟩ := hq4
    have HSNOC := Lib.hid (midsOf_snoc (sg o) pre q)
    subst hA0
    dsimp only [legArr]
    gi_wp2
    have hb0 : Below W.heap.size W (W.alloc (.cells #[.int .i32 (q.1.toNat : Int), .int .i64 q.2.1.x, .int .i64 q.2.1.y, .int .i64 q.2.2.x, .int .i64 q.2.2.y] 104)) := (Below.refl _ _).alloc (Nat.le_refl _) _
    refine ⟨Book.below hz hb0, KT.of_below hb0, fun Wb hg hobj hbk => ?_⟩
    have hbx : Wb.heap[W.heap.size]? = some (.cells #[.int .i32 (q.1.toNat : Int), .int .i64 q.2.1.x, .int .i64 q.2.1.y, .int .i64 q.2.2.x, .int .i64 q.2.2.y] 104 (0, 0)) :=
      (hg.block _ (by simp) (fun e => by injection e; omega)).trans (heap_alloc_new _ _)
    obtain ⟨r0, r1, r2, r3, r4, -⟩ := five_of_block hbx
    obtain ⟨o1, ho1, ho2⟩ := hobj
    have hz9 := HZ9.out
    have hz6 := HSZ.out
    have hsb : W9.heap.size + 2 ≤ Wb.heap.size := by have := hg.size; simp at this; omega
    have hbb : Below w.heap.size w Wb := (hbW.trans (hb0.mono hbW.size)).grown hg (by have := hbW.size; simp; omega) (fun k e => by cases e; have := bw9.size; omega)
    have hI1 := bides_row (t := 52) (te := 66) (n₀ := w.heap.size) (size := 2) (fun pre => (midsOf (sg o) pre).length) (fun pre => kcellsL (midsOf (sg o) pre)) (show w2.heap.size < W9.heap.size by omega) (show 66 ≠ 43 by decide) pre _ Wb (some (W9.heap.size + 1)) ⟨v, hv.alloc _, hrow.alloc _⟩ hg (fun b e => by cases e; exact ⟨by omega, o1, ho1, .inl ho2⟩)
    obtain ⟨v, hvB, hrowB⟩ := hI1
    have hcB := hvB.cell
    have HBK := Lib.hid hbk
    have hwb : w.heap.size ≤ Wb.heap.size := by omega
    clear hv hrow hbk ho1 ho2 hbx
    by_cases h66 : q.1 = 66
    · have r0' : Wb.cell? ⟨W.heap.size, 0, none⟩ = some (.int .i32 66) := by rw [h66] at r0; exact r0
      have HSN := Lib.hid (show midsOf (sg o) (pre ++ [q]) = midsOf (sg o) pre by rw [HSNOC.out, if_pos h66, List.append_nil])
      clear r0 h66 hq1 HSNOC
      gi_wp2
      exact ⟨Book.below hsb (Below.refl _ _), KT.of_below (Below.refl _ _), ⟨_, hvB, by rw [HSN.out]; exact hrowB⟩, hbb, by omega⟩
    · have hne : ((q.1.toNat : Int) == 66) = false := by
        rw [beq_eq_false_iff_ne]
        intro e
        exact h66 (UInt8.toNat.inj (by show q.1.toNat = 66; omega))
      have hne' : ((q.1.toNat : Int) != 66) = true := by
        rw [bne_iff_ne]
        intro e
        exact h66 (UInt8.toNat.inj (by show q.1.toNat = 66; omega))
      obtain ⟨hm1, hm2⟩ := mids_half o (k := q.2.1) hq1 h66
      rw [← HQ2.out] at hm1 hm2
      have HSN := Lib.hid (show midsOf (sg o) (pre ++ [q]) = midsOf (sg o) pre ++ [midK (sg o) q.2.1 q.1] by rw [HSNOC.out, if_neg h66])
      obtain ⟨mb1, mb2, mb3, mb4⟩ := mid_near o q.2.1 q.1
      obtain ⟨m, hm⟩ : ∃ m, m = midK (sg o) q.2.1 q.1 := ⟨_, rfl⟩
      rw [← hm] at hm1 hm2 HSN mb1 mb2 mb3 mb4
      clear h66 hq1 HSNOC hm
      gi_wp2_with (gi_at_builtin; refine wpListIn_append_own _ rfl _ _ 52 rfl w.heap.size 66 ib (.agg #[.int .i64 0, .int .i64 0]) 2 16 Tryz.underlying52 HB.out HB0.out HB1.out HB2.out rfl (by decide) _ _ _ rfl (hrowB.alloc _) ⟨Wb.heap.size, 0, none⟩ 1 1 [.int .i64 m.x, .int .i64 m.y] rfl rfl (two_new _ _ _ _) (by intro u hu; simp at hu; rcases hu with rfl | rfl <;> rfl) (by unfold maxLen; omega) (by omega) (by simp; omega) ?_; intro v' w1' hown' hgrow _; obtain ⟨g', cap', rfl⟩ := ownsRow_succ hown'; obtain ⟨hv1, hv2, hr2, hk2, hb2'⟩ := hvB.appended (by decide) hrowB hwb (by omega) hown' hgrow; have hkt := KT.appended (B1 := w6.heap.size) (Bo := w2.heap.size) (by omega) (by decide) hrowB hgrow (.slice (some ⟨g', 0, none⟩) ((midsOf (sg o) pre).length + 1) cap'); have hc1 := hv1.cell; have hf1 := hv1.frozen)
      exact ⟨Book.others hk2 HBK.out.1 HBK.out.2, hkt, ⟨_, hv2, by rw [HSN.out, kcellsL_snoc]; simpa using hr2⟩, hbb.trans hb2', by have := hb2'.size; omega⟩
  case done =>
    rintro D ys W hD hS ⟨⟨v, hv, hrow⟩, hbW, hsW⟩ hK
    subst hA0
    subst hS
    have hc := hv.cell
    go_wp2
    refine ⟨by simp, .inl ⟨_, _, rfl, run_takeDeferred hK, ?_⟩⟩
    rw [midsOf_legs] at hrow
    exact ⟨_, results_tmp2 rfl _ _ _, v, rfl, ownsRow_putObj hrow _ hK rfl, hbW.trans (belowK_b (w := W9) (n₀ := w.heap.size) bw9.size W D _ _ hD hK rfl rfl)⟩
set_option maxHeartbeats 4000000 in
set_option maxRecDepth 100000 in
theorem tpWalkG (x y : Int) (s : ByteArray) (c : Nat) (o : Bool) (w : World) (h : EdgeG x y s c o) :
    Calls Tryz.prog 17 #[.agg #[.int .i64 x, .int .i64 y], .string s, .int .i64 c, .bool o] w (WalkPost (walkK (sg o) ⟨x, y⟩ (Lib.repeatL s.data.toList c)) w) := by
  have HE := Lib.hid h
  have HL := Lib.hid (h.legs)
  have HLEN := Lib.hid (show (legsL (sg o) ⟨x, y⟩ (Lib.repeatL s.data.toList c)).length ≤ 256 by rw [legsL_length, rep_len]; exact h.2.2.1)
  obtain ⟨hs, h1, h2, ⟨⟨x1, x2⟩, ⟨y1, y2⟩, hp⟩, -⟩ := h
  simp only at x1 x2 y1 y2 hp
  have HS := Lib.hid hs
  clear hs h1 hp
  refine (callsIn_wide (n := 6)).1 (callsIn_of_wp_marks Tryz.func17 rfl trivial (wpIn_wide.2 ?_) rfl)
  simp only [Tryz.ntmps17, List.size_toArray, List.length_cons, List.length_nil, Nat.reduceAdd, Nat.reduceSub, Array.replicate_succ, Array.replicate_zero, List.push_toArray, List.append_toArray, List.nil_append, List.cons_append]
  obtain ⟨w1, hw1, e0, e1, hb1, hz1⟩ := box2 w (.int .i64 x) (.int .i64 y) 43
  have HW1 := Lib.hid hw1
  clear hw1
  go_wp2_with fail
  rw [← HW1.out]
  refine (tpCheckEdgeG x y s c o _ HE.out).mono ?_
  rintro e w2 ⟨rfl, hb2⟩
  have f0 := (hb2.cell (p := ⟨w.heap.size, 0, none⟩) hz1).trans e0
  have f1 := (hb2.cell (p := ⟨w.heap.size, 1, none⟩) hz1).trans e1
  have hbw := hb1.trans (hb2.mono hb1.size)
  have hz2 := hb2.size
  have hwz := hbw.size
  obtain ⟨w6, hw6, hb3, hsz6, bO, hrow0⟩ : ∃ w6, (w2.alloc (.cells #[.int .i64 x, .int .i64 y] 43)).alloc (.cells #[.slice (some ⟨w2.heap.size, 0, none⟩) 1 1] 46) = w6 ∧ Below w2.heap.size w2 w6 ∧ w6.heap.size = w2.heap.size + 2 ∧ Boxed w6 (w2.heap.size + 1) 46 (.slice (some ⟨w2.heap.size, 0, none⟩) 1 1) ∧ w6.ownsRow w.heap.size 43 2 (.slice (some ⟨w2.heap.size, 0, none⟩) 1 1) 1 [.int .i64 x, .int .i64 y] := by
    refine ⟨_, rfl, ((Below.refl _ _).alloc (Nat.le_refl _) _).alloc (by simp) _, by simp, ?_, (krow_one w2 w.heap.size hwz _ _ _).alloc _⟩
    have := Boxed.new (w2.alloc (.cells #[.int .i64 x, .int .i64 y] 43)) 46 (.slice (some ⟨w2.heap.size, 0, none⟩) 1 1)
    rwa [World.size_alloc] at this
  have g0 := (hb3.cell (p := ⟨w.heap.size, 0, none⟩) (by show w.heap.size < _; omega)).trans f0
  have g1 := (hb3.cell (p := ⟨w.heap.size, 1, none⟩) (by show w.heap.size < _; omega)).trans f1
  have HSZ := Lib.hid hsz6
  have HW6 := Lib.hid hw6
  have F0 : ((w2.alloc (.cells #[.int .i64 x, .int .i64 y] 43)).alloc (.cells #[.slice (some ⟨w2.heap.size, 0, none⟩) 1 1] 46)).cell? ⟨w.heap.size, 0, none⟩ = some (.int .i64 x) := by rw [hw6]; exact g0
  have F1 : ((w2.alloc (.cells #[.int .i64 x, .int .i64 y] 43)).alloc (.cells #[.slice (some ⟨w2.heap.size, 0, none⟩) 1 1] 46)).cell? ⟨w.heap.size, 1, none⟩ = some (.int .i64 y) := by rw [hw6]; exact g1
  clear hw6 e0 e1 hsz6
  go_wp2_with fail
  rw [HW6.out]
  clear f0 f1 F0 F1
  refine (tpLegs x y s c o _).mono ?_
  rintro e w7 ⟨rfl, hw7⟩
  obtain ⟨W9, hW9, hb9, hz9, q0, q1, q2, q3⟩ := legs_boxes w6 x y c s o
  rw [← hW9] at hw7
  have hw7' := hw7.symm
  subst hw7'
  clear hW9
  have HZ9 := Lib.hid hz9
  have hz6 := HSZ.out
  have bO9 : Boxed W9 (w2.heap.size + 1) 46 (.slice (some ⟨w2.heap.size, 0, none⟩) 1 1) := (hb9.block _ (by omega)).trans bO
  have hrow9 : KRow W9 w6.heap.size w.heap.size (.slice (some ⟨w2.heap.size, 0, none⟩) 1 1) 1 [.int .i64 x, .int .i64 y] :=
    ⟨hrow0.kept (row := none) ⟨hb9.os, hb9.tape, hb9.output, hb9.size, fun i hi _ => hb9.block i hi⟩ (.inr (by simp [Value.ownBlock])), fun _ g hg => by simp [Value.ownBlock] at hg; omega⟩
  have bw6 := hbw.trans (hb3.mono hbw.size)
  have bw9 := bw6.trans (hb9.mono bw6.size)
  obtain ⟨ib, hib, hi0, hi1, hi2⟩ := info_parts Tryz.info43
  have HB := Lib.hid hib
  have HB0 := Lib.hid hi0
  have HB1 := Lib.hid hi1
  have HB2 := Lib.hid hi2
  clear hz9 hw7 hz6 hib hi0 hi1 hi2 hrow0
  go_wp2_with fail
  have hvis := legs_visits w6.heap.size 4 w6.heap.size (w6.heap.size + 1) (w6.heap.size + 2) (w6.heap.size + 3) 43 (by omega) x y s c o W9 (by decide) HS.out h2 (by omega) (by omega) (by omega) (by omega) (by omega) (by rw [HZ9.out]; omega) q0 q1 q2 q3
  refine (wpIn_wide (n := 5)).1 ?_
  generalize hA0 : (Act.mk _ _) = A0
  refine wpIn_visits (n := 5) (by omega) (gf := 99) (lb := #[.pointer (some ⟨w6.heap.size, 0, none⟩), .pointer (some ⟨w6.heap.size + 1, 0, none⟩), .pointer (some ⟨w6.heap.size + 2, 0, none⟩), .pointer (some ⟨w6.heap.size + 3, 0, none⟩)]) (by rw [← hA0]; rfl) ?eg hvis KT.trans (KT.put (w := W9)) (fun _ => rfl)
    (fun pre W => (∃ v, Boxed W (w2.heap.size + 1) 46 v ∧ KRow W w6.heap.size w.heap.size v (walkOf ⟨x, y⟩ pre).length (kcellsL (walkOf ⟨x, y⟩ pre))) ∧ (Below w.heap.size w W ∧ W9.heap.size ≤ W.heap.size))
    (Bides.and (bides_krow (fun pre => (walkOf ⟨x, y⟩ pre).length) (fun pre => kcellsL (walkOf ⟨x, y⟩ pre)) (by rw [HZ9.out, HSZ.out]; omega) (by rw [HZ9.out]; omega)) (Bides.and (bides_below bw9.size (Nat.le_refl _)) bides_size)) ⟨⟨_, bO9, hrow9⟩, bw9, Nat.le_refl _⟩ ?round ?done
  case eg => exact fun _ _ => by kernel_rfl
  case round =>
    rintro l pre q W hz ⟨⟨v, hv, hrow⟩, hbW, hsW⟩ ⟨r, hr⟩
    obtain ⟨-, -, -, hq4⟩ := HL.out q (by rw [hr]; simp)
    have hpre : (walkOf ⟨x, y⟩ pre).length ≤ 257 := by
      have h1 := HLEN.out
      rw [hr] at h1
      rw [walkOf_length]
      simp at h1
      omega
    obtain ⟨⟨a3, a4⟩, ⟨b3, b4⟩, -⟩ := hq4
    have HSN := Lib.hid (walkOf_snoc ⟨x, y⟩ pre q)
    have HWL := Lib.hid (walkOf_length ⟨x, y⟩ pre)
    have HWL2 := Lib.hid (walkOf_length ⟨x, y⟩ (pre ++ [q]))
    subst hA0
    dsimp only [legArr]
    gi_wp2
    have hb0 : Below W.heap.size W (W.alloc (.cells #[.int .i32 (q.1.toNat : Int), .int .i64 q.2.1.x, .int .i64 q.2.1.y, .int .i64 q.2.2.x, .int .i64 q.2.2.y] 104)) := (Below.refl _ _).alloc (Nat.le_refl _) _
    refine ⟨Book.below hz hb0, KT.of_below hb0, fun Wb hg hobj hbk => ?_⟩
    have hbx : Wb.heap[W.heap.size]? = some (.cells #[.int .i32 (q.1.toNat : Int), .int .i64 q.2.1.x, .int .i64 q.2.1.y, .int .i64 q.2.2.x, .int .i64 q.2.2.y] 104 (0, 0)) :=
      (hg.block _ (by simp) (fun e => by injection e; omega)).trans (heap_alloc_new _ _)
    obtain ⟨r0, r1, r2, r3, r4, -⟩ := five_of_block hbx
    obtain ⟨o1, ho1, ho2⟩ := hobj
    have hz9 := HZ9.out
    have hz6 := HSZ.out
    have hsb : W9.heap.size + 2 ≤ Wb.heap.size := by have := hg.size; simp at this; omega
    have hbb : Below w.heap.size w Wb := (hbW.trans (hb0.mono hbW.size)).grown hg (by have := hbW.size; simp; omega) (fun k e => by cases e; have := bw9.size; omega)
    have hI1 := bides_krow (t := 46) (e := 43) (n₀ := w.heap.size) (B1 := w6.heap.size) (fun pre => (walkOf ⟨x, y⟩ pre).length) (fun pre => kcellsL (walkOf ⟨x, y⟩ pre)) (show w2.heap.size + 1 < W9.heap.size by omega) (show w6.heap.size ≤ W9.heap.size by omega) pre _ Wb (some (W9.heap.size + 1)) ⟨v, hv.alloc _, hrow.alloc _⟩ hg (fun b e => by cases e; exact ⟨by omega, o1, ho1, .inl ho2⟩)
    obtain ⟨v, hvB, hrowB⟩ := hI1
    have hcB := hvB.cell
    have HBK := Lib.hid hbk
    have hwb : w.heap.size ≤ Wb.heap.size := by omega
    have HRB := Lib.hid hrowB
    have hrowP := hrowB.1
    clear hv hrow hrowB hbk ho1 ho2 hbx
    generalize hm : q.2.2 = m at *
    generalize walkOf ⟨x, y⟩ pre = wl at *
    gi_wp2_with (gi_at_builtin; refine wpListIn_append_own _ rfl _ _ 46 rfl w.heap.size 43 ib (.agg #[.int .i64 0, .int .i64 0]) 2 16 Tryz.underlying46 HB.out HB0.out HB1.out HB2.out rfl (by decide) _ _ _ rfl (hrowP.alloc _) ⟨Wb.heap.size, 0, none⟩ 1 1 [.int .i64 m.x, .int .i64 m.y] rfl rfl (two_new _ _ _ _) (by intro u hu; simp at hu; rcases hu with rfl | rfl <;> rfl) (by unfold maxLen; omega) (by omega) (by simp; omega) ?_; intro v' w1' hown' hgrow _; obtain ⟨g', cap', rfl⟩ := ownsRow_succ hown'; obtain ⟨hv1, hv2, hr2, hk2, hb2'⟩ := hvB.appended (by decide) hrowP hwb (by omega) hown' hgrow; have hkt := KT.appendedK (B1 := w6.heap.size) (Bo := w2.heap.size + 1) (by omega) HRB.out hgrow (.slice (some ⟨g', 0, none⟩) (wl.length + 1) cap'); have hc1 := hv1.cell; have hf1 := hv1.frozen)
    exact ⟨Book.others hk2 HBK.out.1 HBK.out.2, hkt, ⟨_, hv2, by rw [HSN.out, kcellsL_snoc]; simpa using hr2, fun h => by rw [HWL2.out] at h; simp at h⟩, hbb.trans hb2', by have := hb2'.size; omega⟩
  case done =>
    rintro D ys W hD hS ⟨⟨v, hv, hrow, -⟩, hbW, hsW⟩ hK
    subst hA0
    subst hS
    have hc := hv.cell
    go_wp2
    refine ⟨by simp, .inl ⟨_, _, rfl, run_takeDeferred hK, ?_⟩⟩
    exact ⟨_, results_tmp2 rfl _ _ _, v, rfl, ownsRow_putObj hrow _ hK rfl, hbW.trans (belowK_b (w := W9) (n₀ := w.heap.size) bw9.size W D _ _ hD hK rfl rfl)⟩
end Go.Proofs.YtfmfpnnglogkmaaGreatDoor
