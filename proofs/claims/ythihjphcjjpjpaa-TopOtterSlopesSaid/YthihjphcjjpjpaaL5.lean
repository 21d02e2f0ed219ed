/- TopOtterSlopes returns true for every three bytes. Conditions: none. -/
import Derived.Test.YthihjphcjjpjpaaL4
import Derived.Laws.AppendOwnNone
import Derived.ProofKit
import Derived.Deep.Slices
import Derived.Deep.Fields
/- The meshes along an edge: Meshes of taper. -/
namespace Go.Proofs.Ythihjphcjjpjpaa
open Go.RowKit Go.Shelf Ck
attribute [local go_sem] Oper.semAt_some

/-- The centre of the mesh that a letter other than B goes through. -/
def midK (σ : Int) (k : Knot) (c : UInt8) : Knot := if c = 84 then ⟨k.x + σ, k.y⟩ else ⟨k.x, k.y + 1⟩
def midsOf (σ : Int) (l : List (UInt8 × Knot × Knot)) : List Knot := l.flatMap fun q => if q.1 = 66 then [] else [midK σ q.2.1 q.1]
theorem midsOf_snoc (σ : Int) (l : List (UInt8 × Knot × Knot)) (q : UInt8 × Knot × Knot) : midsOf σ (l ++ [q]) = midsOf σ l ++ (if q.1 = 66 then [] else [midK σ q.2.1 q.1]) := by simp [midsOf]
def midsP (σ : Int) : Knot → List UInt8 → List Knot
  | _, [] => []
  | k, c :: r => if c = 66 then midsP σ (stepK σ k c) r else midK σ k c :: midsP σ (stepK σ k c) r
theorem midsOf_legs (σ : Int) : ∀ (L : List UInt8) (k : Knot), midsOf σ (legsL σ k L) = midsP σ k L
  | [], _ => rfl
  | c :: r, k => by
    have ih := midsOf_legs σ r (stepK σ k c)
    have e : midsOf σ (legsL σ k (c :: r)) = (if c = 66 then [] else [midK σ k c]) ++ midsOf σ (legsL σ (stepK σ k c) r) := by simp [midsOf, legsL]
    rw [e, ih, midsP]
    by_cases h : c = 66 <;> simp [h]
theorem mids_half (o : Bool) {k : Knot} {c : UInt8} (hc : isL c) (h : c ≠ 66) : (k.x + (stepK (sg o) k c).x).tdiv 2 = (midK (sg o) k c).x ∧ (k.y + (stepK (sg o) k c).y).tdiv 2 = (midK (sg o) k c).y := by
  have hd : ∀ z : Int, (z + z).tdiv 2 = z := fun z => by rw [← Int.two_mul, Int.mul_comm, Int.mul_tdiv_cancel _ (by decide)]
  rcases hc with rfl | rfl | rfl
  · refine ⟨?_, ?_⟩
    · have : (stepK (sg o) k 78).x = k.x := by simp [stepK, dxL]
      rw [this, hd]; rfl
    · have : k.y + (stepK (sg o) k 78).y = (k.y + 1) + (k.y + 1) := by simp [stepK, dyL]; omega
      rw [this, hd]; rfl
  · exact absurd rfl h
  · refine ⟨?_, ?_⟩
    · have : k.x + (stepK (sg o) k 84).x = (k.x + sg o) + (k.x + sg o) := by simp [stepK, dxL]; omega
      rw [this, hd]; rfl
    · have : (stepK (sg o) k 84).y = k.y := by simp [stepK, dyL]
      rw [this, hd]; rfl
theorem mid_near (o : Bool) (k : Knot) (c : UInt8) : k.x - 1 ≤ (midK (sg o) k c).x ∧ (midK (sg o) k c).x ≤ k.x + 1 ∧ k.y - 1 ≤ (midK (sg o) k c).y ∧ (midK (sg o) k c).y ≤ k.y + 1 := by
  unfold midK sg
  cases o <;> split <;> simp <;> omega
theorem infoP : (Try.prog.info? 28).map (fun i => (i.zero, i.size, i.bytes)) = some (some (.agg #[.int .i64 0, .int .i64 0]), 2, 16) := by kernel_rfl
def MidPost (l : List Knot) (w : World) (e : Ending) (w' : World) : Prop :=
  ∃ v, e = .returned (.tuple #[v, .int .i64 0]) ∧ w'.ownsRow w.heap.size 28 2 v l.length (kcellsL l) ∧ Below w.heap.size w w'

set_option maxHeartbeats 4000000 in
set_option maxRecDepth 100000 in
theorem tpMeshes (x y : Int) (s : ByteArray) (c : Nat) (o : Bool) (w : World) (h : EdgeOk x y s c) :
    Calls Try.prog 11 #[.agg #[.int .i64 x, .int .i64 y], .string s, .int .i64 c, .bool o] w (MidPost (midsP (sg o) ⟨x, y⟩ (Lib.repeatL s.data.toList c)) w) := by
  have HE := Lib.hid h
  have HL := Lib.hid (h.legs o)
  have HLEN := Lib.hid (show (legsL (sg o) ⟨x, y⟩ (Lib.repeatL s.data.toList c)).length ≤ 256 by rw [legsL_length, rep_len]; exact h.2.2.1)
  obtain ⟨hs, h1, h2, x1, x2, y1, y2, hp⟩ := h
  have HS := Lib.hid hs
  clear hs h1 hp
  refine (callsIn_wide (n := 6)).1 (callsIn_of_wp_marks Try.func11 rfl trivial (wpIn_wide.2 ?_) rfl)
  simp only [Try.ntmps11, List.size_toArray, List.length_cons, List.length_nil, Nat.reduceAdd, Nat.reduceSub, Array.replicate_succ, Array.replicate_zero, List.push_toArray, List.append_toArray, List.nil_append, List.cons_append]
  obtain ⟨w1, hw1, e0, e1, hb1, hz1⟩ := box2 w (.int .i64 x) (.int .i64 y) 23
  have HW1 := Lib.hid hw1
  clear hw1
  go_wp2_with fail
  rw [← HW1.out]
  refine (tpCheckEdge x y s c o _ HE.out).mono ?_
  rintro e w2 ⟨rfl, hb2⟩
  have f0 := (hb2.cell (p := ⟨w.heap.size, 0, none⟩) hz1).trans e0
  have f1 := (hb2.cell (p := ⟨w.heap.size, 1, none⟩) hz1).trans e1
  have hbw := hb1.trans (hb2.mono hb1.size)
  have hz2 := hb2.size
  have bO := Boxed.new w2 36 (.slice none 0 0)
  have hb3 : Below w2.heap.size w2 (w2.alloc (.cells #[.slice none 0 0] 36)) := (Below.refl _ _).alloc (Nat.le_refl _) _
  have g0 := (hb3.cell (p := ⟨w.heap.size, 0, none⟩) (by show w.heap.size < _; omega)).trans f0
  have g1 := (hb3.cell (p := ⟨w.heap.size, 1, none⟩) (by show w.heap.size < _; omega)).trans f1
  have HSZ := Lib.hid (show (w2.alloc (.cells #[.slice none 0 0] 36)).heap.size = w2.heap.size + 1 by simp)
  obtain ⟨w6, hw6⟩ : ∃ w6, w2.alloc (.cells #[.slice none 0 0] 36) = w6 := ⟨_, rfl⟩
  rw [hw6] at bO hb3 HSZ
  have HW6 := Lib.hid hw6
  clear hw6 f0 f1 e0 e1
  go_wp2_with fail
  rw [HW6.out]
  refine (tpLegs x y s c o _).mono ?_
  rintro e w7 ⟨rfl, hw7⟩
  obtain ⟨W9, hW9, hb9, hz9, q0, q1, q2, q3⟩ := legs_boxes w6 x y c s o
  rw [← hW9] at hw7
  have hw7' := hw7.symm
  subst hw7'
  clear hW9
  have HZ9 := Lib.hid hz9
  have hz6 := HSZ.out
  have bO9 : Boxed W9 w2.heap.size 36 (.slice none 0 0) := (hb9.block _ (by omega)).trans bO
  have bw6 := hbw.trans (hb3.mono hbw.size)
  have bw9 := bw6.trans (hb9.mono bw6.size)
  have hwz := hbw.size
  obtain ⟨ib, hib, hi0, hi1, hi2⟩ := info_parts infoP
  have HB := Lib.hid hib
  have HB0 := Lib.hid hi0
  have HB1 := Lib.hid hi1
  have HB2 := Lib.hid hi2
  clear hz9 hw7 hz6 hib hi0 hi1 hi2
  go_wp2_with fail
  have hvis := legs_visits w6.heap.size 4 w6.heap.size (w6.heap.size + 1) (w6.heap.size + 2) (w6.heap.size + 3) 28 (by omega) x y s c o W9 (by decide) HS.out h2 (by omega) (by omega) (by omega) (by omega) (by omega) (by rw [HZ9.out]; omega) q0 q1 q2 q3
  refine (wpIn_wide (n := 5)).1 ?_
  generalize hA0 : (Act.mk _ _) = A0
  refine wpIn_visits (n := 5) (by omega) (gf := 62) (lb := #[.pointer (some ⟨w6.heap.size, 0, none⟩), .pointer (some ⟨w6.heap.size + 1, 0, none⟩), .pointer (some ⟨w6.heap.size + 2, 0, none⟩), .pointer (some ⟨w6.heap.size + 3, 0, none⟩)]) (by rw [← hA0]; rfl) ?eg hvis KT.trans (KT.put (w := W9)) (fun _ => rfl)
    (fun pre W => (∃ v, Boxed W w2.heap.size 36 v ∧ W.ownsRow w.heap.size 28 2 v (midsOf (sg o) pre).length (kcellsL (midsOf (sg o) pre))) ∧ (Below w.heap.size w W ∧ W9.heap.size ≤ W.heap.size))
    (Bides.and (bides_row (fun pre => (midsOf (sg o) pre).length) (fun pre => kcellsL (midsOf (sg o) pre)) (by rw [HZ9.out, HSZ.out]; omega) (by decide)) (Bides.and (bides_below bw9.size (Nat.le_refl _)) bides_size)) ⟨⟨_, bO9, World.ownsRow_nil _ _ _ _⟩, bw9, Nat.le_refl _⟩ ?round ?done
  case eg => exact fun _ _ => by kernel_rfl
  case round =>
    rintro l pre q W hz ⟨⟨v, hv, hrow⟩, hbW, hsW⟩ ⟨r, hr⟩
    obtain ⟨hq1, hq2, hq3, hq4⟩ := HL.out q (by rw [hr]; simp)
    have HQ2 := Lib.hid hq2
    clear hq2
    have hpre : (midsOf (sg o) pre).length ≤ 256 := by
      have h1 := HLEN.out
      rw [hr] at h1
      have : ∀ l : List (UInt8 × Knot × Knot), (midsOf (sg o) l).length ≤ l.length := fun l => by
        induction l with
        | nil => simp [midsOf]
        | cons a t ih =>
          have e : midsOf (sg o) (a :: t) = (if a.1 = 66 then [] else [midK (sg o) a.2.1 a.1]) ++ midsOf (sg o) t := by simp [midsOf]
          rw [e, List.length_append, List.length_cons]
          split <;> simp <;> omega
      have := this pre
      simp at h1
      omega
    obtain ⟨⟨a1, a2⟩, ⟨b1, b2⟩, -⟩ := hq3
    obtain ⟨⟨a3, a4⟩, ⟨b3, b4⟩, -⟩ := hq4
    have HSNOC := Lib.hid (midsOf_snoc (sg o) pre q)
    subst hA0
    dsimp only [legArr]
    gi_wp2
    have hb0 : Below W.heap.size W (W.alloc (.cells #[.int .i32 (q.1.toNat : Int), .int .i64 q.2.1.x, .int .i64 q.2.1.y, .int .i64 q.2.2.x, .int .i64 q.2.2.y] 82)) := (Below.refl _ _).alloc (Nat.le_refl _) _
    refine ⟨Book.below hz hb0, KT.of_below hb0, fun Wb hg hobj hbk => ?_⟩
    have hbx : Wb.heap[W.heap.size]? = some (.cells #[.int .i32 (q.1.toNat : Int), .int .i64 q.2.1.x, .int .i64 q.2.1.y, .int .i64 q.2.2.x, .int .i64 q.2.2.y] 82 (0, 0)) :=
      (hg.block _ (by simp) (fun e => by injection e; omega)).trans (heap_alloc_new _ _)
    obtain ⟨r0, r1, r2, r3, r4, -⟩ := five_of_block hbx
    obtain ⟨o1, ho1, ho2⟩ := hobj
    have hz9 := HZ9.out
    have hz6 := HSZ.out
    have hsb : W9.heap.size + 2 ≤ Wb.heap.size := by have := hg.size; simp at this; omega
    have hbb : Below w.heap.size w Wb := (hbW.trans (hb0.mono hbW.size)).grown hg (by have := hbW.size; simp; omega) (fun k e => by cases e; have := bw9.size; omega)
    have hI1 := bides_row (t := 36) (te := 28) (n₀ := w.heap.size) (size := 2) (fun pre => (midsOf (sg o) pre).length) (fun pre => kcellsL (midsOf (sg o) pre)) (show w2.heap.size < W9.heap.size by omega) (show 28 ≠ 23 by decide) pre _ Wb (some (W9.heap.size + 1)) ⟨v, hv.alloc _, hrow.alloc _⟩ hg (fun b e => by cases e; exact ⟨by omega, o1, ho1, .inl ho2⟩)
    obtain ⟨v, hvB, hrowB⟩ := hI1
    have hcB := hvB.cell
    have HBK := Lib.hid hbk
    have hwb : w.heap.size ≤ Wb.heap.size := by omega
    clear hv hrow hbk ho1 ho2 hbx
    by_cases h66 : q.1 = 66
    · have r0' : Wb.cell? ⟨W.heap.size, 0, none⟩ = some (.int .i32 66) := by rw [h66] at r0; exact r0
      have HSN := Lib.hid (show midsOf (sg o) (pre ++ [q]) = midsOf (sg o) pre by rw [HSNOC.out, if_pos h66, List.append_nil])
      clear r0 h66 hq1 HSNOC
      gi_wp2
      exact ⟨Book.below hsb (Below.refl _ _), KT.of_below (Below.refl _ _), ⟨_, hvB, by rw [HSN.out]; exact hrowB⟩, hbb, by omega⟩
    · have hne : ((q.1.toNat : Int) == 66) = false := by
        rw [beq_eq_false_iff_ne]
        intro e
        exact h66 (UInt8.toNat.inj (by show q.1.toNat = 66; omega))
      have hne' : ((q.1.toNat : Int) != 66) = true := by
        rw [bne_iff_ne]
        intro e
        exact h66 (UInt8.toNat.inj (by show q.1.toNat = 66; omega))
      obtain ⟨hm1, hm2⟩ := mids_half o (k := q.2.1) hq1 h66
      rw [← HQ2.out] at hm1 hm2
      have HSN := Lib.hid (show midsOf (sg o) (pre ++ [q]) = midsOf (sg o) pre ++ [midK (sg o) q.2.1 q.1] by rw [HSNOC.out, if_neg h66])
      obtain ⟨mb1, mb2, mb3, mb4⟩ := mid_near o q.2.1 q.1
      obtain ⟨m, hm⟩ : ∃ m, m = midK (sg o) q.2.1 q.1 := ⟨_, rfl⟩
      rw [← hm] at hm1 hm2 HSN mb1 mb2 mb3 mb4
      clear h66 hq1 HSNOC hm
      gi_wp2_with (gi_at_builtin; refine wpListIn_append_own _ rfl _ _ 36 rfl w.heap.size 28 ib (.agg #[.int .i64 0, .int .i64 0]) 2 16 Try.underlying36 HB.out HB0.out HB1.out HB2.out rfl (by decide) _ _ _ rfl (hrowB.alloc _) ⟨Wb.heap.size, 0, none⟩ 1 1 [.int .i64 m.x, .int .i64 m.y] rfl rfl (two_new _ _ _ _) (by intro u hu; simp at hu; rcases hu with rfl | rfl <;> rfl) (by unfold maxLen; omega) (by omega) (by simp; omega) ?_; intro v' w1' hown' hgrow _; obtain ⟨g', cap', rfl⟩ := ownsRow_succ hown'; obtain ⟨hv1, hv2, hr2, hk2, hb2'⟩ := hvB.appended (by decide) hrowB hwb (by omega) hown' hgrow; have hkt := KT.appended (B1 := w6.heap.size) (Bo := w2.heap.size) (by omega) (by decide) hrowB hgrow (.slice (some ⟨g', 0, none⟩) ((midsOf (sg o) pre).length + 1) cap'); have hc1 := hv1.cell; have hf1 := hv1.frozen)
      exact ⟨Book.others hk2 HBK.out.1 HBK.out.2, hkt, ⟨_, hv2, by rw [HSN.out, kcellsL_snoc]; simpa using hr2⟩, hbb.trans hb2', by have := hb2'.size; omega⟩
  case done =>
    rintro D ys W hD hS ⟨⟨v, hv, hrow⟩, hbW, hsW⟩ hK
    subst hA0
    subst hS
    have hc := hv.cell
    go_wp2
    refine ⟨by simp, .inl ⟨_, _, rfl, run_takeDeferred hK, ?_⟩⟩
    rw [midsOf_legs] at hrow
    exact ⟨_, results_tmp2 rfl _ _ _, v, rfl, ownsRow_putObj hrow _ hK rfl, hbW.trans (belowK_b (w := W9) (n₀ := w.heap.size) bw9.size W D _ _ hD hK rfl rfl)⟩
end Go.Proofs.Ythihjphcjjpjpaa

/- Plain mathematics of the union: its members, its order, its length. -/
namespace Go.Proofs.Ythihjphcjjpjpaa
open Ck

theorem cmpB_lt_iff (a b : Bar) : cmpB a b < 0 ↔ Blt a b := by
  rw [← lessB_iff, ← cmpB_neg, decide_eq_true_eq]
theorem mergeU_mem (x : Bar) : ∀ (l l' : List Bar), x ∈ mergeU l l' ↔ x ∈ l ∨ x ∈ l'
  | [], l' => by simp [mergeU]
  | a :: r, [] => by simp [mergeU]
  | a :: r, b :: r' => by
    rw [mergeU]
    split
    · rw [List.mem_cons, mergeU_mem x r (b :: r'), List.mem_cons, List.mem_cons, or_assoc]
    · split
      · rw [List.mem_cons, mergeU_mem x (a :: r) r', List.mem_cons, List.mem_cons]
        constructor
        · rintro (h | h | h)
          · exact .inr (.inl h)
          · exact .inl h
          · exact .inr (.inr h)
        · rintro (h | h | h)
          · exact .inr (.inl h)
          · exact .inl h
          · exact .inr (.inr h)
      · have e : a = b := (cmpB_zero a b).1 (by omega)
        subst e
        rw [List.mem_cons, mergeU_mem x r r', List.mem_cons, List.mem_cons]
        constructor
        · rintro (h | h | h)
          · exact .inl (.inl h)
          · exact .inl (.inr h)
          · exact .inr (.inr h)
        · rintro ((h | h) | (h | h))
          · exact .inl h
          · exact .inr (.inl h)
          · exact .inl h
          · exact .inr (.inr h)
termination_by l l' => l.length + l'.length
theorem mergeU_sorted : ∀ (l l' : List Bar), l.Pairwise Blt → l'.Pairwise Blt → (mergeU l l').Pairwise Blt
  | [], l', _, h' => by simpa [mergeU] using h'
  | a :: r, [], h, _ => by simpa [mergeU] using h
  | a :: r, b :: r', h, h' => by
    obtain ⟨h1, h2⟩ := List.pairwise_cons.1 h
    obtain ⟨k1, k2⟩ := List.pairwise_cons.1 h'
    rw [mergeU]
    split
    · rename_i hc
      have hab := (cmpB_lt_iff a b).1 hc
      refine List.pairwise_cons.2 ⟨fun x hx => ?_, mergeU_sorted r (b :: r') h2 h'⟩
      rcases (mergeU_mem x r (b :: r')).1 hx with hx | hx
      · exact h1 x hx
      · rcases List.mem_cons.1 hx with rfl | hx
        · exact hab
        · exact hab.trans (k1 x hx)
    · rename_i hc
      split
      · rename_i hd
        have hba : Blt b a := by
          rcases Blt.tri a b with h | h | h
          · exact absurd ((cmpB_lt_iff a b).2 h) hc
          · rw [(cmpB_zero a b).2 h] at hd; omega
          · exact h
        refine List.pairwise_cons.2 ⟨fun x hx => ?_, mergeU_sorted (a :: r) r' h k2⟩
        rcases (mergeU_mem x (a :: r) r').1 hx with hx | hx
        · rcases List.mem_cons.1 hx with rfl | hx
          · exact hba
          · exact hba.trans (h1 x hx)
        · exact k1 x hx
      · have e : a = b := (cmpB_zero a b).1 (by omega)
        subst e
        refine List.pairwise_cons.2 ⟨fun x hx => ?_, mergeU_sorted r r' h2 k2⟩
        rcases (mergeU_mem x r r').1 hx with hx | hx
        · exact h1 x hx
        · exact k1 x hx
termination_by l l' => l.length + l'.length
theorem mergeU_length : ∀ (l l' : List Bar), (mergeU l l').length ≤ l.length + l'.length
  | [], l' => by simp [mergeU]
  | a :: r, [] => by simp [mergeU]
  | a :: r, b :: r' => by
    rw [mergeU]
    split
    · have := mergeU_length r (b :: r'); simp only [List.length_cons] at this ⊢; omega
    · split
      · have := mergeU_length (a :: r) r'; simp only [List.length_cons] at this ⊢; omega
      · have := mergeU_length r r'; simp only [List.length_cons] at this ⊢; omega
termination_by l l' => l.length + l'.length
theorem mergeU_net {l l' : List Bar} (h : Net l) (h' : Net l') : Net (mergeU l l') :=
  ⟨fun b hb => ((mergeU_mem b l l').1 hb).elim (h.1 b) (h'.1 b), mergeU_sorted l l' h.2 h'.2⟩
/-- All bars of the first list come before all of the second one. -/
theorem mergeU_append : ∀ (l l' : List Bar), (∀ a ∈ l, ∀ b ∈ l', Blt a b) → mergeU l l' = l ++ l'
  | [], l', _ => by simp [mergeU]
  | a :: r, [], _ => by simp [mergeU]
  | a :: r, b :: r', h => by
    rw [mergeU, if_pos ((cmpB_lt_iff a b).2 (h a (by simp) b (by simp))), mergeU_append r (b :: r') (fun x hx => h x (by simp [hx]))]
    rfl
end Go.Proofs.Ythihjphcjjpjpaa

/- The contract of merge where what the second list lacks is kept. -/
namespace Go.Proofs.Ythihjphcjjpjpaa
open Go.RowKit

def mergeM : List Ck.Bar → List Ck.Bar → List Ck.Bar
  | [], _ => []
  | a :: r, [] => a :: r
  | a :: r, b :: r' => if cmpB a b < 0 then a :: mergeM r (b :: r') else if 0 < cmpB a b then mergeM (a :: r) r' else mergeM r r'
termination_by l l' => l.length + l'.length
theorem mergeM_nil (l : List Ck.Bar) : mergeM l [] = l := by cases l <;> simp [mergeM]
theorem headsM_neg {ra rb : List Ck.Bar} (h : headsE ra rb < 0) : ∃ a r, ra = a :: r ∧ mergeM ra rb = a :: mergeM r rb := by
  match ra, rb, h with
  | [], _, h => simp [headsE] at h
  | a :: r, [], _ => exact ⟨a, r, rfl, by rw [mergeM_nil, mergeM_nil]⟩
  | a :: r, b :: r', h =>
    have h' : cmpB a b < 0 := h
    exact ⟨a, r, rfl, by rw [mergeM, if_pos h']⟩
theorem headsM_pos {ra rb : List Ck.Bar} (h : 0 < headsE ra rb) (hne : 0 < ra.length + rb.length) : ∃ b r', rb = b :: r' ∧ mergeM ra rb = mergeM ra r' := by
  match ra, rb, h with
  | [], [], _ => simp at hne
  | [], b :: r', _ => exact ⟨b, r', rfl, by simp [mergeM]⟩
  | a :: r, [], h => simp [headsE] at h
  | a :: r, b :: r', h =>
    have h' : 0 < cmpB a b := h
    exact ⟨b, r', rfl, by rw [mergeM, if_neg (by omega), if_pos h']⟩
theorem headsM_zero {ra rb : List Ck.Bar} (h : headsE ra rb = 0) : ∃ a r r', ra = a :: r ∧ rb = a :: r' ∧ mergeM ra rb = mergeM r r' := by
  match ra, rb, h with
  | [], _, h => simp [headsE] at h
  | a :: r, [], h => simp [headsE] at h
  | a :: r, b :: r', h =>
    have h' : cmpB a b = 0 := h
    have e := (cmpB_zero _ _).1 h'
    subst e
    exact ⟨a, r, r', rfl, rfl, by rw [mergeM, if_neg (by omega), if_neg (by omega)]⟩

set_option maxHeartbeats 400000 in
theorem keepMinus (x y : Bool) (w : World) : Calls Try.prog 37 #[.bool x, .bool y] w fun e w' => e = .returned (.bool (x && !y)) ∧ w = w' := by
  cases x
  all_goals
    go_enter Try.func37, Try.ntmps37
    go_wp2
    go_ret
    exact ⟨rfl, rfl⟩
theorem keepM10 (w : World) : Calls Try.prog 37 #[.bool true, .bool false] w fun e w' => e = .returned (.bool true) ∧ w = w' := keepMinus true false w
theorem keepM11 (w : World) : Calls Try.prog 37 #[.bool true, .bool true] w fun e w' => e = .returned (.bool false) ∧ w = w' := keepMinus true true w
theorem keepM01 (w : World) : Calls Try.prog 37 #[.bool false, .bool true] w fun e w' => e = .returned (.bool false) ∧ w = w' := keepMinus false true w

def MrgMPost (l l' : List Ck.Bar) (w : World) (e : Ending) (w' : World) : Prop :=
  ∃ v, e = .returned v ∧ w'.ownsRow w.heap.size 48 3 v (mergeM l l').length (bcellsL (mergeM l l')) ∧ Below w.heap.size w w'
def mrgMRel (l0 l0' : List Ck.Bar) (w : World) (g : Nat) (va vb vo : Value) (wi : World) : Prop :=
  ∃ A A' c c' ra rb out, g = ra.length + rb.length ∧ va = .slice A ra.length c ∧ vb = .slice A' rb.length c' ∧ ra.length ≤ c ∧ c ≤ 9223372036854775807 ∧ rb.length ≤ c' ∧ c' ≤ 9223372036854775807 ∧ RB wi w.heap.size A ra ∧ RB wi w.heap.size A' rb ∧
    mergeM l0 l0' = out ++ mergeM ra rb ∧ out.length + ra.length + rb.length ≤ l0.length + l0'.length ∧ wi.ownsRow w.heap.size 48 3 vo out.length (bcellsL out) ∧ Below w.heap.size w wi

set_option maxHeartbeats 4000000 in
set_option maxRecDepth 100000 in
theorem netMergeM (A A' : Option Addr) (c c' : Nat) (l l' : List Ck.Bar) (w : World) (hl : l.length ≤ 4096) (hl' : l'.length ≤ 4096) (hc : l.length ≤ c) (hcm : c ≤ maxLen) (hc' : l'.length ≤ c') (hcm' : c' ≤ maxLen) (h : RB w w.heap.size A l) (h' : RB w w.heap.size A' l') :
    Calls Try.prog 68 #[.slice A l.length c, .slice A' l'.length c', .func (.func 69) #[] #[], .func (.func 37) #[] #[]] w (MrgMPost l l' w) := by
  obtain ⟨ib, hib, hb0, hb01, hb02⟩ := info_parts Try.info48
  have HIB := Lib.hid hib
  have HB0 := Lib.hid hb0
  have HB1 := Lib.hid hb01
  have HB2 := Lib.hid hb02
  have HR := Lib.hid h
  have HR' := Lib.hid h'
  clear hib hb0 hb01 hb02 h h'
  unfold maxLen at hcm hcm'
  go_enter Try.func68, Try.ntmps68
  go_wp2_with fail
  go_loopg [0, 1, 9, 10, 11] (l.length + l'.length) (fun g va vb vo _ _ wi => mrgMRel l l' w g va vb vo wi)
  case atStart => exact ⟨A, A', c, c', l, l', [], rfl, rfl, rfl, hc, hcm, hc', hcm', HR.out, HR'.out, rfl, by simp, World.ownsRow_nil _ _ _ _, Below.refl _ _⟩
  case round =>
    obtain ⟨A1, A2, c1, c2, ra, rb, out, hg, rfl, rfl, k1, k2, k3, k4, r1, r2, hm, hlen, hown, hb⟩ := hrel
    have HG := Lib.hid hg
    have HM := Lib.hid hm
    have HO := Lib.hid hown
    have HA := Lib.hid r1
    have HB := Lib.hid r2
    have hbz := hb.size
    clear hg hm hown r1 r2
    by_cases hne : 0 < ra.length + rb.length
    · rcases Int.lt_trichotomy (headsE ra rb) 0 with ho | ho | ho
      · obtain ⟨a, r, rfl, hmu⟩ := headsM_neg ho
        have HMU := Lib.hid hmu
        have ho1 : (headsE (a :: r) rb ≤ 0) := by omega
        have ho2 : ¬ (0 ≤ headsE (a :: r) rb) := by omega
        have HRA := HA.out.head
        clear hmu
        obtain ⟨b, off, rfl, hbb, d0, d1, d2, ht⟩ := HRA
        have HT := Lib.hid ht
        clear ht
        generalize hoe : headsE (a :: r) rb = o at ho ho1 ho2
        have hd1 : decide (0 ≤ o) = false := decide_eq_false (by omega)
        have HOE := Lib.hid hoe
        clear hoe
        go_wp2_with fail
        refine (netHeads (some ⟨b, off, none⟩) A2 c1 c2 (a :: r) rb _ (by simp at hlen ⊢; omega) (by simp at hlen; omega) (HA.out.more hbz) (HB.out.more hbz)).mono ?_
        rintro e w2 ⟨rfl, hb2⟩
        rw [HOE.out]
        have hz2 := hb2.size
        have e0 := (hb2.cell (p := ⟨b, off, none⟩) (by show b < _; omega)).trans d0
        have e1 := (hb2.cell (p := ⟨b, off + 1, none⟩) (by show b < _; omega)).trans d1
        have e2 := (hb2.cell (p := ⟨b, off + 2, none⟩) (by show b < _; omega)).trans d2
        clear d0 d1 d2
        obtain ⟨w3, hw3⟩ : ∃ w3, w3 = w2.alloc (.cells #[.int .i64 0, .int .i64 0, .int .i64 0] 48) := ⟨_, rfl⟩
        have hx : w3.heap[w2.heap.size]? = some (.cells #[.int .i64 0, .int .i64 0, .int .i64 0] 48 (0, 0)) := by rw [hw3]; exact heap_alloc_new _ _
        have hb3 : Below w2.heap.size w2 w3 := by rw [hw3]; exact (Below.refl _ _).alloc (Nat.le_refl _) _
        have hz3 : w2.heap.size < w3.heap.size := by rw [hw3]; simp
        obtain ⟨W, hW, hxW, hbW, hzW⟩ := put3 hx (.int .i64 a.x) (.int .i64 a.y) (.int .i64 a.s)
        obtain ⟨f0, f1, f2, ff⟩ := three_of_block hx
        obtain ⟨g0, g1, g2, _⟩ := three_of_block hxW
        have HW3 := Lib.hid hw3
        have HWW := Lib.hid hW
        have HZW := Lib.hid hzW
        clear hzW
        replace e0 := (hb3.cell (p := ⟨b, off, none⟩) (by show b < _; omega)).trans e0
        replace e1 := (hb3.cell (p := ⟨b, off + 1, none⟩) (by show b < _; omega)).trans e1
        replace e2 := (hb3.cell (p := ⟨b, off + 2, none⟩) (by show b < _; omega)).trans e2
        have hq : Below wr.heap.size wr W := (hb2.trans (hb3.mono hz2)).trans (hbW.mono hz2)
        have HOW := Lib.hid (ownsRow_below HO.out hq)
        have hbw := hb.trans (hq.mono hbz)
        have HTW := Lib.hid ((HT.out.below (hq.mono hbz)))
        have HBW := Lib.hid ((HB.out.below (hq.mono hbz)))
        have hi1 : (0 : Int) < (r.length : Int) + 1 := by omega
        have hi2 : (1 : Int) ≤ (r.length : Int) + 1 := by omega
        have hi3 : (r.length : Int) + 1 ≤ (c1 : Int) := by simp at k1; omega
        clear hw3 hW hx hxW
        go_wp2_with fail
        rw [← HW3.out]
        go_region
        rw [← HWW.out]
        generalize hA1 : (if c1 = 1 then some (⟨b, off, none⟩ : Addr) else some ⟨b, off + 3, none⟩) = A1
        have HRA1 := Lib.hid (HTW.out.cut1 (c := c1) (by simp at k1; omega) A1 (fun hne => by rw [← hA1, if_neg hne]))
        clear hA1 e0 e1 e2
        go_wp2_with (first
          | (go_at_call 37; refine (keepM10 _).mono ?_; rintro e w' ⟨rfl, rfl⟩)
          | (at_builtin; refine wpList_append_own _ rfl _ _ 31 rfl w.heap.size 48 ib (.agg #[.int .i64 0, .int .i64 0, .int .i64 0]) 3 24 Try.underlying31 HIB.out HB0.out HB1.out HB2.out rfl (by decide) _ _ _ rfl (by exact HOW.out.alloc _) ⟨W.heap.size, 0, none⟩ 1 1 [.int .i64 a.x, .int .i64 a.y, .int .i64 a.s] rfl rfl ?c1 ?c2 ?c3 ?c4 ?c5 ?_))
        case c1 => exact three_new _ _ _ _ _
        case c2 => intro u hu; simp at hu; rcases hu with rfl | rfl | rfl <;> rfl
        case c3 => unfold maxLen; simp at hlen; omega
        case c4 => simp at hlen; omega
        case c5 => have := hbw.size; simp; omega
        intro v' w4 hown4 hgrow4 _
        have hq4 : Below w.heap.size w w4 := (below_drew (hbw.alloc hbw.size (.cells #[.int .i64 a.x, .int .i64 a.y, .int .i64 a.s] 48))).grown hgrow4 (by have := hbw.size; simp; omega) (ownsRow_base HOW.out)
        have hsame : ∀ {X : Option Addr} {q : List Ck.Bar}, RB W w.heap.size X q → RB w4 w.heap.size X q := fun hX => by
          intro hl
          obtain ⟨b', off', e', hb', hc'⟩ := hX hl
          have hk : ∀ o, w4.cell? ⟨b', o, none⟩ = W.cell? ⟨b', o, none⟩ := fun o => (hq4.cell (p := ⟨b', o, none⟩) hb').trans (hbw.cell (p := ⟨b', o, none⟩) hb').symm
          exact ⟨b', off', e', hb', fun i hi => ⟨(hk _).trans (hc' i hi).1, (hk _).trans (hc' i hi).2.1, (hk _).trans (hc' i hi).2.2⟩⟩
        have HRA4 := Lib.hid (hsame HRA1.out)
        have HRB4 := Lib.hid (hsame HBW.out)
        have HO4 := Lib.hid hown4
        clear hown4 hgrow4 hsame
        go_wp2
        go_roundg (r.length + rb.length)
        case measure => rw [HG.out]; simp only [List.length_cons]; omega
        case rel => exact ⟨A1, A2, c1 - 1, c2, r, rb, out ++ [a], rfl, rfl, rfl, by simp at k1; omega, by omega, k3, k4, HRA4.out, HRB4.out, by rw [HM.out, HMU.out]; simp, by simp at hlen ⊢; omega, by rw [bcellsL_snoc, List.length_append]; exact HO4.out, hq4⟩
      · obtain ⟨a, r, r', rfl, rfl, hmu⟩ := headsM_zero ho
        have HMU := Lib.hid hmu
        have ho1 : (headsE (a :: r) (a :: r') ≤ 0) := by omega
        have ho2 : (0 ≤ headsE (a :: r) (a :: r')) := by omega
        have HRA := HA.out.head
        have HRB := HB.out.head
        clear hmu
        obtain ⟨b, off, rfl, hbb, d0, d1, d2, ht⟩ := HRA
        have HT := Lib.hid ht
        clear ht
        obtain ⟨b', off', rfl, hbb', d0', d1', d2', ht'⟩ := HRB
        have HT' := Lib.hid ht'
        clear ht'
        generalize hoe : headsE (a :: r) (a :: r') = o at ho ho1 ho2
        have HOE := Lib.hid hoe
        clear hoe
        go_wp2_with fail
        refine (netHeads (some ⟨b, off, none⟩) (some ⟨b', off', none⟩) c1 c2 (a :: r) (a :: r') _ (by simp at hlen ⊢; omega) (by simp at hlen ⊢; omega) (HA.out.more hbz) (HB.out.more hbz)).mono ?_
        rintro e w2 ⟨rfl, hb2⟩
        rw [HOE.out]
        have hz2 := hb2.size
        have e0 := (hb2.cell (p := ⟨b, off, none⟩) (by show b < _; omega)).trans d0
        have e0' := (hb2.cell (p := ⟨b', off', none⟩) (by show b' < _; omega)).trans d0'
        have e1 := (hb2.cell (p := ⟨b, off + 1, none⟩) (by show b < _; omega)).trans d1
        have e1' := (hb2.cell (p := ⟨b', off' + 1, none⟩) (by show b' < _; omega)).trans d1'
        have e2 := (hb2.cell (p := ⟨b, off + 2, none⟩) (by show b < _; omega)).trans d2
        have e2' := (hb2.cell (p := ⟨b', off' + 2, none⟩) (by show b' < _; omega)).trans d2'
        clear d0 d1 d2 d0' d1' d2'
        obtain ⟨w3, hw3⟩ : ∃ w3, w3 = w2.alloc (.cells #[.int .i64 0, .int .i64 0, .int .i64 0] 48) := ⟨_, rfl⟩
        have hx : w3.heap[w2.heap.size]? = some (.cells #[.int .i64 0, .int .i64 0, .int .i64 0] 48 (0, 0)) := by rw [hw3]; exact heap_alloc_new _ _
        have hb3 : Below w2.heap.size w2 w3 := by rw [hw3]; exact (Below.refl _ _).alloc (Nat.le_refl _) _
        have hz3 : w2.heap.size < w3.heap.size := by rw [hw3]; simp
        obtain ⟨W, hW, hxW, hbW, hzW⟩ := put3 hx (.int .i64 a.x) (.int .i64 a.y) (.int .i64 a.s)
        obtain ⟨f0, f1, f2, ff⟩ := three_of_block hx
        obtain ⟨g0, g1, g2, gf⟩ := three_of_block hxW
        obtain ⟨V, hV, hxV, hbV, hzV⟩ := put3 hxW (.int .i64 a.x) (.int .i64 a.y) (.int .i64 a.s)
        obtain ⟨q0, q1, q2, _⟩ := three_of_block hxV
        have HVV := Lib.hid hV
        clear hV hzV
        have HW3 := Lib.hid hw3
        have HWW := Lib.hid hW
        have HZW := Lib.hid hzW
        clear hzW
        replace e0 := (hb3.cell (p := ⟨b, off, none⟩) (by show b < _; omega)).trans e0
        replace e0' := (hbW.cell (p := ⟨b', off', none⟩) (by show b' < _; omega)).trans ((hb3.cell (p := ⟨b', off', none⟩) (by show b' < _; omega)).trans e0')
        replace e1 := (hb3.cell (p := ⟨b, off + 1, none⟩) (by show b < _; omega)).trans e1
        replace e1' := (hbW.cell (p := ⟨b', off' + 1, none⟩) (by show b' < _; omega)).trans ((hb3.cell (p := ⟨b', off' + 1, none⟩) (by show b' < _; omega)).trans e1')
        replace e2 := (hb3.cell (p := ⟨b, off + 2, none⟩) (by show b < _; omega)).trans e2
        replace e2' := (hbW.cell (p := ⟨b', off' + 2, none⟩) (by show b' < _; omega)).trans ((hb3.cell (p := ⟨b', off' + 2, none⟩) (by show b' < _; omega)).trans e2')
        have hq : Below wr.heap.size wr W := (hb2.trans (hb3.mono hz2)).trans (hbW.mono hz2)
        have hqv : Below wr.heap.size wr V := hq.trans (hbV.mono hz2)
        have HOW := Lib.hid (ownsRow_below HO.out hqv)
        have hbw := hb.trans (hqv.mono hbz)
        have HTW := Lib.hid ((HT.out.below (hqv.mono hbz)))
        have HBW := Lib.hid ((HT'.out.below (hqv.mono hbz)))
        have hi4 : (0 : Int) < (r'.length : Int) + 1 := by omega
        have hi5 : (1 : Int) ≤ (r'.length : Int) + 1 := by omega
        have hi6 : (r'.length : Int) + 1 ≤ (c2 : Int) := by simp at k3; omega
        have hi1 : (0 : Int) < (r.length : Int) + 1 := by omega
        have hi2 : (1 : Int) ≤ (r.length : Int) + 1 := by omega
        have hi3 : (r.length : Int) + 1 ≤ (c1 : Int) := by simp at k1; omega
        clear hw3 hW hx hxW
        go_wp2_with fail
        rw [← HW3.out]
        go_region
        rw [← HWW.out]
        generalize hA1 : (if c1 = 1 then some (⟨b, off, none⟩ : Addr) else some ⟨b, off + 3, none⟩) = A1
        have HRA1 := Lib.hid (HTW.out.cut1 (c := c1) (by simp at k1; omega) A1 (fun hne => by rw [← hA1, if_neg hne]))
        clear hA1 e0 e1 e2
        go_wp2_with fail
        go_region
        rw [← HVV.out]
        generalize hA3 : (if c2 = 1 then some (⟨b', off', none⟩ : Addr) else some ⟨b', off' + 3, none⟩) = A3
        have HRA3 := Lib.hid (HBW.out.cut1 (c := c2) (by simp at k3; omega) A3 (fun hne => by rw [← hA3, if_neg hne]))
        clear hA3 e0' e1' e2'
        go_wp2_with (go_at_call 37; refine (keepM11 _).mono ?_; rintro e w' ⟨rfl, rfl⟩)
        go_roundg (r.length + r'.length)
        case measure => rw [HG.out]; simp only [List.length_cons]; omega
        case rel => exact ⟨A1, A3, c1 - 1, c2 - 1, r, r', out, rfl, rfl, rfl, by simp at k1; omega, by omega, by simp at k3; omega, by omega, HRA1.out, HRA3.out, by rw [HM.out, HMU.out], by simp at hlen ⊢; omega, HOW.out, by first | exact hbw | exact below_drew hbw | exact below_drew (below_drew hbw)⟩
      · obtain ⟨a, r, rfl, hmu⟩ := headsM_pos ho hne
        rcases ra with _ | ⟨x, rx⟩
        · skip
          have HMU := Lib.hid hmu
          have ho1 : ¬ (headsE ([] : List Ck.Bar) (a :: r) ≤ 0) := by omega
          have ho2 : (0 ≤ headsE ([] : List Ck.Bar) (a :: r)) := by omega
          have HRA := HB.out.head
          clear hmu
          obtain ⟨b, off, rfl, hbb, d0, d1, d2, ht⟩ := HRA
          have HT := Lib.hid ht
          clear ht
          generalize hoe : headsE ([] : List Ck.Bar) (a :: r) = o at ho ho1 ho2
          have hd1 : decide (o ≤ 0) = false := decide_eq_false (by omega)
          have HOE := Lib.hid hoe
          clear hoe
          go_wp2_with fail
          refine (netHeads A1 (some ⟨b, off, none⟩) c1 c2 ([] : List Ck.Bar) (a :: r) _ (by simp only [List.length_cons, List.length_nil] at hlen ⊢; omega) (by simp only [List.length_cons, List.length_nil] at hlen ⊢; omega) (HA.out.more hbz) (HB.out.more hbz)).mono ?_
          rintro e w2 ⟨rfl, hb2⟩
          rw [HOE.out]
          have hz2 := hb2.size
          have e0 := (hb2.cell (p := ⟨b, off, none⟩) (by show b < _; omega)).trans d0
          have e1 := (hb2.cell (p := ⟨b, off + 1, none⟩) (by show b < _; omega)).trans d1
          have e2 := (hb2.cell (p := ⟨b, off + 2, none⟩) (by show b < _; omega)).trans d2
          clear d0 d1 d2
          obtain ⟨w3, hw3⟩ : ∃ w3, w3 = w2.alloc (.cells #[.int .i64 0, .int .i64 0, .int .i64 0] 48) := ⟨_, rfl⟩
          have hx : w3.heap[w2.heap.size]? = some (.cells #[.int .i64 0, .int .i64 0, .int .i64 0] 48 (0, 0)) := by rw [hw3]; exact heap_alloc_new _ _
          have hb3 : Below w2.heap.size w2 w3 := by rw [hw3]; exact (Below.refl _ _).alloc (Nat.le_refl _) _
          have hz3 : w2.heap.size < w3.heap.size := by rw [hw3]; simp
          obtain ⟨W, hW, hxW, hbW, hzW⟩ := put3 hx (.int .i64 a.x) (.int .i64 a.y) (.int .i64 a.s)
          obtain ⟨f0, f1, f2, ff⟩ := three_of_block hx
          obtain ⟨g0, g1, g2, _⟩ := three_of_block hxW
          have HW3 := Lib.hid hw3
          have HWW := Lib.hid hW
          have HZW := Lib.hid hzW
          clear hzW
          replace e0 := (hb3.cell (p := ⟨b, off, none⟩) (by show b < _; omega)).trans e0
          replace e1 := (hb3.cell (p := ⟨b, off + 1, none⟩) (by show b < _; omega)).trans e1
          replace e2 := (hb3.cell (p := ⟨b, off + 2, none⟩) (by show b < _; omega)).trans e2
          have hq : Below wr.heap.size wr W := (hb2.trans (hb3.mono hz2)).trans (hbW.mono hz2)
          have HOW := Lib.hid (ownsRow_below HO.out hq)
          have hbw := hb.trans (hq.mono hbz)
          have HTW := Lib.hid ((HT.out.below (hq.mono hbz)))
          have HBW := Lib.hid ((HA.out.below (hq.mono hbz)))
          have hi1 : (0 : Int) < (r.length : Int) + 1 := by omega
          have hi2 : (1 : Int) ≤ (r.length : Int) + 1 := by omega
          have hi3 : (r.length : Int) + 1 ≤ (c2 : Int) := by simp at k3; omega
          clear hw3 hW hx hxW
          go_wp2_with fail
          rw [← HW3.out]
          go_region
          rw [← HWW.out]
          generalize hA1 : (if c2 = 1 then some (⟨b, off, none⟩ : Addr) else some ⟨b, off + 3, none⟩) = A3
          have HRA1 := Lib.hid (HTW.out.cut1 (c := c2) (by simp at k3; omega) A3 (fun hne => by rw [← hA1, if_neg hne]))
          clear hA1 e0 e1 e2
          go_wp2_with (go_at_call 37; refine (keepM01 _).mono ?_; rintro e w' ⟨rfl, rfl⟩)
          go_roundg (([] : List Ck.Bar).length + r.length)
          case measure => rw [HG.out]; simp only [List.length_cons, List.length_nil]; omega
          case rel => exact ⟨A1, A3, c1, c2 - 1, ([] : List Ck.Bar), r, out, rfl, rfl, rfl, k1, k2, by simp at k3; omega, by omega, HBW.out, HRA1.out, by rw [HM.out, HMU.out], by simp at hlen ⊢; omega, HOW.out, by first | exact hbw | exact below_drew hbw | exact below_drew (below_drew hbw)⟩
        · skip
          have HMU := Lib.hid hmu
          have ho1 : ¬ (headsE (x :: rx) (a :: r) ≤ 0) := by omega
          have ho2 : (0 ≤ headsE (x :: rx) (a :: r)) := by omega
          have HRA := HB.out.head
          clear hmu
          obtain ⟨b, off, rfl, hbb, d0, d1, d2, ht⟩ := HRA
          have HT := Lib.hid ht
          clear ht
          generalize hoe : headsE (x :: rx) (a :: r) = o at ho ho1 ho2
          have hd1 : decide (o ≤ 0) = false := decide_eq_false (by omega)
          have HOE := Lib.hid hoe
          clear hoe
          go_wp2_with fail
          refine (netHeads A1 (some ⟨b, off, none⟩) c1 c2 (x :: rx) (a :: r) _ (by simp only [List.length_cons] at hlen ⊢; omega) (by simp only [List.length_cons] at hlen ⊢; omega) (HA.out.more hbz) (HB.out.more hbz)).mono ?_
          rintro e w2 ⟨rfl, hb2⟩
          rw [HOE.out]
          have hz2 := hb2.size
          have e0 := (hb2.cell (p := ⟨b, off, none⟩) (by show b < _; omega)).trans d0
          have e1 := (hb2.cell (p := ⟨b, off + 1, none⟩) (by show b < _; omega)).trans d1
          have e2 := (hb2.cell (p := ⟨b, off + 2, none⟩) (by show b < _; omega)).trans d2
          clear d0 d1 d2
          obtain ⟨w3, hw3⟩ : ∃ w3, w3 = w2.alloc (.cells #[.int .i64 0, .int .i64 0, .int .i64 0] 48) := ⟨_, rfl⟩
          have hx : w3.heap[w2.heap.size]? = some (.cells #[.int .i64 0, .int .i64 0, .int .i64 0] 48 (0, 0)) := by rw [hw3]; exact heap_alloc_new _ _
          have hb3 : Below w2.heap.size w2 w3 := by rw [hw3]; exact (Below.refl _ _).alloc (Nat.le_refl _) _
          have hz3 : w2.heap.size < w3.heap.size := by rw [hw3]; simp
          obtain ⟨W, hW, hxW, hbW, hzW⟩ := put3 hx (.int .i64 a.x) (.int .i64 a.y) (.int .i64 a.s)
          obtain ⟨f0, f1, f2, ff⟩ := three_of_block hx
          obtain ⟨g0, g1, g2, _⟩ := three_of_block hxW
          have HW3 := Lib.hid hw3
          have HWW := Lib.hid hW
          have HZW := Lib.hid hzW
          clear hzW
          replace e0 := (hb3.cell (p := ⟨b, off, none⟩) (by show b < _; omega)).trans e0
          replace e1 := (hb3.cell (p := ⟨b, off + 1, none⟩) (by show b < _; omega)).trans e1
          replace e2 := (hb3.cell (p := ⟨b, off + 2, none⟩) (by show b < _; omega)).trans e2
          have hq : Below wr.heap.size wr W := (hb2.trans (hb3.mono hz2)).trans (hbW.mono hz2)
          have HOW := Lib.hid (ownsRow_below HO.out hq)
          have hbw := hb.trans (hq.mono hbz)
          have HTW := Lib.hid ((HT.out.below (hq.mono hbz)))
          have HBW := Lib.hid ((HA.out.below (hq.mono hbz)))
          have hi1 : (0 : Int) < (r.length : Int) + 1 := by omega
          have hi2 : (1 : Int) ≤ (r.length : Int) + 1 := by omega
          have hi3 : (r.length : Int) + 1 ≤ (c2 : Int) := by simp at k3; omega
          clear hw3 hW hx hxW
          go_wp2_with fail
          rw [← HW3.out]
          go_region
          rw [← HWW.out]
          generalize hA1 : (if c2 = 1 then some (⟨b, off, none⟩ : Addr) else some ⟨b, off + 3, none⟩) = A3
          have HRA1 := Lib.hid (HTW.out.cut1 (c := c2) (by simp at k3; omega) A3 (fun hne => by rw [← hA1, if_neg hne]))
          clear hA1 e0 e1 e2
          go_wp2_with (go_at_call 37; refine (keepM01 _).mono ?_; rintro e w' ⟨rfl, rfl⟩)
          go_roundg ((x :: rx).length + r.length)
          case measure => rw [HG.out]; simp only [List.length_cons]; omega
          case rel => exact ⟨A1, A3, c1, c2 - 1, (x :: rx), r, out, rfl, rfl, rfl, k1, k2, by simp at k3; omega, by omega, HBW.out, HRA1.out, by rw [HM.out, HMU.out], by simp at hlen ⊢; omega, HOW.out, by first | exact hbw | exact below_drew hbw | exact below_drew (below_drew hbw)⟩
    · have h1 : ra = [] := List.eq_nil_of_length_eq_zero (by omega)
      have h2 : rb = [] := List.eq_nil_of_length_eq_zero (by omega)
      subst h1
      subst h2
      go_wp2
      go_ret
      have hfin := HM.out
      simp only [mergeM, List.append_nil] at hfin
      exact ⟨_, rfl, by rw [hfin]; exact HO.out, hb⟩
end Go.Proofs.Ythihjphcjjpjpaa

/- Contracts of Union at valid nets with at most 4096 bars together, of the copy that the statements make, and of their count. -/
namespace Go.Proofs.Ythihjphcjjpjpaa
open Go.RowKit

theorem own_slice {w : World} {base : Nat} {e : TypeId} {size n : Nat} {v : Value} {xs : List Value} (h : w.ownsRow base e size v n xs) : ∃ a c, v = .slice a n c ∧ n ≤ c ∧ c ≤ maxLen := by
  rcases h.2 with ⟨rfl, rfl⟩ | ⟨g, cap, cur, rfl, _, _, h1, h2, _⟩
  · exact ⟨none, 0, rfl, Nat.le_refl _, by unfold maxLen; omega⟩
  · exact ⟨_, _, rfl, h1, h2⟩
theorem bcellsL_at (l : List Ck.Bar) : ∀ (i : Nat) (h : i < l.length), (bcellsL l)[i * 3]? = some (.int .i64 l[i].x) ∧ (bcellsL l)[i * 3 + 1]? = some (.int .i64 l[i].y) ∧ (bcellsL l)[i * 3 + 2]? = some (.int .i64 l[i].s) := by
  induction l with
  | nil => intro i h; simp at h
  | cons a r ih =>
    intro i h
    have e : bcellsL (a :: r) = [.int .i64 a.x, .int .i64 a.y, .int .i64 a.s] ++ bcellsL r := by simp [bcellsL]
    rw [e]
    cases i with
    | zero => exact ⟨rfl, rfl, rfl⟩
    | succ i =>
      have := ih i (by simpa using h)
      rw [show (i + 1) * 3 = i * 3 + 3 from by omega]
      simpa using this
theorem bcellsL_length (l : List Ck.Bar) : (bcellsL l).length = l.length * 3 := by
  induction l with
  | nil => rfl
  | cons a r ih => simp [bcellsL] at ih ⊢; omega
/-- A row of the call's own that holds the cells of bars reads as these bars. -/
theorem RB.of_own {w : World} {base c : Nat} {A : Option Addr} {l : List Ck.Bar} {n : Nat} (h : w.ownsRow base 48 3 (.slice A n c) l.length (bcellsL l)) : RB w w.heap.size A l := fun hl => by
  obtain ⟨g, cap, hv, _, _, _, hg⟩ := own_form h hl
  injection hv with hA _ _
  subst hA
  have hc := h.cells (g := g) rfl
  refine ⟨g, 0, rfl, hg, fun i hi => ?_⟩
  obtain ⟨h0, h1, h2⟩ := bcellsL_at l i hi
  have k0 := hc _ _ h0
  have k1 := hc _ _ h1
  have k2 := hc _ _ h2
  rw [add0] at k0 k1 k2
  simp only [Nat.zero_add]
  exact ⟨k0, k1, k2⟩

set_option maxHeartbeats 2000000 in
set_option maxRecDepth 100000 in
theorem netUnion (A A' : Option Addr) (c c' : Nat) (l l' : List Ck.Bar) (w : World) (hl : l.length ≤ 4096) (hl' : l'.length ≤ 4096) (hc : l.length ≤ c) (hcm : c ≤ maxLen) (hc' : l'.length ≤ c') (hcm' : c' ≤ maxLen) (hN : Ck.Net l) (hN' : Ck.Net l') (h : RB w w.heap.size A l) (h' : RB w w.heap.size A' l') (hu : (mergeU l l').length ≤ 4096) :
    Calls Try.prog 14 #[.slice A l.length c, .slice A' l'.length c'] w (TwoPost l l' w) := by
  have ex0 : ∀ (a b : Value) (w : World), (Instr.extract (.tuple #[a, b]) 0).run Try.prog w = .ok a w := fun _ _ _ => by kernel_rfl
  have ex1 : ∀ (a b : Value) (w : World), (Instr.extract (.tuple #[a, b]) 1).run Try.prog w = .ok b w := fun _ _ _ => by kernel_rfl
  have hu1 : ¬ ((4096 : Int) < ((mergeU l l').length : Int)) := by omega
  go_enter Try.func14, Try.ntmps14
  go_wp2_with fail
  refine (netMerged A A' c c' l l' _ hl hl' hc hcm hc' hcm' hN hN' h h').mono ?_
  rintro e w1 ⟨v, rfl, hown, hb1⟩
  obtain ⟨a, cv, rfl, _, _⟩ := own_slice hown
  have HO := Lib.hid hown
  clear hown
  generalize hn : (mergeU l l').length = n at hu hu1
  have HN := Lib.hid hn
  clear hn
  go_wp2
  go_ret2
  exact ⟨.slice a n cv, rfl, by have h9 := HO.out; rw [HN.out] at h9 ⊢; exact h9, hb1⟩

def CopyPost (l : List Ck.Bar) (w : World) (e : Ending) (w' : World) : Prop :=
  ∃ v, e = .returned v ∧ w'.ownsRow w.heap.size 48 3 v l.length (bcellsL l) ∧ Below w.heap.size w w'
theorem empty_row (w : World) (base : Nat) (hb : base ≤ w.heap.size) (t : TypeId) (size : Nat) : (w.alloc (.cells #[] t)).ownsRow base t size (.slice (some ⟨w.heap.size, 0, none⟩) 0 0) 0 [] :=
  ⟨by simp, .inr ⟨_, _, _, rfl, hb, heap_alloc_new _ _, Nat.le_refl _, by unfold maxLen; omega, by simp, by simp⟩⟩
theorem RB.news {w : World} {B : Nat} {b off : Nat} {l : List Ck.Bar} (h : RB w B (some ⟨b, off, none⟩) l) (hl : 0 < l.length) : ∀ (j : Nat) (u : Value), (bcellsL l)[j]? = some u → w.cell? ((⟨b, off, none⟩ : Addr).add j) = some u := by
  intro j u hu
  obtain ⟨b', off', e, _, hc⟩ := h hl
  cases e
  have hj : j < (bcellsL l).length := (List.getElem?_eq_some_iff.1 hu).1
  rw [bcellsL_length] at hj
  have hi : j / 3 < l.length := by omega
  obtain ⟨k0, k1, k2⟩ := hc (j / 3) hi
  obtain ⟨h0, h1, h2⟩ := bcellsL_at l (j / 3) hi
  have hadd : (⟨b, off, none⟩ : Addr).add j = ⟨b, off + j, none⟩ := by
    unfold Addr.add
    split
    · rename_i e; simp
    · rfl
  rw [hadd]
  have hm : j % 3 = 0 ∨ j % 3 = 1 ∨ j % 3 = 2 := by omega
  rcases hm with hm | hm | hm
  · have e : j = j / 3 * 3 := by omega
    rw [← e] at h0 k0
    rw [k0, ← hu, h0]
  · have e : j = j / 3 * 3 + 1 := by omega
    rw [← e] at h1
    rw [Nat.add_assoc, ← e] at k1
    rw [k1, ← hu, h1]
  · have e : j = j / 3 * 3 + 2 := by omega
    rw [← e] at h2
    rw [Nat.add_assoc, ← e] at k2
    rw [k2, ← hu, h2]
theorem bcellsL_one (l : List Ck.Bar) : ∀ u ∈ bcellsL l, u.oneCell' = true := by
  intro u hu
  simp only [bcellsL, List.mem_flatMap] at hu
  obtain ⟨b, _, hu⟩ := hu
  simp at hu
  rcases hu with rfl | rfl | rfl <;> rfl

end Go.Proofs.Ythihjphcjjpjpaa

/- Minus at valid nets; plain mathematics of what is left. -/
namespace Go.Proofs.Ythihjphcjjpjpaa
open Go.RowKit

def MinPost (l l' : List Ck.Bar) (w : World) (e : Ending) (w' : World) : Prop :=
  ∃ v, e = .returned (.tuple #[v, .int .i64 0]) ∧ w'.ownsRow w.heap.size 48 3 v (mergeM l l').length (bcellsL (mergeM l l')) ∧ Below w.heap.size w w'

set_option maxHeartbeats 2000000 in
set_option maxRecDepth 100000 in
theorem netMergedM (A A' : Option Addr) (c c' : Nat) (l l' : List Ck.Bar) (w : World) (hl : l.length ≤ 4096) (hl' : l'.length ≤ 4096) (hc : l.length ≤ c) (hcm : c ≤ maxLen) (hc' : l'.length ≤ c') (hcm' : c' ≤ maxLen) (hN : Ck.Net l) (hN' : Ck.Net l') (h : RB w w.heap.size A l) (h' : RB w w.heap.size A' l') :
    Calls Try.prog 36 #[.slice A l.length c, .slice A' l'.length c', .func (.func 37) #[] #[]] w (MinPost l l' w) := by
  have HR := Lib.hid h
  have HR' := Lib.hid h'
  have HE := Lib.hid ((netE_zero l).2 ⟨hl, hN⟩)
  have HE' := Lib.hid ((netE_zero l').2 ⟨hl', hN'⟩)
  clear h h' hN hN'
  go_enter Try.func36, Try.ntmps36
  go_wp2_with fail
  refine (netCheckNet A c l _ hl hc hcm HR.out).mono ?_
  rintro e w1 ⟨rfl, hb1⟩
  rw [HE.out]
  go_wp2_with fail
  refine (netCheckNet A' c' l' _ hl' hc' hcm' ((HR'.out.below hb1).more hb1.size)).mono ?_
  rintro e w2 ⟨rfl, hb2⟩
  rw [HE'.out]
  have hq2 := hb1.trans (hb2.mono hb1.size)
  go_wp2_with fail
  refine (netFirst2 _ _ 0 0 32 _ (by exact heap_alloc_new _ _)).mono ?_
  rintro e w3 ⟨rfl, rfl⟩
  rw [show firstE [0, 0] = 0 from rfl]
  have hq3 := hq2.alloc hq2.size (.cells #[.int .i64 0, .int .i64 0] 32)
  go_wp2_with fail
  refine (netMergeM A A' c c' l l' _ hl hl' hc hcm hc' hcm' ((HR.out.below hq3).more hq3.size) ((HR'.out.below hq3).more hq3.size)).mono ?_
  rintro e w4 ⟨v, rfl, hown, hb4⟩
  have HO := Lib.hid (ownsRow_mono hown hq3.size)
  clear hown
  go_wp2
  go_ret2
  exact ⟨v, rfl, HO.out, hq3.trans (hb4.mono hq3.size)⟩

set_option maxHeartbeats 2000000 in
set_option maxRecDepth 100000 in
theorem netMinus (A A' : Option Addr) (c c' : Nat) (l l' : List Ck.Bar) (w : World) (hl : l.length ≤ 4096) (hl' : l'.length ≤ 4096) (hc : l.length ≤ c) (hcm : c ≤ maxLen) (hc' : l'.length ≤ c') (hcm' : c' ≤ maxLen) (hN : Ck.Net l) (hN' : Ck.Net l') (h : RB w w.heap.size A l) (h' : RB w w.heap.size A' l') :
    Calls Try.prog 13 #[.slice A l.length c, .slice A' l'.length c'] w (MinPost l l' w) := by
  have ex0 : ∀ (a b : Value) (w : World), (Instr.extract (.tuple #[a, b]) 0).run Try.prog w = .ok a w := fun _ _ _ => by kernel_rfl
  have ex1 : ∀ (a b : Value) (w : World), (Instr.extract (.tuple #[a, b]) 1).run Try.prog w = .ok b w := fun _ _ _ => by kernel_rfl
  go_enter Try.func13, Try.ntmps13
  go_wp2_with fail
  refine (netMergedM A A' c c' l l' _ hl hl' hc hcm hc' hcm' hN hN' h h').mono ?_
  rintro e w1 ⟨v, rfl, hown, hb1⟩
  obtain ⟨a, cv, rfl, _, _⟩ := own_slice hown
  have HO := Lib.hid hown
  clear hown
  generalize hn : (mergeM l l').length = n
  have HN := Lib.hid hn
  clear hn
  go_wp2
  go_ret2
  exact ⟨.slice a n cv, rfl, by have h9 := HO.out; rw [HN.out] at h9 ⊢; exact h9, hb1⟩


open Ck
theorem mergeM_one_lt {x : Bar} {l : List Bar} (h : ∀ b ∈ l, Blt x b) : mergeM l [x] = l := by
  cases l with
  | nil => simp [mergeM]
  | cons b r =>
    have hb := h b (by simp)
    have h1 : ¬ cmpB b x < 0 := fun hh => (hb.trans ((cmpB_lt_iff b x).1 hh)).irrefl
    have h2 : 0 < cmpB b x := by
      have h0 : cmpB b x ≠ 0 := fun e => by have := (cmpB_zero b x).1 e; subst this; exact hb.irrefl
      omega
    rw [mergeM, if_neg h1, if_pos h2, mergeM_nil]
/-- One bar less: the bar is taken out of the list. -/
theorem mergeM_one {x : Bar} : ∀ {l : List Bar}, l.Pairwise Blt → mergeM l [x] = l.filter (fun b => decide (b ≠ x))
  | [], _ => by simp [mergeM]
  | b :: r, h => by
    obtain ⟨h1, h2⟩ := List.pairwise_cons.1 h
    rcases Blt.tri b x with hb | hb | hb
    · rw [mergeM, if_pos ((cmpB_lt_iff b x).2 hb), mergeM_one h2, List.filter_cons_of_pos]
      have : b ≠ x := fun e => by subst e; exact hb.irrefl
      simpa using this
    · subst hb
      have e0 := (cmpB_zero b b).2 rfl
      rw [mergeM, if_neg (by omega), if_neg (by omega), mergeM_nil]
      rw [List.filter_cons_of_neg (by simp), List.filter_eq_self.2]
      intro c hc
      have : c ≠ b := fun e => by subst e; exact (h1 c hc).irrefl
      simpa using this
    · rw [mergeM_one_lt (fun c hc => by rcases List.mem_cons.1 hc with rfl | hc; exact hb; exact hb.trans (h1 c hc)), List.filter_eq_self.2]
      intro c hc
      have : c ≠ x := by
        rintro rfl
        rcases List.mem_cons.1 hc with e | hc
        · subst e; exact hb.irrefl
        · exact (hb.trans (h1 c hc)).irrefl
      simpa using this
theorem sorted_unique : ∀ {l l' : List Bar}, l.Pairwise Blt → l'.Pairwise Blt → (∀ b, b ∈ l ↔ b ∈ l') → l = l'
  | [], [], _, _, _ => rfl
  | [], b :: r', _, _, h => absurd ((h b).2 (by simp)) (by simp)
  | a :: r, [], _, _, h => absurd ((h a).1 (by simp)) (by simp)
  | a :: r, b :: r', h1, h2, h => by
    obtain ⟨k1, k2⟩ := List.pairwise_cons.1 h1
    obtain ⟨m1, m2⟩ := List.pairwise_cons.1 h2
    have e : a = b := by
      rcases List.mem_cons.1 ((h a).1 (by simp)) with e | e
      · exact e
      · rcases List.mem_cons.1 ((h b).2 (by simp)) with e' | e'
        · exact e'.symm
        · exact ((m1 a e).trans (k1 b e')).irrefl.elim
    subst e
    rw [sorted_unique k2 m2 fun c => ?_]
    constructor
    · intro hc
      rcases List.mem_cons.1 ((h c).1 (by simp [hc])) with e | e
      · subst e; exact (k1 c hc).irrefl.elim
      · exact e
    · intro hc
      rcases List.mem_cons.1 ((h c).2 (by simp [hc])) with e | e
      · subst e; exact (m1 c hc).irrefl.elim
      · exact e
/-- Put back, the bar stands where it stood. -/
theorem mergeU_one {x : Bar} {l : List Bar} (h : l.Pairwise Blt) (hx : x ∈ l) : mergeU (l.filter (fun b => decide (b ≠ x))) [x] = l := by
  refine sorted_unique (mergeU_sorted _ _ (h.filter _) (by simp)) h fun b => ?_
  rw [mergeU_mem, List.mem_filter]
  constructor
  · rintro (⟨h1, _⟩ | h1)
    · exact h1
    · simp at h1; subst h1; exact hx
  · intro hb
    by_cases e : b = x
    · exact .inr (by simp [e])
    · exact .inl ⟨hb, by simpa using e⟩
theorem filter_length {x : Bar} {l : List Bar} (h : l.Pairwise Blt) (hx : x ∈ l) : (l.filter (fun b => decide (b ≠ x))).length + 1 = l.length := by
  induction l with
  | nil => simp at hx
  | cons b r ih =>
    obtain ⟨h1, h2⟩ := List.pairwise_cons.1 h
    by_cases e : b = x
    · subst e
      rw [List.filter_cons_of_neg (by simp), List.filter_eq_self.2]
      · rfl
      · intro c hc
        have : c ≠ b := fun e => by subst e; exact (h1 c hc).irrefl
        simpa using this
    · rw [List.filter_cons_of_pos (by simpa using e)]
      have := ih h2 (by rcases List.mem_cons.1 hx with rfl | hx; exact absurd rfl e; exact hx)
      simp only [List.length_cons]; omega
end Go.Proofs.Ythihjphcjjpjpaa

/- Meshes and Has of the program at valid nets. -/
namespace Go.Proofs.Ythihjphcjjpjpaa
open Go.RowKit Go.Shelf Ck

def MeshesPost (l : List Bar) (w : World) (e : Ending) (w' : World) : Prop :=
  ∃ v, e = .returned (.tuple #[v, .int .i64 0]) ∧ w'.ownsRow w.heap.size 46 2 v (meshL l l).length (meshCells (meshL l l)) ∧ Below w.heap.size w w'
set_option maxHeartbeats 1000000 in
set_option maxRecDepth 100000 in
theorem netMeshesAll (A : Option Addr) (c : Nat) (l : List Bar) (w : World) (hl : l.length ≤ 4096) (hc : l.length ≤ c) (hcm : c ≤ maxLen) (hN : Net l) (h : RB w w.heap.size A l) :
    Calls Try.prog 15 #[.slice A l.length c] w (MeshesPost l w) := by
  have HR := Lib.hid h
  have HE := Lib.hid ((netE_zero l).2 ⟨hl, hN⟩)
  have HN := Lib.hid hN
  clear h hN
  go_enter Try.func15, Try.ntmps15
  go_wp2_with fail
  refine (netCheckNet A c l _ hl hc hcm HR.out).mono ?_
  rintro e w1 ⟨rfl, hb1⟩
  rw [HE.out]
  go_wp2_with fail
  refine (netMeshesOf A c l _ hl HN.out.2 HN.out.1 ((HR.out.below hb1).more hb1.size)).mono ?_
  rintro e w2 ⟨v, rfl, hown, hb2⟩
  have HO := Lib.hid (ownsRow_mono hown hb1.size)
  clear hown
  go_wp2
  go_ret2
  exact ⟨v, rfl, HO.out, hb1.trans (hb2.mono hb1.size)⟩

set_option maxHeartbeats 2000000 in
set_option maxRecDepth 100000 in
theorem netHas (A : Option Addr) (c : Nat) (l : List Bar) (b : Bar) (w : World) (hl : l.length ≤ 4096) (hc : l.length ≤ c) (hcm : c ≤ maxLen) (hN : Net l) (hb : barE b.x b.y b.s = 0) (h : RB w w.heap.size A l) :
    Calls Try.prog 17 #[.slice A l.length c, .agg #[.int .i64 b.x, .int .i64 b.y, .int .i64 b.s]] w fun e w' => e = .returned (.tuple #[.bool (decide (b ∈ l)), .int .i64 0]) ∧ Below w.heap.size w w' := by
  have HR := Lib.hid h
  have HE := Lib.hid ((netE_zero l).2 ⟨hl, hN⟩)
  have HN := Lib.hid hN
  have HBE := Lib.hid hb
  clear h hN hb
  obtain ⟨w1, hw1, e0, e1, e2, hb1, hz1⟩ := box3 w (.int .i64 b.x) (.int .i64 b.y) (.int .i64 b.s) 48
  have HW1 := Lib.hid hw1
  clear hw1
  go_enter Try.func17, Try.ntmps17
  go_wp2_with fail
  rw [← HW1.out]
  go_region_held3 (fun w' => w'.cell? ⟨w.heap.size, 0, none⟩ = some (.int .i64 b.x) ∧ w'.cell? ⟨w.heap.size, 1, none⟩ = some (.int .i64 b.y) ∧ w'.cell? ⟨w.heap.size, 2, none⟩ = some (.int .i64 b.s) ∧ Below w.heap.size w w' ∧ w.heap.size < w'.heap.size)
    (first | exact ⟨e0, e1, e2, below_drew hb1, hz1⟩ | exact keep3 (by assumption) (by assumption) | exact keep3 (by assumption) ((Below.refl _ _).alloc (Nat.le_refl _) _) | assumption | (refine ⟨?_, ?_, ?_, ?_, ?_⟩ <;> first | assumption | (simp at *; omega)) | exact keep3 (by assumption) (below_drew (Below.refl _ _)) | go_keep)
    (first
      | (go_at_call 39; refine (netCheckNet A c l _ hl hc hcm ((HR.out.below (belowOf3 (by assumption))).more (belowOf3 (by assumption)).size)).mono ?_; rintro e w' ⟨rfl, hbq⟩; rw [HE.out])
      | (go_at_call 41; refine (netCheckBar _ _ _ _).mono ?_; rintro e w' ⟨rfl, hbq⟩; rw [HBE.out])
      | (go_at_call 27; refine (netFirst2 _ _ 0 0 32 _ (by exact heap_alloc_new _ _)).mono ?_; rintro e w' ⟨rfl, rfl⟩; rw [show firstE [0, 0] = 0 from rfl]))
  all_goals
    rename_i hS
    obtain ⟨c0, c1, c2, hbs, hzs⟩ := hS
    generalize World.alloc _ _ = w5 at c0 c1 c2 hbs hzs ⊢
    go_wp2_with fail
    refine (netHasBar A c l b.x b.y b.s _ hl HN.out.2 ((HR.out.below hbs).more hbs.size)).mono ?_
    rintro e w6 ⟨rfl, hb6⟩
    have hbf := hbs.trans (hb6.mono hbs.size)
    clear c0 c1 c2 e0 e1 e2
    go_wp2
    go_ret2
    exact ⟨rfl, hbf⟩
end Go.Proofs.Ythihjphcjjpjpaa

/- The reference's Power and Vector at words without an error. -/
namespace Go.Proofs.Ythihjphcjjpjpaa
open Go.RowKit Go.Shelf Ck

theorem repeat_comm (l : List UInt8) : ∀ c, Lib.repeatL l c ++ l = l ++ Lib.repeatL l c
  | 0 => by simp [Lib.repeatL]
  | c + 1 => by rw [Lib.repeatL, List.append_assoc, repeat_comm l c]
def strL (l : List UInt8) : ByteArray := ⟨l.toArray⟩
theorem strL_data (l : List UInt8) : (strL l).data.toList = l := rfl
theorem strL_size (l : List UInt8) : (strL l).size = l.length := by simp [strL, ByteArray.size]
set_option maxHeartbeats 1000000 in
theorem refPower (s : ByteArray) (c : Nat) (w : World) (hc : c ≤ 256) (hs : s.size ≤ 64) :
    Calls Try.prog 8 #[.string s, .int .i64 c] w fun e w' => e = .returned (.string (strL (Lib.repeatL s.data.toList c))) ∧ w = w' := by
  go_enter Try.func8, Try.ntmps8
  go_wp2_with fail
  go_loop [5, 6] (fun t i => ∃ k : Nat, k ≤ c ∧ i = .int .i64 k ∧ t = .string (strL (Lib.repeatL s.data.toList k))) (fun _ i => c - (intOf i).toNat)
  case atStart => exact ⟨0, Nat.zero_le _, rfl, rfl⟩
  case round =>
    obtain ⟨k, hk, rfl, rfl⟩ := hrel
    by_cases hlt : k < c
    · have hcat : strL (Lib.repeatL s.data.toList k) ++ s = strL (Lib.repeatL s.data.toList (k + 1)) := by
        have h : (strL (Lib.repeatL s.data.toList k) ++ s).data.toList = (strL (Lib.repeatL s.data.toList (k + 1))).data.toList := by
          rw [strL_data, Lib.repeatL, ← repeat_comm]
          simp [strL]
        have e1 := congrArg (fun l => strL l) h
        exact e1
      have HC := Lib.hid hcat
      have hts : (strL (Lib.repeatL s.data.toList k)).size ≤ 20000 := by
        rw [strL_size, Lib.repeatL_length, ← Lib.size_eq]
        exact Nat.le_trans (Nat.mul_le_mul (show k ≤ 256 by omega) hs) (by decide)
      clear hcat
      generalize strL (Lib.repeatL s.data.toList k) = t at *
      go_wp2
      go_round
      case rel => exact ⟨k + 1, by omega, by go_num, by rw [← HC.out]⟩
      case measure => simp [intOf]; omega
    · obtain rfl : k = c := by omega
      go_wp2
      go_ret
      exact ⟨rfl, rfl⟩

def vecL (l : List UInt8) : Int × Int := ((l.map dxL).sum, (l.map dyL).sum)
theorem vecL_snoc (l : List UInt8) (c : UInt8) : vecL (l ++ [c]) = ((vecL l).1 + dxL c, (vecL l).2 + dyL c) := by simp [vecL]
theorem vecL_near : ∀ (l : List UInt8), 0 ≤ (vecL l).1 ∧ (vecL l).1 ≤ 2 * (l.length : Int) ∧ 0 ≤ (vecL l).2 ∧ (vecL l).2 ≤ 2 * (l.length : Int)
  | [] => by simp [vecL]
  | c :: r => by
    have ih := vecL_near r
    have h1 : (vecL (c :: r)).1 = dxL c + (vecL r).1 := by simp [vecL]
    have h2 : (vecL (c :: r)).2 = dyL c + (vecL r).2 := by simp [vecL]
    have hx : 0 ≤ dxL c ∧ dxL c ≤ 2 := by unfold dxL; split <;> (try split) <;> omega
    have hy : 0 ≤ dyL c ∧ dyL c ≤ 2 := by unfold dyL; split <;> (try split) <;> omega
    rw [h1, h2]
    simp only [List.length_cons]
    omega
set_option maxHeartbeats 2000000 in
set_option maxRecDepth 100000 in
theorem refVector (L : List UInt8) (w : World) (hl : ∀ c ∈ L, isL c) (hn : L.length ≤ 1000) :
    Calls Try.prog 7 #[.string (strL L)] w fun e w' => e = .returned (.agg #[.int .i64 (vecL L).1, .int .i64 (vecL L).2]) ∧ Below w.heap.size w w' := by
  have HL := Lib.hid hl
  have hsz := strL_size L
  have hsd := strL_data L
  generalize strL L = s at hsz hsd ⊢
  have HSZ := Lib.hid hsz
  have HSD := Lib.hid hsd
  have hs1 : (s.size : Int) ≤ 1000 := by omega
  clear hl hsz hsd
  go_enter Try.func7, Try.ntmps7
  go_wp2_with fail
  obtain ⟨w1, hw1⟩ : ∃ w1, w1 = (w.alloc (.cells #[.int .i64 0, .int .i64 0] 28)).alloc (.cells #[.int .i64 0, .int .i64 0] 28) := ⟨_, rfl⟩
  have g0 : w1.heap[w.heap.size]? = some (.cells #[.int .i64 0, .int .i64 0] 28 (0, 0)) := by
    rw [hw1, Below.heap_alloc _ _ _ (by simp)]
    exact heap_alloc_new _ _
  have g1 : w1.heap[w.heap.size + 1]? = some (.cells #[.int .i64 0, .int .i64 0] 28 (0, 0)) := by
    rw [hw1]
    have := heap_alloc_new (w.alloc (.cells #[.int .i64 0, .int .i64 0] 28)) (.cells #[.int .i64 0, .int .i64 0] 28)
    rwa [World.size_alloc] at this
  have b0 : Below w.heap.size w w1 := by rw [hw1]; exact ((Below.refl _ _).alloc (Nat.le_refl _) _).alloc (by simp) _
  rw [← hw1]
  clear hw1
  go_loopw [4] (fun i wr => ∃ k : Nat, k ≤ s.size ∧ i = .int .i64 k ∧ wr.heap[w.heap.size]? = some (.cells #[.int .i64 0, .int .i64 0] 28 (0, 0)) ∧ wr.heap[w.heap.size + 1]? = some (.cells #[.int .i64 (vecL (L.take k)).1, .int .i64 (vecL (L.take k)).2] 28 (0, 0)) ∧ Below w.heap.size w wr) (fun i _ => s.size - (intOf i).toNat)
  case atStart => exact ⟨0, Nat.zero_le _, rfl, g0, g1, b0⟩
  case round =>
    obtain ⟨k, hk, rfl, h0, h1, hb⟩ := hrel
    clear g0 g1 b0
    have hz0 := (Array.getElem?_eq_some_iff.1 h0).1
    have hz1 := (Array.getElem?_eq_some_iff.1 h1).1
    have hvn := vecL_near (L.take k)
    by_cases hlt : k < s.size
    · have c0 : (0 : Int) ≤ (k : Int) := by omega
      have c1 : (k : Int) < (s.size : Int) := by omega
      have hkL : k < L.length := by rw [← HSZ.out]; exact hlt
      have hkl : k < s.data.toList.length := by rw [HSD.out]; exact hkL
      have hel : s[k] = L[k] := by rw [← byte_at s k hlt hkl]; simp only [HSD.out]
      have hLk := HL.out _ (List.getElem_mem hkL)
      have HV := Lib.hid (show vecL (L.take (k + 1)) = ((vecL (L.take k)).1 + dxL L[k], (vecL (L.take k)).2 + dyL L[k]) by rw [List.take_succ_eq_append_getElem hkL, vecL_snoc])
      have hx : 0 ≤ dxL L[k] ∧ dxL L[k] ≤ 2 := by unfold dxL; split <;> (try split) <;> omega
      have hy : 0 ≤ dyL L[k] ∧ dyL L[k] ≤ 2 := by unfold dyL; split <;> (try split) <;> omega
      have hlen : ((L.take k).length : Int) ≤ 1000 := by rw [List.length_take]; omega
      generalize L[k] = q at *
      generalize (vecL (L.take k)).1 = vx at *
      generalize (vecL (L.take k)).2 = vy at *
      obtain ⟨a0, a1⟩ := hx
      obtain ⟨a2, a3⟩ := hy
      obtain ⟨d0, d1, d2, d3⟩ := hvn
      go_wp2_with fail
      refine (refStep q _ hLk).mono ?_
      rintro e w2 ⟨rfl, hb2⟩
      obtain ⟨w3, hw3, n0, n1, hb3, hz3⟩ := box2 w2 (.int .i64 (dxL q)) (.int .i64 (dyL q)) 28
      have b23 := hb2.trans (hb3.mono hb2.size)
      have h0' := (b23.block _ hz0).trans h0
      have h1' := (b23.block _ hz1).trans h1
      obtain ⟨p0, p1, p2, p3⟩ := two_cell h1'
      obtain ⟨s1, s2⟩ := two_set h1' (.int .i64 (vx + dxL q)) (.int .i64 (vy + dyL q))
      have hbw := (hb.trans (b23.mono hb.size)).grown s2 (by have := b23.size; omega) (fun j e => by cases e; omega)
      have h0'' := (s2.block _ (Array.getElem?_eq_some_iff.1 h0').1 (fun e => by injection e; omega)).trans h0'
      have hw3' := hw3.symm
      have hlc := HSZ.out
      clear hw3 hel hlc h0 h1 hb2 hb3 hb
      go_wp2
      go_roundw
      case rel => exact ⟨k + 1, by omega, by go_num, h0'', by rw [HV.out]; exact s1, hbw⟩
      case measure => simp [intOf]; omega
    · obtain rfl : k = s.size := by omega
      have HT := Lib.hid (show L.take s.size = L by rw [HSZ.out, List.take_length])
      rw [HT.out] at h1 hvn
      obtain ⟨p0, p1, -, -⟩ := two_cell h1
      obtain ⟨o0, o1, o2, o3⟩ := two_cell h0
      obtain ⟨s1, s2⟩ := two_set h0 (.int .i64 (vecL L).1) (.int .i64 (vecL L).2)
      obtain ⟨t0, t1, -, -⟩ := two_cell s1
      have hbw := hb.grown s2 (by have := hb.size; omega) (fun j e => by cases e; omega)
      clear h0 h1
      go_wp2
      exact bodyPost_ret (v := .agg #[.int .i64 (vecL L).1, .int .i64 (vecL L).2]) (by simp [results, Try.results7, go_sem, t0, t1]) rfl ⟨rfl, hbw⟩
end Go.Proofs.Ythihjphcjjpjpaa

/- The rate of a word: vectorOf, hasRate, checkRate, Rate. -/
namespace Go.Proofs.Ythihjphcjjpjpaa
open Go.RowKit Go.Shelf

set_option maxHeartbeats 4000000 in
set_option maxRecDepth 100000 in
theorem tpVectorOf (s : ByteArray) (w : World) (hs : Word s) :
    Calls Try.prog 51 #[.string s] w fun e w' => e = .returned (.agg #[.int .i64 (vecL s.data.toList).1, .int .i64 (vecL s.data.toList).2]) ∧ Below w.heap.size w w' := by
  obtain ⟨L, hL⟩ : ∃ L, s.data.toList = L := ⟨_, rfl⟩
  have hLs : L.length = s.size := by rw [← hL]; exact (Lib.size_eq s).symm
  have HLL := Lib.hid (show ∀ q ∈ L, isL q by rw [← hL]; exact hs.1)
  have hs64 : (s.size : Int) ≤ 64 := by have := hs.2.2; omega
  have HSD := Lib.hid hL
  have HLN := Lib.hid hLs
  rw [hL]
  clear hL hLs hs
  obtain ⟨w1, hw1, g0, g1, b0, hz1⟩ := boxH22 w (.int .i64 0) (.int .i64 0) (.int .i64 0) (.int .i64 0) 28 28
  have HW1 := Lib.hid hw1
  have HZ1 := Lib.hid hz1
  clear hw1 hz1
  go_enter Try.func51, Try.ntmps51
  go_wp2_with fail
  rw [← HW1.out]
  go_wp2_with fail
  refine (tpVectors _).mono ?_
  rintro e w2 ⟨rfl, hv2, hb2⟩
  go_wp2_with fail
  have hz1 := HZ1.out
  have hzv := hv2.lt
  have hi0 : (w2.iter s 0).heap[w2.heap.size]? = some (.stringIter s 0) := World.iter_heap w2 s 0
  have hbi : Below w2.heap.size w2 (w2.iter s 0) := (Below.refl _ _).alloc (Nat.le_refl _) _
  have hv3 : VecAt (w2.iter s 0) w1.heap.size := hv2.of_block (hbi.block _ hzv)
  have b2 := b0.trans (hb2.mono b0.size)
  have b3 := b2.trans (hbi.mono b2.size)
  have g0' := (hbi.block _ (by omega)).trans ((hb2.block _ (by omega)).trans g0)
  have g1' := (hbi.block _ (by omega)).trans ((hb2.block _ (by omega)).trans g1)
  generalize w2.iter s 0 = w3 at *
  clear g0 g1 hb2 hbi hv2
  go_loopw [6] (fun _ wr => ∃ pos : Nat, pos ≤ L.length ∧ wr.heap[w2.heap.size]? = some (.stringIter s pos) ∧ VecAt wr w1.heap.size ∧ wr.heap[w.heap.size]? = some (.cells #[.int .i64 0, .int .i64 0] 28 (0, 0)) ∧ wr.heap[w.heap.size + 1]? = some (.cells #[.int .i64 (vecL (L.take pos)).1, .int .i64 (vecL (L.take pos)).2] 28 (0, 0)) ∧ Below w.heap.size w wr) (fun _ wr => s.size - wr.iterPos w2.heap.size)
  case atStart => exact ⟨0, Nat.zero_le _, hi0, hv3, g0', g1', b3⟩
  case round =>
    obtain ⟨pos, hpos, hit, hv, h0, h1, hb⟩ := hrel
    clear hi0 hv3 g0' g1' b2 b3 hz1
    have hz1 := HZ1.out
    have hvn := vecL_near (L.take pos)
    have hlen : ((L.take pos).length : Int) ≤ 64 := by rw [List.length_take]; have := HLN.out; omega
    by_cases hp : pos < s.size
    · have hpl : pos < L.length := by rw [HLN.out]; exact hp
      have hkl : pos < s.data.toList.length := by rw [HSD.out]; exact hpl
      have hel : s[pos] = L[pos] := by rw [← byte_at s pos hp hkl]; simp only [HSD.out]
      have hLq : isL L[pos] := HLL.out _ (List.getElem_mem hpl)
      have HV := Lib.hid (show vecL (L.take (pos + 1)) = ((vecL (L.take pos)).1 + dxL L[pos], (vecL (L.take pos)).2 + dyL L[pos]) by rw [List.take_succ_eq_append_getElem hpl, vecL_snoc])
      have hx : 0 ≤ dxL L[pos] ∧ dxL L[pos] ≤ 2 := by unfold dxL; split <;> (try split) <;> omega
      have hy : 0 ≤ dyL L[pos] ∧ dyL L[pos] ≤ 2 := by unfold dyL; split <;> (try split) <;> omega
      generalize L[pos] = q at *
      generalize (vecL (L.take pos)).1 = vx at *
      generalize (vecL (L.take pos)).2 = vy at *
      obtain ⟨a0, a1⟩ := hx
      obtain ⟨a2, a3⟩ := hy
      obtain ⟨d0, d1, d2, d3⟩ := hvn
      have hnext : ∀ ty, (Instr.next (.pointer (some ⟨w2.heap.size, 0, none⟩)) true ty).run Try.prog wr = _ := fun ty => Lib.run_next_ascii_at wr w2.heap.size s pos ty hit hp (by rw [hel]; exact isL_small hLq)
      rw [hel] at hnext
      have hmu : wr.iterPos w2.heap.size = pos := by simp [World.iterPos, hit]
      have hit1 := Lib.iterAt_heap wr w2.heap.size s pos (pos + 1) hit
      have hv1 := hv.of_block (Lib.iterAt_other wr w2.heap.size w1.heap.size s (pos + 1) (by omega))
      have h01 := (Lib.iterAt_other wr w2.heap.size w.heap.size s (pos + 1) (by omega)).trans h0
      have h11 := (Lib.iterAt_other wr w2.heap.size (w.heap.size + 1) s (pos + 1) (by omega)).trans h1
      have hb1 : Below w.heap.size w (wr.iterAt w2.heap.size s (pos + 1)) := Lib.below_iterAt hb (by omega) s (pos + 1)
      generalize wr.iterAt w2.heap.size s (pos + 1) = W1 at hnext hit1 hv1 h01 h11 hb1
      have hlk := vecLookup hv1 hLq
      obtain ⟨W2, hW2, n0, n1, hb2, hz2⟩ := box2 W1 (.int .i64 (dxL q)) (.int .i64 (dyL q)) 28
      have zi := (Array.getElem?_eq_some_iff.1 hit1).1
      have z0 := (Array.getElem?_eq_some_iff.1 h01).1
      have z1 := (Array.getElem?_eq_some_iff.1 h11).1
      have hit2 := (hb2.block _ zi).trans hit1
      have hv2 := hv1.of_block (hb2.block _ hv1.lt)
      have h02 := (hb2.block _ z0).trans h01
      have h12 := (hb2.block _ z1).trans h11
      obtain ⟨p0, p1, p2, p3⟩ := two_cell h12
      obtain ⟨s1, s2⟩ := two_set h12 (.int .i64 (vx + dxL q)) (.int .i64 (vy + dyL q))
      have hbw := (hb1.trans (hb2.mono hb1.size)).grown s2 (by have := hb1.size; have := hb2.size; omega) (fun j e => by cases e; omega)
      have h03 := (s2.block _ (Array.getElem?_eq_some_iff.1 h02).1 (fun e => by injection e; omega)).trans h02
      have hit3 := (s2.block _ (Array.getElem?_eq_some_iff.1 hit2).1 (fun e => by injection e; omega)).trans hit2
      have hv3 : VecAt _ w1.heap.size := (s2.block _ hv2.lt (fun e => by injection e; omega)).trans hv2
      have hW2' := hW2.symm
      clear hW2 hel hit hv h0 h1 hb hit1 h01 h11 hb1 hit2 hv2 h02 h12 hb2 hz1
      go_wp2
      go_roundw
      case rel => exact ⟨pos + 1, by omega, hit3, hv3, h03, by rw [HV.out]; exact s1, hbw⟩
      case measure =>
        have hmu2 : ∀ W : World, W.heap[w2.heap.size]? = some (.stringIter s (pos + 1)) → W.iterPos w2.heap.size = pos + 1 := fun W h => by simp [World.iterPos, h]
        rw [hmu, hmu2 _ hit3]
        omega
    · obtain rfl : pos = L.length := by have := HLN.out; omega
      have hnext : ∀ ty, (Instr.next (.pointer (some ⟨w2.heap.size, 0, none⟩)) true ty).run Try.prog wr = _ := fun ty => Lib.run_next_end_at wr w2.heap.size s L.length ty hit hp
      have HT := Lib.hid (show L.take L.length = L by rw [List.take_length])
      rw [HT.out] at h1 hvn
      obtain ⟨p0, p1, -, -⟩ := two_cell h1
      obtain ⟨o0, o1, o2, o3⟩ := two_cell h0
      obtain ⟨s1, s2⟩ := two_set h0 (.int .i64 (vecL L).1) (.int .i64 (vecL L).2)
      obtain ⟨t0, t1, -, -⟩ := two_cell s1
      have hbw := hb.grown s2 (by have := hb.size; omega) (fun j e => by cases e; omega)
      clear h0 h1 hz1
      go_wp2
      exact bodyPost_ret (v := .agg #[.int .i64 (vecL L).1, .int .i64 (vecL L).2]) (by simp [results, Try.results51, go_sem, t0, t1]) rfl ⟨rfl, hbw⟩

theorem idxI1 (a b : Value) (w : World) : (Instr.index 28 (.agg #[a, b]) (.int .i64 1)).run Try.prog w = .ok b w := by kernel_rfl
set_option maxHeartbeats 1000000 in
set_option maxRecDepth 100000 in
theorem tpCheckRate (s : ByteArray) (w : World) (hs : Word s) (hy : 0 < (vecL s.data.toList).2) :
    Calls Try.prog 50 #[.string s] w fun e w' => e = .returned (.int .i64 0) ∧ Below w.heap.size w w' := by
  have hr : ∀ W : World, Calls Try.prog 79 #[.string s] W fun e w' => e = .returned (.bool true) ∧ Below W.heap.size W w' := by
    intro W
    have ex := idxI1
    have hg : decide (0 < (vecL s.data.toList).2) = true := by simpa using hy
    go_enter Try.func79, Try.ntmps79
    go_wp2_with fail
    refine (tpVectorOf s _ hs).mono ?_
    rintro e w1 ⟨rfl, hb1⟩
    generalize vecL s.data.toList = v at *
    go_wp2
    go_ret
    exact ⟨rfl, hb1⟩
  go_enter Try.func50, Try.ntmps50
  go_wp2_with fail
  refine (hr _).mono ?_
  rintro e w1 ⟨rfl, hb1⟩
  go_wp2
  go_ret
  exact ⟨rfl, hb1⟩
set_option maxHeartbeats 2000000 in
set_option maxRecDepth 100000 in
theorem tpRate (s : ByteArray) (X Y : Nat) (w : World) (hs : Word s) (hv : vecL s.data.toList = ((X : Int), (Y : Int))) (hY : 0 < Y) (hX2 : X ≤ 1000) (hY2 : Y ≤ 1000) :
    Calls Try.prog 21 #[.string s] w fun e w' => e = .returned (.tuple #[.agg #[.int .i64 (X / X.gcd Y : Nat), .int .i64 (Y / X.gcd Y : Nat)], .int .i64 0]) ∧ Below w.heap.size w w' := by
  obtain ⟨w1, hw1, h0, hb1, hz1⟩ := boxH2 w (.int .i64 0) (.int .i64 0) 52
  have HW1 := Lib.hid hw1
  have HV := Lib.hid hv
  obtain ⟨U, hU⟩ : ∃ U, X / X.gcd Y = U := ⟨_, rfl⟩
  obtain ⟨V, hVV⟩ : ∃ V, Y / X.gcd Y = V := ⟨_, rfl⟩
  rw [hU, hVV]
  have HU := Lib.hid hU
  have HVV := Lib.hid hVV
  clear hw1 hv hU hVV
  go_enter Try.func21, Try.ntmps21
  go_wp2_with fail
  rw [← HW1.out]
  go_wp2_with fail
  refine (tpCheckWord s _ hs).mono ?_
  rintro e w2 ⟨rfl, hb2⟩
  have h2 := (hb2.block _ hz1).trans h0
  have b2 := hb1.trans (hb2.mono hb1.size)
  have hz2 := (Array.getElem?_eq_some_iff.1 h2).1
  clear h0 hb1 hb2 hz1
  go_wp2_with fail
  refine (tpCheckRate s _ hs (by rw [HV.out]; show (0 : Int) < (Y : Int); omega)).mono ?_
  rintro e w3 ⟨rfl, hb3⟩
  have h3 := (hb3.block _ hz2).trans h2
  have b3 := b2.trans (hb3.mono b2.size)
  have hz3 := (Array.getElem?_eq_some_iff.1 h3).1
  clear h2 hb3 hz2 b2
  go_wp2_with fail
  refine (tpVectorOf s _ hs).mono ?_
  rintro e w4 ⟨rfl, hb4⟩
  rw [HV.out]
  have h4 := (hb4.block _ hz3).trans h3
  have b4 := b3.trans (hb4.mono b3.size)
  have hz4 := (Array.getElem?_eq_some_iff.1 h4).1
  clear h3 hb4 hz3 b3
  obtain ⟨w5, hw5, q0, q1, hb5, hz5⟩ := box2 w4 (.int .i64 X) (.int .i64 Y) 28
  have HW5 := Lib.hid hw5
  have h5 := (hb5.block _ hz4).trans h4
  have b5 := b4.trans (hb5.mono b4.size)
  clear hw5 h4 b4
  go_wp2_with fail
  rw [← HW5.out]
  go_wp2_with fail
  refine (tpLowestI X Y _ _ _ rfl rfl (by omega) (by omega) hY).mono ?_
  rintro e w6 ⟨rfl, hb6⟩
  have h6 := (hb6.block _ (Array.getElem?_eq_some_iff.1 h5).1).trans h5
  have b6 := b5.trans (hb6.mono b5.size)
  clear h5 hb6
  rw [HU.out, HVV.out]
  obtain ⟨r0, r1, r2, r3⟩ := two_cell h6
  obtain ⟨s1, s2⟩ := two_set h6 (.int .i64 U) (.int .i64 V)
  obtain ⟨t0, t1, -, -⟩ := two_cell s1
  have hbf := b6.grown s2 b6.size (fun j e => by cases e; omega)
  clear h6
  go_wp2
  exact bodyPost_ret (v := .tuple #[.agg #[.int .i64 U, .int .i64 V], .int .i64 0]) (by simp [results, Try.results21, go_sem, t0, t1]) rfl ⟨rfl, hbf⟩
end Go.Proofs.Ythihjphcjjpjpaa

/- The knots along an edge: Walk of taper. -/
namespace Go.Proofs.Ythihjphcjjpjpaa
open Go.RowKit Go.Shelf Ck
attribute [local go_sem] Oper.semAt_some

/-- The knots along an edge, from its first one on. -/
def walkOf (k : Knot) (l : List (UInt8 × Knot × Knot)) : List Knot := k :: l.map fun q => q.2.2
def walkK (σ : Int) (k : Knot) (L : List UInt8) : List Knot := walkOf k (legsL σ k L)
theorem walkOf_snoc (k : Knot) (l : List (UInt8 × Knot × Knot)) (q : UInt8 × Knot × Knot) : walkOf k (l ++ [q]) = walkOf k l ++ [q.2.2] := by simp [walkOf]
theorem walkOf_length (k : Knot) (l : List (UInt8 × Knot × Knot)) : (walkOf k l).length = l.length + 1 := by simp [walkOf]
theorem walkK_length (σ : Int) (k : Knot) (L : List UInt8) : (walkK σ k L).length = L.length + 1 := by rw [walkK, walkOf_length, legsL_length]
theorem walkK_at (σ : Int) : ∀ (L : List UInt8) (k : Knot) (i : Nat) (h : i < (walkK σ k L).length), (walkK σ k L)[i] = posK σ k (L.take i)
  | [], k, i, h => by
    have : i = 0 := by rw [walkK_length] at h; simpa using h
    subst this
    rfl
  | c :: r, k, 0, h => rfl
  | c :: r, k, i + 1, h => by
    have hl : i < (walkK σ (stepK σ k c) r).length := by rw [walkK_length] at h ⊢; simp at h; omega
    have ih := walkK_at σ r (stepK σ k c) i hl
    have e : walkK σ k (c :: r) = k :: walkK σ (stepK σ k c) r := by simp [walkK, walkOf, legsL]
    simp only [e, List.getElem_cons_succ]
    rw [ih]
    rfl
def WalkPost (l : List Knot) (w : World) (e : Ending) (w' : World) : Prop :=
  ∃ v, e = .returned (.tuple #[v, .int .i64 0]) ∧ w'.ownsRow w.heap.size 23 2 v l.length (kcellsL l) ∧ Below w.heap.size w w'
theorem krow_one (w : World) (base : Nat) (hb : base ≤ w.heap.size) (t : TypeId) (u v : Value) : (w.alloc (.cells #[u, v] t)).ownsRow base t 2 (.slice (some ⟨w.heap.size, 0, none⟩) 1 1) 1 [u, v] :=
  ⟨rfl, .inr ⟨w.heap.size, 1, #[u, v], rfl, hb, heap_alloc_new _ _, Nat.le_refl _, by decide, rfl, rfl⟩⟩
/-- A row of knots beside the box of a knot that another function keeps: the row lies below block B, or has room for two. -/
def KRow (W : World) (B n₀ : Nat) (v : Value) (k : Nat) (xs : List Value) : Prop := W.ownsRow n₀ 23 2 v k xs ∧ (k ≤ 1 → ∀ g, v.ownBlock = some g → g < B)
theorem KRow.alloc {W : World} {B n₀ : Nat} {v : Value} {k : Nat} {xs : List Value} (h : KRow W B n₀ v k xs) (o : Obj) : KRow (W.alloc o) B n₀ v k xs := ⟨h.1.alloc o, h.2⟩
theorem bides_krow {β : Type} {B Bo n₀ B1 : Nat} {e t : TypeId} (k : β → Nat) (f : β → List Value) (hB : Bo < B) (hB1 : B1 ≤ B) : Bides B e (fun (s : β) W => ∃ v, Boxed W Bo t v ∧ KRow W B1 n₀ v (k s) (f s)) := by
  rintro s W W' r ⟨v, hv, hr, hk1⟩ hg hrow
  refine ⟨v, (hg.block Bo (Array.getElem?_eq_some_iff.1 hv).1 (fun e' => by have := (hrow Bo e'.symm).1; omega)).trans hv, hr.kept hg ?_, hk1⟩
  rcases hr.2 with ⟨rfl, _⟩ | ⟨g, cap, cur, rfl, _, hgb, h1, _, h3, _⟩
  · exact .inl rfl
  · refine .inr fun e' => ?_
    obtain ⟨hBg, o, ho, hk⟩ := hrow g (by simpa [Value.ownBlock] using e'.symm)
    rw [hgb] at ho
    cases ho
    rcases hk with hk | ⟨cs, f', hk, hk2⟩
    · cases hk
    · injection hk with h4
      subst h4
      have : ¬ k s ≤ 1 := fun h => by have := hk1 h g rfl; omega
      omega
theorem KT.appendedK {W w1 : World} {Bo B1 n₀ : Nat} {k : Nat} {v : Value} {xs : List Value} {tmp : Obj} (hB : Bo < B1) (hrow : KRow W B1 n₀ v k xs) (hgrow : (W.alloc tmp).grownBy w1 v.ownBlock) (v' : Value) : KT B1 23 W (w1.setCell ⟨Bo, 0, none⟩ v') := by
  refine ⟨?_, fun b o hb ho hk => ?_⟩
  · have := hgrow.size; simp at this ⊢; omega
  · have hlt := (Array.getElem?_eq_some_iff.1 ho).1
    have hnb : some b ≠ v.ownBlock := by
      intro e'
      rcases hrow.1.2 with ⟨rfl, _⟩ | ⟨g, cap, cur, rfl, _, hgb, h1, _, h3, _⟩
      · simp [Value.ownBlock] at e'
      · obtain rfl : b = g := by simpa [Value.ownBlock] using e'
        rw [hgb] at ho
        cases ho
        rcases hk with hk | ⟨cs, t, f, hk, hk2⟩
        · cases hk
        · injection hk with h4 h2
          subst h4
          rcases hk2 with hk2 | ⟨_, hk2⟩
          · exact hk2 h2.symm
          · have : ¬ k ≤ 1 := fun h => by have := hrow.2 h b rfl; omega
            omega
    rw [Below.heap_setCell _ _ _ b (by show b ≠ Bo; omega), hgrow.block b (by simp; omega) hnb, Below.heap_alloc _ _ _ hlt]
    exact ho

set_option maxHeartbeats 4000000 in
set_option maxRecDepth 100000 in
theorem tpWalk (x y : Int) (s : ByteArray) (c : Nat) (o : Bool) (w : World) (h : EdgeOk x y s c) :
    Calls Try.prog 22 #[.agg #[.int .i64 x, .int .i64 y], .string s, .int .i64 c, .bool o] w (WalkPost (walkK (sg o) ⟨x, y⟩ (Lib.repeatL s.data.toList c)) w) := by
  have HE := Lib.hid h
  have HL := Lib.hid (h.legs o)
  have HLEN := Lib.hid (show (legsL (sg o) ⟨x, y⟩ (Lib.repeatL s.data.toList c)).length ≤ 256 by rw [legsL_length, rep_len]; exact h.2.2.1)
  obtain ⟨hs, h1, h2, x1, x2, y1, y2, hp⟩ := h
  have HS := Lib.hid hs
  clear hs h1 hp
  refine (callsIn_wide (n := 6)).1 (callsIn_of_wp_marks Try.func22 rfl trivial (wpIn_wide.2 ?_) rfl)
  simp only [Try.ntmps22, List.size_toArray, List.length_cons, List.length_nil, Nat.reduceAdd, Nat.reduceSub, Array.replicate_succ, Array.replicate_zero, List.push_toArray, List.append_toArray, List.nil_append, List.cons_append]
  obtain ⟨w1, hw1, e0, e1, hb1, hz1⟩ := box2 w (.int .i64 x) (.int .i64 y) 23
  have HW1 := Lib.hid hw1
  clear hw1
  go_wp2_with fail
  rw [← HW1.out]
  refine (tpCheckEdge x y s c o _ HE.out).mono ?_
  rintro e w2 ⟨rfl, hb2⟩
  have f0 := (hb2.cell (p := ⟨w.heap.size, 0, none⟩) hz1).trans e0
  have f1 := (hb2.cell (p := ⟨w.heap.size, 1, none⟩) hz1).trans e1
  have hbw := hb1.trans (hb2.mono hb1.size)
  have hz2 := hb2.size
  have hwz := hbw.size
  obtain ⟨w6, hw6, hb3, hsz6, bO, hrow0⟩ : ∃ w6, (w2.alloc (.cells #[.int .i64 x, .int .i64 y] 23)).alloc (.cells #[.slice (some ⟨w2.heap.size, 0, none⟩) 1 1] 59) = w6 ∧ Below w2.heap.size w2 w6 ∧ w6.heap.size = w2.heap.size + 2 ∧ Boxed w6 (w2.heap.size + 1) 59 (.slice (some ⟨w2.heap.size, 0, none⟩) 1 1) ∧ w6.ownsRow w.heap.size 23 2 (.slice (some ⟨w2.heap.size, 0, none⟩) 1 1) 1 [.int .i64 x, .int .i64 y] := by
    refine ⟨_, rfl, ((Below.refl _ _).alloc (Nat.le_refl _) _).alloc (by simp) _, by simp, ?_, (krow_one w2 w.heap.size hwz _ _ _).alloc _⟩
    have := Boxed.new (w2.alloc (.cells #[.int .i64 x, .int .i64 y] 23)) 59 (.slice (some ⟨w2.heap.size, 0, none⟩) 1 1)
    rwa [World.size_alloc] at this
  have g0 := (hb3.cell (p := ⟨w.heap.size, 0, none⟩) (by show w.heap.size < _; omega)).trans f0
  have g1 := (hb3.cell (p := ⟨w.heap.size, 1, none⟩) (by show w.heap.size < _; omega)).trans f1
  have HSZ := Lib.hid hsz6
  have HW6 := Lib.hid hw6
  have F0 : ((w2.alloc (.cells #[.int .i64 x, .int .i64 y] 23)).alloc (.cells #[.slice (some ⟨w2.heap.size, 0, none⟩) 1 1] 59)).cell? ⟨w.heap.size, 0, none⟩ = some (.int .i64 x) := by rw [hw6]; exact g0
  have F1 : ((w2.alloc (.cells #[.int .i64 x, .int .i64 y] 23)).alloc (.cells #[.slice (some ⟨w2.heap.size, 0, none⟩) 1 1] 59)).cell? ⟨w.heap.size, 1, none⟩ = some (.int .i64 y) := by rw [hw6]; exact g1
  clear hw6 e0 e1 hsz6
  go_wp2_with fail
  rw [HW6.out]
  clear f0 f1 F0 F1
  refine (tpLegs x y s c o _).mono ?_
  rintro e w7 ⟨rfl, hw7⟩
  obtain ⟨W9, hW9, hb9, hz9, q0, q1, q2, q3⟩ := legs_boxes w6 x y c s o
  rw [← hW9] at hw7
  have hw7' := hw7.symm
  subst hw7'
  clear hW9
  have HZ9 := Lib.hid hz9
  have hz6 := HSZ.out
  have bO9 : Boxed W9 (w2.heap.size + 1) 59 (.slice (some ⟨w2.heap.size, 0, none⟩) 1 1) := (hb9.block _ (by omega)).trans bO
  have hrow9 : KRow W9 w6.heap.size w.heap.size (.slice (some ⟨w2.heap.size, 0, none⟩) 1 1) 1 [.int .i64 x, .int .i64 y] :=
    ⟨hrow0.kept (row := none) ⟨hb9.os, hb9.tape, hb9.output, hb9.size, fun i hi _ => hb9.block i hi⟩ (.inr (by simp [Value.ownBlock])), fun _ g hg => by simp [Value.ownBlock] at hg; omega⟩
  have bw6 := hbw.trans (hb3.mono hbw.size)
  have bw9 := bw6.trans (hb9.mono bw6.size)
  obtain ⟨ib, hib, hi0, hi1, hi2⟩ := info_parts Try.info23
  have HB := Lib.hid hib
  have HB0 := Lib.hid hi0
  have HB1 := Lib.hid hi1
  have HB2 := Lib.hid hi2
  clear hz9 hw7 hz6 hib hi0 hi1 hi2 hrow0
  go_wp2_with fail
  have hvis := legs_visits w6.heap.size 4 w6.heap.size (w6.heap.size + 1) (w6.heap.size + 2) (w6.heap.size + 3) 23 (by omega) x y s c o W9 (by decide) HS.out h2 (by omega) (by omega) (by omega) (by omega) (by omega) (by rw [HZ9.out]; omega) q0 q1 q2 q3
  refine (wpIn_wide (n := 5)).1 ?_
  generalize hA0 : (Act.mk _ _) = A0
  refine wpIn_visits (n := 5) (by omega) (gf := 62) (lb := #[.pointer (some ⟨w6.heap.size, 0, none⟩), .pointer (some ⟨w6.heap.size + 1, 0, none⟩), .pointer (some ⟨w6.heap.size + 2, 0, none⟩), .pointer (some ⟨w6.heap.size + 3, 0, none⟩)]) (by rw [← hA0]; rfl) ?eg hvis KT.trans (KT.put (w := W9)) (fun _ => rfl)
    (fun pre W => (∃ v, Boxed W (w2.heap.size + 1) 59 v ∧ KRow W w6.heap.size w.heap.size v (walkOf ⟨x, y⟩ pre).length (kcellsL (walkOf ⟨x, y⟩ pre))) ∧ (Below w.heap.size w W ∧ W9.heap.size ≤ W.heap.size))
    (Bides.and (bides_krow (fun pre => (walkOf ⟨x, y⟩ pre).length) (fun pre => kcellsL (walkOf ⟨x, y⟩ pre)) (by rw [HZ9.out, HSZ.out]; omega) (by rw [HZ9.out]; omega)) (Bides.and (bides_below bw9.size (Nat.le_refl _)) bides_size)) ⟨⟨_, bO9, hrow9⟩, bw9, Nat.le_refl _⟩ ?round ?done
  case eg => exact fun _ _ => by kernel_rfl
  case round =>
    rintro l pre q W hz ⟨⟨v, hv, hrow⟩, hbW, hsW⟩ ⟨r, hr⟩
    obtain ⟨-, -, -, hq4⟩ := HL.out q (by rw [hr]; simp)
    have hpre : (walkOf ⟨x, y⟩ pre).length ≤ 257 := by
      have h1 := HLEN.out
      rw [hr] at h1
      rw [walkOf_length]
      simp at h1
      omega
    obtain ⟨⟨a3, a4⟩, ⟨b3, b4⟩, -⟩ := hq4
    have HSN := Lib.hid (walkOf_snoc ⟨x, y⟩ pre q)
    have HWL := Lib.hid (walkOf_length ⟨x, y⟩ pre)
    have HWL2 := Lib.hid (walkOf_length ⟨x, y⟩ (pre ++ [q]))
    subst hA0
    dsimp only [legArr]
    gi_wp2
    have hb0 : Below W.heap.size W (W.alloc (.cells #[.int .i32 (q.1.toNat : Int), .int .i64 q.2.1.x, .int .i64 q.2.1.y, .int .i64 q.2.2.x, .int .i64 q.2.2.y] 82)) := (Below.refl _ _).alloc (Nat.le_refl _) _
    refine ⟨Book.below hz hb0, KT.of_below hb0, fun Wb hg hobj hbk => ?_⟩
    have hbx : Wb.heap[W.heap.size]? = some (.cells #[.int .i32 (q.1.toNat : Int), .int .i64 q.2.1.x, .int .i64 q.2.1.y, .int .i64 q.2.2.x, .int .i64 q.2.2.y] 82 (0, 0)) :=
      (hg.block _ (by simp) (fun e => by injection e; omega)).trans (heap_alloc_new _ _)
    obtain ⟨r0, r1, r2, r3, r4, -⟩ := five_of_block hbx
    obtain ⟨o1, ho1, ho2⟩ := hobj
    have hz9 := HZ9.out
    have hz6 := HSZ.out
    have hsb : W9.heap.size + 2 ≤ Wb.heap.size := by have := hg.size; simp at this; omega
    have hbb : Below w.heap.size w Wb := (hbW.trans (hb0.mono hbW.size)).grown hg (by have := hbW.size; simp; omega) (fun k e => by cases e; have := bw9.size; omega)
    have hI1 := bides_krow (t := 59) (e := 23) (n₀ := w.heap.size) (B1 := w6.heap.size) (fun pre => (walkOf ⟨x, y⟩ pre).length) (fun pre => kcellsL (walkOf ⟨x, y⟩ pre)) (show w2.heap.size + 1 < W9.heap.size by omega) (show w6.heap.size ≤ W9.heap.size by omega) pre _ Wb (some (W9.heap.size + 1)) ⟨v, hv.alloc _, hrow.alloc _⟩ hg (fun b e => by cases e; exact ⟨by omega, o1, ho1, .inl ho2⟩)
    obtain ⟨v, hvB, hrowB⟩ := hI1
    have hcB := hvB.cell
    have HBK := Lib.hid hbk
    have hwb : w.heap.size ≤ Wb.heap.size := by omega
    have HRB := Lib.hid hrowB
    have hrowP := hrowB.1
    clear hv hrow hrowB hbk ho1 ho2 hbx
    generalize hm : q.2.2 = m at *
    generalize walkOf ⟨x, y⟩ pre = wl at *
    gi_wp2_with (gi_at_builtin; refine wpListIn_append_own _ rfl _ _ 59 rfl w.heap.size 23 ib (.agg #[.int .i64 0, .int .i64 0]) 2 16 Try.underlying59 HB.out HB0.out HB1.out HB2.out rfl (by decide) _ _ _ rfl (hrowP.alloc _) ⟨Wb.heap.size, 0, none⟩ 1 1 [.int .i64 m.x, .int .i64 m.y] rfl rfl (two_new _ _ _ _) (by intro u hu; simp at hu; rcases hu with rfl | rfl <;> rfl) (by unfold maxLen; omega) (by omega) (by simp; omega) ?_; intro v' w1' hown' hgrow _; obtain ⟨g', cap', rfl⟩ := ownsRow_succ hown'; obtain ⟨hv1, hv2, hr2, hk2, hb2'⟩ := hvB.appended (by decide) hrowP hwb (by omega) hown' hgrow; have hkt := KT.appendedK (B1 := w6.heap.size) (Bo := w2.heap.size + 1) (by omega) HRB.out hgrow (.slice (some ⟨g', 0, none⟩) (wl.length + 1) cap'); have hc1 := hv1.cell; have hf1 := hv1.frozen)
    exact ⟨Book.others hk2 HBK.out.1 HBK.out.2, hkt, ⟨_, hv2, by rw [HSN.out, kcellsL_snoc]; simpa using hr2, fun h => by rw [HWL2.out] at h; simp at h⟩, hbb.trans hb2', by have := hb2'.size; omega⟩
  case done =>
    rintro D ys W hD hS ⟨⟨v, hv, hrow, -⟩, hbW, hsW⟩ hK
    subst hA0
    subst hS
    have hc := hv.cell
    go_wp2
    refine ⟨by simp, .inl ⟨_, _, rfl, run_takeDeferred hK, ?_⟩⟩
    exact ⟨_, results_tmp2 rfl _ _ _, v, rfl, ownsRow_putObj hrow _ hK rfl, hbW.trans (belowK_b (w := W9) (n₀ := w.heap.size) bw9.size W D _ _ hD hK rfl rfl)⟩
end Go.Proofs.Ythihjphcjjpjpaa

/- Slices that the call owns, or that read so; Union. -/
namespace Go.Proofs.Ythihjphcjjpjpaa
open Go.RowKit Ck

/-- The slice is of the call's own, or reads so. -/
def OKS (w : World) (a : Option Addr) (c : Nat) (l : List Bar) : Prop := l.length ≤ c ∧ c ≤ maxLen ∧ (a = none → c = 0) ∧ RB w w.heap.size a l
theorem OKS.below {w w' : World} {a : Option Addr} {c : Nat} {l : List Bar} (h : OKS w a c l) (hb : Below w.heap.size w w') : OKS w' a c l := ⟨h.1, h.2.1, h.2.2.1, (h.2.2.2.below hb).more hb.size⟩
theorem own_oks {w : World} {base : Nat} {v : Value} {l : List Bar} (h : w.ownsRow base 48 3 v l.length (bcellsL l)) : ∃ a c, v = .slice a l.length c ∧ OKS w a c l := by
  rcases h.2 with ⟨rfl, hz⟩ | ⟨g, cap, cur, rfl, _, _, h1, h2, _⟩
  · have : l = [] := List.eq_nil_of_length_eq_zero hz
    subst this
    exact ⟨none, 0, rfl, Nat.zero_le _, by unfold maxLen; omega, fun _ => rfl, RB.nil _ _ _⟩
  · exact ⟨_, _, rfl, h1, h2, (fun e => by cases e), RB.of_own h⟩
def SlicePost (l : List Bar) (w : World) (e : Ending) (w' : World) : Prop := ∃ a c, e = .returned (.slice a l.length c) ∧ OKS w' a c l ∧ Below w.heap.size w w'
def PairPost (l : List Bar) (w : World) (e : Ending) (w' : World) : Prop := ∃ a c, e = .returned (.tuple #[.slice a l.length c, .int .i64 0]) ∧ OKS w' a c l ∧ Below w.heap.size w w'
theorem unionS (A A' : Option Addr) (c c' : Nat) (l l' u : List Bar) (w : World) (hu : mergeU l l' = u) (hl : l.length ≤ 2000) (hl' : l'.length ≤ 2000) (hN : Net l) (hN' : Net l') (h : OKS w A c l) (h' : OKS w A' c' l') :
    Calls Try.prog 14 #[.slice A l.length c, .slice A' l'.length c'] w (PairPost u w) :=
  (netUnion A A' c c' l l' w (by omega) (by omega) h.1 h.2.1 h'.1 h'.2.1 hN hN' h.2.2.2 h'.2.2.2 (by have := mergeU_length l l'; omega)).mono fun e w' ⟨v, he, hrow, hb⟩ => by
    subst hu
    obtain ⟨a, c', rfl, hok⟩ := own_oks hrow
    exact ⟨a, c', he, hok, hb⟩
end Go.Proofs.Ythihjphcjjpjpaa

/- Minus, of slices that the call owns or that read so. -/
namespace Go.Proofs.Ythihjphcjjpjpaa
open Go.RowKit Ck

theorem minusS (A A' : Option Addr) (c c' : Nat) (l l' u : List Bar) (w : World) (hu : mergeM l l' = u) (hl : l.length ≤ 2000) (hl' : l'.length ≤ 2000) (hN : Net l) (hN' : Net l') (h : OKS w A c l) (h' : OKS w A' c' l') :
    Calls Try.prog 13 #[.slice A l.length c, .slice A' l'.length c'] w (PairPost u w) :=
  (netMinus A A' c c' l l' w (by omega) (by omega) h.1 h.2.1 h'.1 h'.2.1 hN hN' h.2.2.2 h'.2.2.2).mono fun e w' ⟨v, he, hrow, hb⟩ => by
    subst hu
    obtain ⟨a, c', rfl, hok⟩ := own_oks hrow
    exact ⟨a, c', he, hok, hb⟩
end Go.Proofs.Ythihjphcjjpjpaa

/- Equality of counts. -/
namespace Go.Proofs.Ythihjphcjjpjpaa
open Go.RowKit

theorem eqCounts (a b c d e a' b' c' d' e' : Int) (r : Bool) (hr : decide (a = a' ∧ b = b' ∧ c = c' ∧ d = d' ∧ e = e') = r) (w : World) :
    (Op.equalIn 10000 66 (.agg #[.int .i64 a, .int .i64 b, .int .i64 c, .int .i64 d, .int .i64 e]) (.agg #[.int .i64 a', .int .i64 b', .int .i64 c', .int .i64 d', .int .i64 e'])).run Try.prog w = .ok r w := by
  have u3 := Try.underlying3
  have a3 := Try.isAgg3
  have z3 := Try.sizeOf3
  have hS : Try.prog.underlying 66 = some (.struct (Try.prog.fieldsOf 66)) := by kernel_rfl
  have hp : Try.prog.stoodInHeld 66 = false := by kernel_rfl
  subst hr
  rw [show (10000 : Nat) = 9999 + 1 from rfl, run_equalIn_struct w 9999 66 _ _ hS hp]
  simp only [Program.fieldsOf, Try.underlying66]
  go_simp
  by_cases h1 : a = a' <;> by_cases h2 : b = b' <;> by_cases h3 : c = c' <;> by_cases h4 : d = d' <;> by_cases h5 : e = e' <;> simp [h1, h2, h3, h4, h5]
theorem guardCounts : Try.prog.eqGuardType Try.prog.depth 66 = false := by kernel_rfl
end Go.Proofs.Ythihjphcjjpjpaa

/- A sheet is a net: plain mathematics. -/
namespace Go.Proofs.Ythihjphcjjpjpaa
open Ck

theorem cell_mem {x y : Int} {r c : Nat} {b : Bar} (h : b ∈ cellL x y r c) :
    (b.y = y + (r : Int)) ∧ ((r % 2 = 1 ∧ b.x = x + 2 * (c : Int) + 1 ∧ (b.s = -1 ∨ b.s = 1)) ∨ (r % 2 = 0 ∧ (b.x = x + 2 * (c : Int) ∧ b.s = 1 ∨ b.x = x + 2 * (c : Int) + 2 ∧ b.s = -1))) := by
  unfold cellL cel0 cel1 oddB at h
  by_cases ho : r % 2 = 1
  · simp [ho] at h
    rcases h with rfl | rfl
    · exact ⟨rfl, .inl ⟨ho, rfl, .inl rfl⟩⟩
    · exact ⟨rfl, .inl ⟨ho, rfl, .inr rfl⟩⟩
  · have h0 : r % 2 = 0 := by omega
    simp [h0] at h
    rcases h with rfl | rfl
    · exact ⟨rfl, .inr ⟨h0, .inl ⟨rfl, rfl⟩⟩⟩
    · exact ⟨rfl, .inr ⟨h0, .inr ⟨rfl, rfl⟩⟩⟩
theorem cell_pair (x y : Int) (r c : Nat) : (cellL x y r c).Pairwise Blt := by
  unfold cellL cel0 cel1
  cases oddB r <;> simp [Blt] <;> omega
theorem row_mem {x y : Int} {r k : Nat} {b : Bar} (h : b ∈ rowL x y r k) : ∃ c, c < k ∧ b ∈ cellL x y r c := by
  obtain ⟨c, hc, hb⟩ := List.mem_flatMap.1 h
  exact ⟨c, List.mem_range.1 hc, hb⟩
theorem row_pair (x y : Int) (r : Nat) : ∀ k, (rowL x y r k).Pairwise Blt
  | 0 => by simp [rowL]
  | k + 1 => by
    rw [rowL_succ]
    refine List.pairwise_append.2 ⟨row_pair x y r k, cell_pair x y r k, fun a ha b hb => ?_⟩
    obtain ⟨c, hc, ha⟩ := row_mem ha
    obtain ⟨h1, h2⟩ := cell_mem ha
    obtain ⟨k1, k2⟩ := cell_mem hb
    unfold Blt
    omega
theorem sheet_mem {x y : Int} {cols r : Nat} {b : Bar} (h : b ∈ sheetP x y cols r) : ∃ q, q < r ∧ ∃ c, c < cols ∧ b ∈ cellL x y q c := by
  obtain ⟨q, hq, hb⟩ := List.mem_flatMap.1 h
  exact ⟨q, List.mem_range.1 hq, row_mem hb⟩
theorem sheet_pair (x y : Int) (cols : Nat) : ∀ r, (sheetP x y cols r).Pairwise Blt
  | 0 => by simp [sheetP]
  | r + 1 => by
    rw [sheetP_succ]
    refine List.pairwise_append.2 ⟨sheet_pair x y cols r, row_pair x y r cols, fun a ha b hb => ?_⟩
    obtain ⟨q, hq, c, hc, ha⟩ := sheet_mem ha
    obtain ⟨c', hc', hb⟩ := row_mem hb
    have h1 := (cell_mem ha).1
    have h2 := (cell_mem hb).1
    unfold Blt
    omega
theorem sheet_net {x y : Int} {cols rows : Nat} (hk : okKnot ⟨x, y⟩) (hx : inPlace (x + 2 * (cols : Int))) (hy : inPlace (y + (rows : Int))) : Net (sheetP x y cols rows) := by
  refine ⟨fun b hb => ?_, sheet_pair x y cols rows⟩
  obtain ⟨q, hq, c, hc, hb⟩ := sheet_mem hb
  obtain ⟨h1, h2⟩ := cell_mem hb
  obtain ⟨⟨k1, k2⟩, ⟨k3, k4⟩, k5⟩ := hk
  unfold inPlace at hx hy
  simp only [okBar, okKnot, Bar.lo, Bar.hi, inPlace]
  simp only at k1 k2 k3 k4 k5
  omega
end Go.Proofs.Ythihjphcjjpjpaa

/- The fixed example of the statements on edges: otterEdge. -/
namespace Go.Proofs.Ythihjphcjjpjpaa
open Go.RowKit Go.Shelf Ck

theorem barsS (x y : Int) (s : ByteArray) (c : Nat) (o : Bool) (w : World) (h : EdgeOk x y s c) :
    Calls Try.prog 10 #[.agg #[.int .i64 x, .int .i64 y], .string s, .int .i64 c, .bool o] w (PairPost (barsP (sg o) ⟨x, y⟩ (Lib.repeatL s.data.toList c)) w) :=
  (tpBars x y s c o w h).mono fun e w' ⟨v, he, hrow, hb⟩ => by
    obtain ⟨a, c', rfl, hok⟩ := own_oks hrow
    exact ⟨a, c', he, hok, hb⟩
theorem sheetS' (x y : Int) (c r : Nat) (w : World) (hE : sheetE x y c r = 0) :
    Calls Try.prog 9 #[.agg #[.int .i64 x, .int .i64 y], .int .i64 c, .int .i64 r] w (PairPost (sheetP x y c r) w) :=
  (netSheet x y c r w hE).mono fun e w' ⟨v, he, hrow, hb⟩ => by
    obtain ⟨a, c', rfl, hok⟩ := own_oks hrow
    exact ⟨a, c', he, hok, hb⟩
theorem edge_net {x y : Int} {s : ByteArray} {c : Nat} (h : EdgeOk x y s c) (o : Bool) : Net (barsP (sg o) ⟨x, y⟩ (Lib.repeatL s.data.toList c)) := by
  obtain ⟨hs, h1, h2, x1, x2, y1, y2, hp⟩ := h
  refine ⟨fun b hb => ?_, barsP_lt _ _⟩
  obtain ⟨n1, n2, n3, n4⟩ := barsP_near (sg_or o) hb
  obtain ⟨g1, g2⟩ := barsP_ge hb
  have hl : ((Lib.repeatL s.data.toList c).length : Int) ≤ 256 := by rw [rep_len]; omega
  have he := n4 hp (rep_letters hs c)
  simp only at n1 n2 n3 g1
  have hs' : b.s = 1 ∨ b.s = -1 := by rw [g2]; exact sg_or o
  simp only [okBar, okKnot, Bar.lo, Bar.hi, inPlace]
  rcases hs' with h | h <;> rw [h] <;> omega
def nbb : ByteArray := ⟨#[78, 66, 66]⟩
theorem nbb_ok : EdgeOk 0 0 nbb 2 := ⟨⟨by intro c hc; simp [nbb] at hc; rcases hc with rfl | rfl <;> simp [isL], by decide, by decide⟩, by decide, by decide, by decide, by decide, by decide, by decide, by decide⟩
theorem nbb_runs : endsR (Lib.repeatL nbb.data.toList 2) = 2 := by decide +kernel
theorem nbb_bars : barsN (Lib.repeatL nbb.data.toList 2) = 4 := by decide +kernel
theorem four_facts : ∃ l, barsP (sg true) ⟨0, 0⟩ (Lib.repeatL nbb.data.toList 2) = l ∧ l.length = 4 ∧ PartsIs l 2 ∧ nK l = 6 ∧ nM l = 0 ∧ Net l := by
  have hp := barsP_parts (sg_or true) (k := ⟨0, 0⟩) (rep_letters nbb_ok.1 2)
  have hm := barsP_meshes (σ := sg true) (Lib.repeatL nbb.data.toList 2) ⟨0, 0⟩
  have hn := edge_net nbb_ok true
  have hl := barsP_length (σ := sg true) (Lib.repeatL nbb.data.toList 2) ⟨0, 0⟩
  rw [nbb_runs, nbb_bars] at hp
  rw [nbb_bars] at hl
  generalize barsP (sg true) ⟨0, 0⟩ (Lib.repeatL nbb.data.toList 2) = l at *
  exact ⟨l, rfl, hl, hp.1, hp.2, hm, hn⟩
theorem sheet_facts : ∃ S, S = sheetP (-2) (-2) 4 12 ∧ Net S ∧ S.length ≤ 200 ∧ (⟨1, 3, 1⟩ : Bar) ∈ S := by
  refine ⟨_, rfl, sheet_net (x := -2) (y := -2) (cols := 4) (rows := 12) ((knotE_ok (-2) (-2)).1 (by decide)) (by unfold inPlace; omega) (by unfold inPlace; omega), by rw [sheetP_length]; decide, ?_⟩
  refine List.mem_flatMap.2 ⟨5, by decide, List.mem_flatMap.2 ⟨1, by decide, ?_⟩⟩
  decide
theorem nbbBars (l : List Bar) (hl : barsP (sg true) ⟨0, 0⟩ (Lib.repeatL nbb.data.toList 2) = l) (w : World) :
    Calls Try.prog 10 #[.agg #[.int .i64 0, .int .i64 0], .string nbb, .int .i64 ((2 : Nat) : Int), .bool true] w (PairPost l w) := by
  have h := barsS 0 0 nbb 2 true w nbb_ok
  rw [hl] at h
  exact h
theorem two_cast : ((2 : Nat) : Int) = 2 := rfl
theorem nbbBars' (l : List Bar) (hl : barsP (sg true) ⟨0, 0⟩ (Lib.repeatL nbb.data.toList 2) = l) (w : World) :
    Calls Try.prog 10 #[.agg #[.int .i64 0, .int .i64 0], .string ⟨#[78, 66, 66]⟩, .int .i64 2, .bool true] w (PairPost l w) := by
  have h := nbbBars l hl w
  rw [two_cast] at h
  exact h
theorem sheetO4 (S : List Bar) (hS : S = sheetP (-2) (-2) 4 12) (w : World) : Calls Try.prog 9 #[.agg #[.int .i64 (-2), .int .i64 (-2)], .int .i64 4, .int .i64 12] w (PairPost S w) := by
  have h := sheetS' (-2) (-2) 4 12 w (by decide)
  rw [← hS] at h
  exact h
theorem hasO4 (A : Option Addr) (c : Nat) (S : List Bar) (w : World) (h : OKS w A c S) (hl : S.length ≤ 200) (hN : Net S) (hm : (⟨1, 3, 1⟩ : Bar) ∈ S) :
    Calls Try.prog 17 #[.slice A S.length c, .agg #[.int .i64 1, .int .i64 3, .int .i64 1]] w fun e w' => e = .returned (.tuple #[.bool true, .int .i64 0]) ∧ Below w.heap.size w w' := by
  have h' := netHas A c S ⟨1, 3, 1⟩ w (by omega) h.1 h.2.1 hN ((barE_iff _).2 (hN.1 _ hm)) h.2.2.2
  rw [decide_eq_true hm] at h'
  exact h'
def OtterYes : Prop := ∀ w : World, Calls Try.prog 6 #[] w fun e w' => e = .returned (.bool true) ∧ Below w.heap.size w w'
set_option maxHeartbeats 4000000 in
set_option maxRecDepth 100000 in
theorem otterEdge : OtterYes := by
  intro w
  have ex0 : ∀ (a b : Value) (w : World), (Instr.extract (.tuple #[a, b]) 0).run Try.prog w = .ok a w := fun _ _ _ => by kernel_rfl
  have ex1 : ∀ (a b : Value) (w : World), (Instr.extract (.tuple #[a, b]) 1).run Try.prog w = .ok b w := fun _ _ _ => by kernel_rfl
  obtain ⟨l, hl, hlen, hp, hk, hm, hN⟩ := four_facts
  have HL := Lib.hid hl
  have HP := Lib.hid hp
  have HLE := Lib.hid hlen
  have HKK := Lib.hid hk
  have HMM := Lib.hid hm
  clear hlen hk hm
  have HN := Lib.hid hN
  obtain ⟨S, hSS, hSN, hSl, hSm⟩ := sheet_facts
  have HS := Lib.hid hSS
  have HSN := Lib.hid hSN
  have HSM := Lib.hid hSm
  clear hl hp hN hSS hSN hSm
  go_enter Try.func6, Try.ntmps6
  go_wp2_with fail
  refine (nbbBars' l HL.out _).mono ?_
  rintro e w1 ⟨a1, c1, rfl, hk1, hb1⟩
  have K1 := Lib.hid hk1
  clear hk1
  go_wp2_with fail
  refine (netCount a1 c1 l _ (by have := HLE.out; omega) K1.out.1 K1.out.2.1 HN.out K1.out.2.2.2).mono ?_
  rintro e w2 ⟨p, hpp, rfl, hb2⟩
  obtain rfl : p = 2 := hpp.det HP.out
  rw [HLE.out, HKK.out, HMM.out]
  obtain ⟨wx, hwx, kx, bx, zx⟩ : ∃ w1, w1 = w2.alloc (.cells #[.int .i64 6, .int .i64 4, .int .i64 0, .int .i64 2, .int .i64 0] 66) ∧ w1.heap[w2.heap.size]? = some (.cells #[.int .i64 6, .int .i64 4, .int .i64 0, .int .i64 2, .int .i64 0] 66 (0, 0)) ∧ Below w2.heap.size w2 w1 ∧ w2.heap.size < w1.heap.size :=
    ⟨_, rfl, heap_alloc_new _ _, (Below.refl _ _).alloc (Nat.le_refl _) _, by simp⟩
  have b2 := hb1.trans (hb2.mono hb1.size)
  have b3 := b2.trans (bx.mono b2.size)
  have HWX := Lib.hid hwx
  have KX := Lib.hid kx
  clear hwx kx
  simp only [show ((6 : Nat) : Int) = 6 from rfl, show ((4 : Nat) : Int) = 4 from rfl, show ((0 : Nat) : Int) = 0 from rfl, show ((2 : Nat) : Int) = 2 from rfl, show (4 : Int) - 6 + 2 - 0 = 0 from rfl]
  go_wp2_with fail
  rw [← HWX.out]
  refine (sheetO4 S HS.out _).mono ?_
  rintro e w4 ⟨a4, c4, rfl, hk4, hb4⟩
  have K4 := Lib.hid hk4
  clear hk4
  go_wp2_with fail
  refine (hasO4 a4 c4 S _ K4.out (by omega) HSN.out HSM.out).mono ?_
  rintro e w5 ⟨rfl, hb5⟩
  have b35 := hb4.trans (hb5.mono hb4.size)
  obtain ⟨r0, r1, r2, r3, r4, rf⟩ := five_of_block ((b35.block _ zx).trans KX.out)
  have b5 := b3.trans (b35.mono b3.size)
  have hqz := eqCounts 6 4 0 2 0 6 4 0 2 0 true (by decide)
  have hgd := guardCounts
  clear rf
  go_wp2
  go_ret
  exact ⟨rfl, b5⟩
end Go.Proofs.Ythihjphcjjpjpaa

/- What the walk of TopOtterSlopes knows of its numbers. -/
namespace Go.Proofs.Ythihjphcjjpjpaa
open Go.RowKit Go.Shelf Ck

theorem vec_pos : ∀ (l : List UInt8) (k : Knot), posK 1 k l = ⟨k.x + (vecL l).1, k.y + (vecL l).2⟩
  | [], k => by simp [posK, vecL]
  | c :: r, k => by
    have ih := vec_pos r (stepK 1 k c)
    have e : posK 1 k (c :: r) = posK 1 (stepK 1 k c) r := rfl
    have h1 : (vecL (c :: r)).1 = dxL c + (vecL r).1 := by simp [vecL]
    have h2 : (vecL (c :: r)).2 = dyL c + (vecL r).2 := by simp [vecL]
    rw [e, ih, h1, h2]
    simp [stepK]
    omega
def farOf (P D : Nat) (k : Knot) : Int := k.x * (D : Int) - (P : Int) * k.y
structure Slp (a b c P D L X Y : Nat) (s : ByteArray) (K : List Knot) (l : List Bar) : Prop where
  num : a / a.gcd b = P
  den : b / a.gcd b = D
  d1 : 1 ≤ D
  p30 : P ≤ 30
  d30 : D ≤ 30
  cop : P.gcd D = 1
  str : slB P D = s
  size : s.size = L
  l1 : 1 ≤ L
  l60 : L ≤ 60
  word : Word s
  wordE : wordE s.data.toList = 0
  edge : EdgeOk 0 0 s c
  vec : vecL s.data.toList = ((X : Int), (Y : Int))
  y0 : 0 < Y
  x1000 : X ≤ 1000
  y1000 : Y ≤ 1000
  rp : X / X.gcd Y = P
  rd : Y / X.gcd Y = D
  walk : walkK (sg true) ⟨0, 0⟩ (Lib.repeatL s.data.toList c) = K
  len : K.length = L * c + 1
  bars : barsP (sg true) ⟨0, 0⟩ (Lib.repeatL s.data.toList c) = l
  net : netE l = 0
  short : l.length ≤ 256
  near : ∀ i (h : i < K.length), 0 ≤ K[i].x ∧ K[i].x ≤ 400 ∧ 0 ≤ K[i].y ∧ K[i].y ≤ 400
  flat : P ≤ D → ∀ i (h : i < K.length), farOf P D K[i] ≤ 0 ∧ -(P : Int) - D < farOf P D K[i]
  steep : D < P → ∀ i (h : i < K.length), 0 ≤ farOf P D K[i] ∧ farOf P D K[i] < (P : Int) + D
  turn : ∀ i (h : i < K.length), i % L = 0 → farOf P D K[i] = 0

theorem slp_all (a b c : Nat) (ha : a ≤ 30) (hb1 : 1 ≤ b) (hb : b ≤ 30) (hc : 1 ≤ c) (hc3 : c ≤ 3) : ∃ (P D L X Y : Nat) (s : ByteArray) (K : List Knot) (l : List Bar), Slp a b c P D L X Y s K l := by
  have hg : 0 < a.gcd b := Nat.gcd_pos_of_pos_right _ (by omega)
  obtain ⟨P, hP⟩ : ∃ P, a / a.gcd b = P := ⟨_, rfl⟩
  obtain ⟨D, hD⟩ : ∃ D, b / a.gcd b = D := ⟨_, rfl⟩
  have hp30 : P ≤ 30 := by rw [← hP]; exact Nat.le_trans (Nat.div_le_self _ _) (by omega)
  have hd30 : D ≤ 30 := by rw [← hD]; exact Nat.le_trans (Nat.div_le_self _ _) (by omega)
  have hd1 : 1 ≤ D := by rw [← hD]; exact Nat.div_pos (Nat.le_of_dvd (by omega) (Nat.gcd_dvd_right _ _)) hg
  have hcop : P.gcd D = 1 := by rw [← hP, ← hD]; exact Nat.coprime_div_gcd_div_gcd hg
  obtain ⟨l1, l2, l3⟩ := shareL_le (P := P) hd1
  obtain ⟨s, hs⟩ : ∃ s, slB P D = s := ⟨_, rfl⟩
  have hsd : s.data.toList = slW P D := by rw [← hs]; rfl
  have hsz : s.size = shareL P D := by rw [Lib.size_eq, hsd, slW_len]
  have hlet : ∀ q ∈ s.data.toList, isL q := by rw [hsd]; exact slW_isL P D
  have hw : Word s := ⟨hlet, by omega, by omega⟩
  have hwE : wordE s.data.toList = 0 := by
    have hlen : s.data.toList.length = s.size := (Lib.size_eq s).symm
    have hne : ¬ s.data.toList = [] := fun e => by rw [e] at hlen; simp at hlen; omega
    rw [wordE, if_neg hne, if_neg (by omega), if_pos]
    rw [List.all_eq_true]
    exact fun q hq => (okC_iff q).2 (hlet q hq)
  have hcl : c * s.size ≤ 180 := Nat.le_trans (Nat.mul_le_mul hc3 (by omega : s.size ≤ 60)) (by decide)
  have hE : EdgeOk 0 0 s c := ⟨hw, hc, by omega, by omega, by omega, by omega, by omega, by decide⟩
  obtain ⟨X, Y, hXY, hY, hr1, hr2, hX2, hY2⟩ := sl_rate hd1 hcop
  have hpos1 := sl_pos (P := P) hd1 1 (shareL P D) (by omega)
  have htk : (Lib.repeatL (slW P D) 1).take (shareL P D) = slW P D := by
    have e : Lib.repeatL (slW P D) 1 = slW P D := by simp [Lib.repeatL]
    rw [e]
    exact List.take_of_length_le (by rw [slW_len]; exact Nat.le_refl _)
  have hvec : vecL s.data.toList = ((X : Int), (Y : Int)) := by
    rw [htk, hXY, vec_pos] at hpos1
    injection hpos1 with e1 e2
    rw [hsd]
    ext
    · simpa using e1
    · simpa using e2
  obtain ⟨K, hK⟩ : ∃ K, walkK (sg true) ⟨0, 0⟩ (Lib.repeatL s.data.toList c) = K := ⟨_, rfl⟩
  have hKl : K.length = shareL P D * c + 1 := by rw [← hK, walkK_length, rep_len, hsz, Nat.mul_comm]
  have hKat : ∀ i (h : i < K.length), K[i] = slPos P D i := by
    intro i h
    subst hK
    rw [walkK_at]
    have hi : i ≤ c * shareL P D := by rw [hKl, Nat.mul_comm] at h; omega
    rw [hsd]
    exact sl_pos hd1 c i hi
  have hfar : ∀ i (h : i < K.length), farOf P D K[i] = slFar P D i := fun i h => by rw [farOf, slFar, hKat i h]
  obtain ⟨l, hl⟩ : ∃ l, barsP (sg true) ⟨0, 0⟩ (Lib.repeatL s.data.toList c) = l := ⟨_, rfl⟩
  have hll : l.length ≤ 256 := by
    rw [← hl, barsP_length, barsN]
    exact Nat.le_trans List.countP_le_length (by rw [rep_len]; omega)
  have hnet : netE l = 0 := (netE_zero l).2 ⟨by omega, by rw [← hl]; exact edge_net hE true⟩
  refine ⟨P, D, shareL P D, X, Y, s, K, l, hP, hD, hd1, hp30, hd30, hcop, hs, hsz, l1, by omega, hw, hwE, hE, hvec, hY, by omega, by omega, hr1, hr2, hK, hKl, hl, hnet, hll, fun i h => ?_, fun hPD i h => ?_, fun hPD i h => ?_, fun i h hi => ?_⟩
  · rw [hKat i h]
    obtain ⟨a1, a2, a3, a4⟩ := sl_near P D i hd1
    have hi : i ≤ 180 := by
      have : shareL P D * c ≤ 180 := by rw [← hsz, Nat.mul_comm]; exact hcl
      omega
    exact ⟨a1, by omega, a3, by omega⟩
  · rw [hfar i h]
    exact (sl_far hd1 i).1 hPD
  · rw [hfar i h]
    exact (sl_far hd1 i).2.1 hPD
  · rw [hfar i h]
    obtain ⟨q, rfl⟩ : ∃ q, i = q * shareL P D := ⟨i / shareL P D, by rw [Nat.div_mul_cancel (Nat.dvd_of_mod_eq_zero hi)]⟩
    exact (sl_far hd1 0).2.2 q

theorem kcellsL_atW (l : List Knot) : ∀ (i : Nat) (h : i < l.length), (kcellsL l)[i * 2]? = some (.int .i64 l[i].x) ∧ (kcellsL l)[i * 2 + 1]? = some (.int .i64 l[i].y) := by
  induction l with
  | nil => intro i h; simp at h
  | cons a r ih =>
    intro i h
    have e : kcellsL (a :: r) = [.int .i64 a.x, .int .i64 a.y] ++ kcellsL r := by simp [kcellsL]
    rw [e]
    cases i with
    | zero => exact ⟨rfl, rfl⟩
    | succ i =>
      have := ih i (by simpa using h)
      rw [show (i + 1) * 2 = i * 2 + 2 from by omega]
      simpa using this
theorem own_rkW {w : World} {base : Nat} {v : Value} {t : TypeId} {l : List Knot} (h : w.ownsRow base t 2 v l.length (kcellsL l)) : ∃ a c, v = .slice a l.length c ∧ RK w w.heap.size a l := by
  rcases h.2 with ⟨rfl, hz⟩ | ⟨g, cap, cur, rfl, _, hgb, h1, h2, _⟩
  · have : l = [] := List.eq_nil_of_length_eq_zero hz
    subst this
    exact ⟨none, 0, rfl, fun hl => by simp at hl⟩
  · refine ⟨_, _, rfl, fun hl => ⟨g, 0, rfl, (Array.getElem?_eq_some_iff.1 hgb).1, fun i hi => ?_⟩⟩
    have hc := h.cells (g := g) rfl
    obtain ⟨k0, k1⟩ := kcellsL_atW l i hi
    have q0 := hc _ _ k0
    have q1 := hc _ _ k1
    rw [add0] at q0 q1
    simp only [Nat.zero_add]
    exact ⟨q0, q1⟩
theorem rkBelow {w w' : World} {a : Option Addr} {l : List Knot} (h : RK w w.heap.size a l) (hb : Below w.heap.size w w') : RK w' w'.heap.size a l := (h.below hb).more hb.size
def KnotsPost (l : List Knot) (w : World) (e : Ending) (w' : World) : Prop := ∃ a c, e = .returned (.tuple #[.slice a l.length c, .int .i64 0]) ∧ RK w' w'.heap.size a l ∧ Below w.heap.size w w'
theorem walkS (x y : Int) (s : ByteArray) (c : Nat) (o : Bool) (K : List Knot) (n : Int) (hn : n = (c : Int)) (w : World) (hK : walkK (sg o) ⟨x, y⟩ (Lib.repeatL s.data.toList c) = K) (h : EdgeOk x y s c) :
    Calls Try.prog 22 #[.agg #[.int .i64 x, .int .i64 y], .string s, .int .i64 n, .bool o] w (KnotsPost K w) := by
  subst hn
  exact (tpWalk x y s c o w h).mono fun e w' ⟨v, he, hrow, hb⟩ => by
    rw [hK] at hrow
    obtain ⟨a, c', rfl, hok⟩ := own_rkW hrow
    exact ⟨a, c', he, hok, hb⟩
theorem barsSI (x y : Int) (s : ByteArray) (c : Nat) (o : Bool) (l : List Bar) (n : Int) (hn : n = (c : Int)) (w : World) (hl : barsP (sg o) ⟨x, y⟩ (Lib.repeatL s.data.toList c) = l) (h : EdgeOk x y s c) :
    Calls Try.prog 10 #[.agg #[.int .i64 x, .int .i64 y], .string s, .int .i64 n, .bool o] w (PairPost l w) := by
  subst hn hl
  exact barsS x y s c o w h
end Go.Proofs.Ythihjphcjjpjpaa

/- The walk of TopOtterSlopes. -/
namespace Go.Proofs.Ythihjphcjjpjpaa
open Go.RowKit Go.Shelf Ck

def YesS (w : World) (e : Ending) (w' : World) : Prop := e = .returned (.bool true) ∧ Below w.heap.size w w'
theorem guardRatio : Try.prog.eqGuardType Try.prog.depth 52 = false := by kernel_rfl
theorem eqRatio (a b : Int) (w : World) : (Op.equalIn 10000 52 (.agg #[.int .i64 a, .int .i64 b]) (.agg #[.int .i64 a, .int .i64 b])).run Try.prog w = .ok true w := by
  have u3 := Try.underlying3
  have a3 := Try.isAgg3
  have z3 := Try.sizeOf3
  have hS : Try.prog.underlying 52 = some (.struct (Try.prog.fieldsOf 52)) := by kernel_rfl
  have hp : Try.prog.stoodInHeld 52 = false := by kernel_rfl
  rw [show (10000 : Nat) = 9999 + 1 from rfl, run_equalIn_struct w 9999 52 _ _ hS hp]
  simp only [Program.fieldsOf, Try.underlying52]
  go_simp
theorem refLowestI (a b : Nat) (x y : Int) (w : World) (hx : x = (a : Int)) (hy : y = (b : Int)) (ha : a ≤ 4000000000) (hb : b ≤ 4000000000) (h : 0 < b) :
    Calls Try.prog 18 #[.int .i64 x, .int .i64 y] w fun e w' => e = .returned (.agg #[.int .i64 (a / a.gcd b : Nat), .int .i64 (b / a.gcd b : Nat)]) ∧ Below w.heap.size w w' := by
  subst hx hy
  exact refLowest a b w ha hb h

set_option maxHeartbeats 8000000 in
set_option maxRecDepth 100000 in
theorem otterSlopes (p d t : Int) (w : World) (p0 : 0 ≤ p) (p1 : p < 256) (d0 : 0 ≤ d) (d1 : d < 256) (t0 : 0 ≤ t) (t1 : t < 256) :
    Calls Try.prog 4 #[.int .u8 p, .int .u8 d, .int .u8 t] w (YesS w) := by
  have ex0 : ∀ (a b : Value) (w : World), (Instr.extract (.tuple #[a, b]) 0).run Try.prog w = .ok a w := fun _ _ _ => by kernel_rfl
  have ex1 : ∀ (a b : Value) (w : World), (Instr.extract (.tuple #[a, b]) 1).run Try.prog w = .ok b w := fun _ _ _ => by kernel_rfl
  obtain ⟨a, ha⟩ : ∃ a : Nat, p % 31 = (a : Int) := ⟨(p % 31).toNat, by omega⟩
  obtain ⟨b, hb⟩ : ∃ b : Nat, 1 + d % 30 = (b : Int) := ⟨(1 + d % 30).toNat, by omega⟩
  obtain ⟨c, hc⟩ : ∃ c : Nat, 1 + t % 3 = (c : Int) := ⟨(1 + t % 3).toNat, by omega⟩
  have ha30 : a ≤ 30 := by omega
  have hb1 : 1 ≤ b := by omega
  have hb30 : b ≤ 30 := by omega
  have hc1 : 1 ≤ c := by omega
  have hc3 : c ≤ 3 := by omega
  obtain ⟨P, D, L, X, Y, s, K, l, hA⟩ := slp_all a b c ha30 hb1 hb30 hc1 hc3
  obtain rfl := hA.size
  have HA := Lib.hid hA
  have hD1 := hA.d1
  have hP30 := hA.p30
  have hD30 := hA.d30
  have hs1 : 1 ≤ s.size := hA.l1
  have hs60 : s.size ≤ 60 := hA.l60
  have hcw1 : IntKind.i64.wrap p = p := by rw [IntKind.wrap_i64]; omega
  have hcw2 : IntKind.i64.wrap d = d := by rw [IntKind.wrap_i64]; omega
  have hcw3 : IntKind.i64.wrap t = t := by rw [IntKind.wrap_i64]; omega
  have HC := Lib.hid hc
  have HAA := Lib.hid ha
  have HBB := Lib.hid hb
  clear hA ha hb hc
  go_enter Try.func4, Try.ntmps4
  go_wp2_with fail
  refine (refLowestI a b _ _ _ (by first | exact HAA.out | (have := HAA.out; omega)) (by first | exact HBB.out | (have := HBB.out; omega)) (by omega) (by omega) (by omega)).mono ?_
  rintro e w1 ⟨rfl, hb1'⟩
  rw [HA.out.num, HA.out.den]
  obtain ⟨w2, hw2, h7, hb2, hz2⟩ := boxH2 w1 (.int .i64 P) (.int .i64 D) 52
  have HW2 := Lib.hid hw2
  have p2 := hb1'.trans (hb2.mono hb1'.size)
  obtain ⟨r0, r1, -, -⟩ := two_cell h7
  clear hw2 hb1' hb2 hcw1 hcw2
  go_wp2_with fail
  rw [← HW2.out]
  go_wp2_with fail
  refine (tpExact P D _ hD1 (by omega) HA.out.cop).mono ?_
  rintro e w3 ⟨rfl, hb3⟩
  rw [HA.out.str]
  have h73 := (hb3.block _ hz2).trans h7
  have p3 := p2.trans (hb3.mono p2.size)
  clear r0 r1 h7 hb3 p2 hz2
  go_wp2_with fail
  refine (tpRate s X Y _ HA.out.word HA.out.vec HA.out.y0 HA.out.x1000 HA.out.y1000).mono ?_
  rintro e w4 ⟨rfl, hb4⟩
  rw [HA.out.rp, HA.out.rd]
  have h74 := (hb4.block _ (Array.getElem?_eq_some_iff.1 h73).1).trans h73
  have p4 := p3.trans (hb4.mono p3.size)
  obtain ⟨w5, hw5, h11, hb5, hz5⟩ := boxH2 w4 (.int .i64 P) (.int .i64 D) 52
  have HW5 := Lib.hid hw5
  have h75 := (hb5.block _ (Array.getElem?_eq_some_iff.1 h74).1).trans h74
  have p5 := p4.trans (hb5.mono p4.size)
  clear hw5 h73 hb4 h74 p3 hb5 p4 hcw3
  go_wp2_with fail
  rw [← HW5.out]
  go_wp2_with fail
  refine (walkS 0 0 s c true K _ HC.out _ HA.out.walk HA.out.edge).mono ?_
  rintro e w6 ⟨aK, cK, rfl, hk6, hb6⟩
  have h76 := (hb6.block _ (Array.getElem?_eq_some_iff.1 h75).1).trans h75
  have h116 := (hb6.block _ hz5).trans h11
  have p6 := p5.trans (hb6.mono p5.size)
  have HK6 := Lib.hid hk6
  clear h75 h11 hz5 p5 hb6 hk6
  go_wp2_with fail
  refine (barsSI 0 0 s c true l _ HC.out _ HA.out.bars HA.out.edge).mono ?_
  rintro e w7 ⟨aL, cL, rfl, hk7, hb7⟩
  have h77 := (hb7.block _ (Array.getElem?_eq_some_iff.1 h76).1).trans h76
  have h117 := (hb7.block _ (Array.getElem?_eq_some_iff.1 h116).1).trans h116
  have p7 := p6.trans (hb7.mono p6.size)
  have HK7 := Lib.hid (rkBelow HK6.out hb7)
  have HL7 := Lib.hid hk7
  obtain ⟨r0, r1, -, -⟩ := two_cell h77
  obtain ⟨q0, q1, -, -⟩ := two_cell h117
  have hgd := guardRatio
  have hqe := eqRatio (P : Int) (D : Int)
  clear h76 h116 p6 hb7 hk7 h117
  go_wp2_with fail
  refine (refCheckWord s _ (by omega)).mono ?_
  rintro e w8 ⟨rfl, rfl⟩
  rw [HA.out.wordE]
  have hKl := HA.out.len
  have hcI := HC.out
  have hmul0 : (s.size : Int) * (c : Int) ≤ 180 := by
    have : s.size * c ≤ 60 * 3 := Nat.mul_le_mul hs60 hc3
    rw [← Int.natCast_mul]
    omega
  have hmul1 : 0 ≤ (s.size : Int) * (c : Int) := by rw [← Int.natCast_mul]; omega
  have hnum : (K.length : Int) = (s.size : Int) * (c : Int) + 1 := by rw [hKl, Int.natCast_add, Int.natCast_mul]; rfl
  clear hKl
  go_wp2_with fail
  clear hnum hcI
  have hl256 := HA.out.short
  refine (refCheckNet aL cL l _ (by omega) HL7.out.2.2.2).mono ?_
  rintro e w9 ⟨rfl, hb9⟩
  rw [HA.out.net]
  have h79 := (hb9.block _ (Array.getElem?_eq_some_iff.1 h77).1).trans h77
  have p9 := p7.trans (hb9.mono p7.size)
  have HK9 := Lib.hid (rkBelow HK7.out hb9)
  clear h77 p7 hb9 r0 r1 q0 q1 hmul0 hmul1
  have hz9 := (Array.getElem?_eq_some_iff.1 h79).1
  go_wp2_with fail
  have hKlen : K.length ≤ 200 := by
    rw [HA.out.len]
    have : s.size * c ≤ 60 * 3 := Nat.mul_le_mul hs60 hc3
    omega
  go_loopw [17, 19, 106] (fun _ _ i wi => ∃ k : Nat, k ≤ K.length ∧ i = .int .i64 k ∧ Below w9.heap.size w9 wi) (fun _ _ i _ => K.length - (intOf i).toNat)
  case atStart => exact ⟨0, Nat.zero_le _, rfl, Below.refl _ _⟩
  case round =>
    obtain ⟨k, hk, rfl, hbi⟩ := hrel
    by_cases hlt : k < K.length
    · obtain ⟨bq, oq, hqa, hqb, hqc⟩ := (rkBelow HK9.out hbi) (by omega)
      obtain ⟨m0, m1⟩ := hqc k hlt
      have hk0 : (0 : Int) ≤ (k : Int) := by omega
      have hk1 : (k : Int) < (K.length : Int) := by omega
      obtain ⟨n1, n2, n3, n4⟩ := HA.out.near k hlt
      have hflat : P ≤ D → farOf P D K[k] ≤ 0 ∧ -(P : Int) - D < farOf P D K[k] := fun h => HA.out.flat h k hlt
      have hsteep : D < P → 0 ≤ farOf P D K[k] ∧ farOf P D K[k] < (P : Int) + D := fun h => HA.out.steep h k hlt
      have hturn : k % s.size = 0 → farOf P D K[k] = 0 := fun h => HA.out.turn k hlt h
      obtain ⟨q, hq⟩ : ∃ q, K[k] = q := ⟨_, rfl⟩
      rw [hq] at m0 m1 n1 n2 n3 n4 hflat hsteep hturn
      unfold farOf at hflat hsteep hturn
      obtain ⟨wa, hwa, c0, c1, hba, hza⟩ := box2 wr (.int .i64 q.x) (.int .i64 q.y) 23
      have hbb := hbi.trans (hba.mono hbi.size)
      obtain ⟨r0, r1, -, -⟩ := two_cell ((hbb.block _ hz9).trans h79)
      have hwa' := hwa.symm
      subst hqa
      have x1 : 0 ≤ q.x * (D : Int) ∧ q.x * (D : Int) ≤ 12000 := ⟨Int.mul_nonneg n1 (by omega), Int.le_trans (Int.mul_le_mul n2 (show (D : Int) ≤ 30 by omega) (by omega) (by omega)) (by decide)⟩
      have x2 : 0 ≤ (P : Int) * q.y ∧ (P : Int) * q.y ≤ 12000 := ⟨Int.mul_nonneg (by omega) n3, Int.le_trans (Int.mul_le_mul (show (P : Int) ≤ 30 by omega) n4 n3 (by omega)) (by decide)⟩
      obtain ⟨x10, x11⟩ := x1
      obtain ⟨x20, x21⟩ := x2
      have y1 : IntKind.i64.wrap (q.x * (D : Int)) = q.x * (D : Int) := by rw [IntKind.wrap_i64]; omega
      have y2 : IntKind.i64.wrap ((P : Int) * q.y) = (P : Int) * q.y := by rw [IntKind.wrap_i64]; omega
      have hs0 : ¬ s.size = 0 := by omega
      have hsI : 1 ≤ (s.size : Int) := by omega
      obtain ⟨r, hr⟩ : ∃ r, k % s.size = r := ⟨_, rfl⟩
      have hrI : (k : Int) % (s.size : Int) = (r : Int) := by rw [← hr]; rfl
      rw [hr] at hturn
      obtain ⟨F, hF⟩ : ∃ F, q.x * (D : Int) - (P : Int) * q.y = F := ⟨_, rfl⟩
      rw [hF] at hflat hsteep hturn
      have hFI : F ≤ 12000 ∧ -12000 ≤ F := by omega
      obtain ⟨f1, f2⟩ := hFI
      clear hwa hqc hq hr
      by_cases hPD : P ≤ D
      · obtain ⟨g1, g2⟩ := hflat hPD
        have k1 : (P : Int) ≤ (D : Int) := by omega
        clear hflat hsteep hPD
        by_cases hr0 : r = 0
        · have hF0 := hturn hr0
          subst hr0
          subst hF0
          clear hturn
          go_wp2
          go_roundw
          case rel => exact ⟨k + 1, by omega, by go_num, hbb⟩
          case measure => simp [intOf]; omega
        · have hr1 : ¬ (r : Int) = 0 := by omega
          clear hturn
          go_wp2
          go_roundw
          case rel => exact ⟨k + 1, by omega, by go_num, hbb⟩
          case measure => simp [intOf]; omega
      · obtain ⟨g1, g2⟩ := hsteep (by omega)
        have k1 : (D : Int) < (P : Int) := by omega
        clear hflat hsteep hPD
        by_cases hr0 : r = 0
        · have hF0 := hturn hr0
          subst hr0
          subst hF0
          clear hturn
          go_wp2
          go_roundw
          case rel => exact ⟨k + 1, by omega, by go_num, hbb⟩
          case measure => simp [intOf]; omega
        · have hr1 : ¬ (r : Int) = 0 := by omega
          clear hturn
          go_wp2
          go_roundw
          case rel => exact ⟨k + 1, by omega, by go_num, hbb⟩
          case measure => simp [intOf]; omega
    · obtain rfl : k = K.length := by omega
      have p10 := p9.trans (hbi.mono p9.size)
      go_wp2_with fail
      refine (otterEdge _).mono ?_
      rintro e w11 ⟨rfl, hb11⟩
      go_wp2
      go_ret
      exact ⟨rfl, p10.trans (hb11.mono p10.size)⟩
end Go.Proofs.Ythihjphcjjpjpaa

/- An argument that is a list of bars, opened. -/
namespace Go.Proofs.Ythihjphcjjpjpaa
open Go.ChangeShapes Go.WideShapes Go.ChangeAt Go.RowKit Go.Deep

variable {H : Type} {enc : TypeId × Value → H} {w : World} {spare : Nat → Bool} {held : Bool}
set_option maxRecDepth 100000 in
theorem bar_cells {n : Nat} {cs : List Value} {x : DataW H × List MemPlace} (h : DataW.trod enc Try.prog w 0 spare held n 48 cs = some x) : ∃ b : Ck.Bar, cs = bcells b := by
  obtain ⟨xs, m, _, _, hl, hx, hf⟩ := DataW.trod_struct Try.underlying48 h
  have hC : Try.prog.cellsOf 48 = 3 := by kernel_rfl
  have c3 : Try.prog.cellsOf 3 = 1 := by kernel_rfl
  rw [hC] at hl
  match cs, hl, xs, hx with
  | [c0, c1, c2], _, [x0, x1, x2], _ =>
    have h0 := hf 0 _ rfl
    have h1 := hf 1 _ rfl
    have h2 := hf 2 _ rfl
    simp [c3] at h0 h1 h2
    obtain ⟨n0, e0, _⟩ := DataW.trod_int Try.underlying3 h0
    obtain ⟨n1, e1, _⟩ := DataW.trod_int Try.underlying3 h1
    obtain ⟨n2, e2, _⟩ := DataW.trod_int Try.underlying3 h2
    simp only [List.cons.injEq, and_true] at e0 e1 e2
    exact ⟨⟨n0, n1, n2⟩, by rw [e0, e1, e2]; rfl⟩
set_option maxRecDepth 100000 in
/-- The argument is nil, or a slice that reads as bars. -/
theorem open_bars {v : Value} {d : DataW H} {p : List MemPlace} {r : Reach} {b0 : Nat} (hv : Value.okWide Try.prog w r b0 31 v) (h : DataW.Trod enc Try.prog w 0 spare held 31 v d p) (_ : ∀ x ∈ p, x.block < w.heap.size) :
    ∃ (A : Option Addr) (c : Nat) (l : List Ck.Bar), v = .slice A l.length c ∧ (A = none → c = 0) ∧ l.length ≤ c ∧ c ≤ maxLen ∧ RB w w.heap.size A l := by
  obtain ⟨a, len, cap, rfl⟩ := okWide_slice Try.underlying31 hv
  obtain ⟨fuel, hf⟩ := h
  have hC : Try.prog.cellsOf 48 = 3 := by kernel_rfl
  rcases open_slice Try.underlying31 hf with ⟨hcs, _⟩ | ⟨a', len', cap', m, n, D, Pl, hcs, hb, hl, hm, hmm, hx, hi⟩
  · simp [Value.cells] at hcs
    obtain ⟨rfl, rfl, rfl⟩ := hcs
    exact ⟨none, 0, [], rfl, fun _ => rfl, Nat.zero_le _, by unfold maxLen; omega, fun h => by simp at h⟩
  · simp [Value.cells] at hcs
    obtain ⟨rfl, rfl, rfl⟩ := hcs
    rw [hC] at hi hx
    have hle : len ≤ m := by rw [hmm]; split <;> omega
    have each : ∀ i, ∃ b : Ck.Bar, i < len → w.cell? (a'.add (i * 3)) = some (.int .i64 b.x) ∧ w.cell? ((a'.add (i * 3)).add 1) = some (.int .i64 b.y) ∧ w.cell? ((a'.add (i * 3)).add 2) = some (.int .i64 b.s) := fun i => by
      by_cases hi' : i < len
      · obtain ⟨cs', h1, h2⟩ := hi i (by omega)
        obtain ⟨b, rfl⟩ := bar_cells h2
        obtain ⟨_, _, h3⟩ := World.cells?_some h1
        exact ⟨b, fun _ => ⟨h3 0 (by omega), h3 1 (by omega), h3 2 (by omega)⟩⟩
      · exact ⟨⟨0, 0, 0⟩, fun h => absurd h hi'⟩
    obtain ⟨f, hf'⟩ := Classical.axiomOfChoice each
    have hlen : ((List.range len).map f).length = len := by simp
    refine ⟨some a', cap, (List.range len).map f, by rw [hlen], (fun h => by cases h), by rw [hlen]; exact hl, hm, fun hpos => ?_⟩
    rw [hlen] at hpos
    obtain ⟨blk, off, spot⟩ := a'
    have h0 := (hf' 0 hpos).1
    have hspot : spot = none := by
      cases spot with
      | none => rfl
      | some s =>
        simp [Addr.add, World.cell?] at h0
        split at h0 <;> simp at h0
    subst hspot
    have hadd : ∀ k, (⟨blk, off, none⟩ : Addr).add k = ⟨blk, off + k, none⟩ := fun k => by
      unfold Addr.add
      split
      · simp
      · rfl
    have hblk : blk < w.heap.size := by
      rw [hadd] at h0
      unfold World.cell? at h0
      cases hh : w.heap[blk]? with
      | none => simp [hh] at h0
      | some o => exact (Array.getElem?_eq_some_iff.1 hh).1
    refine ⟨blk, off, rfl, hblk, fun i hi' => ?_⟩
    rw [hlen] at hi'
    obtain ⟨k0, k1, k2⟩ := hf' i hi'
    rw [hadd] at k0 k1 k2
    have hadd2 : ∀ k j, (⟨blk, k, none⟩ : Addr).add j = ⟨blk, k + j, none⟩ := fun k j => by
      unfold Addr.add
      split
      · simp
      · rfl
    rw [hadd2] at k1 k2
    have hg : ((List.range len).map f)[i]'(by simpa using hi') = f i := by simp
    rw [hg]
    exact ⟨k0, k1, k2⟩
end Go.Proofs.Ythihjphcjjpjpaa

namespace Go.Proofs.Ythihjphcjjpjpaa
open Go.ChangeShapes Go.WideShapes Go.ChangeAt Go.RowKit

set_option maxRecDepth 100000 in
theorem open_byte {w : World} {r : Reach} {b0 : Nat} {v : Value} (h : Value.okWide Try.prog w r b0 5 v) : ∃ x, v = .int .u8 x ∧ 0 ≤ x ∧ x < 256 := by
  have hS : Try.prog.underlying 5 = some (.int .u8) := by kernel_rfl
  simp only [Value.okWide, hS] at h
  have hc : ∃ n, v = .int .u8 n ∧ IntKind.u8.has n := by
    simp only [Cell.okWide, hS] at h
    cases v <;> simp_all [Cell.ok]
  obtain ⟨n, rfl, hn⟩ := hc
  simp only [IntKind.has, IntKind.min, IntKind.max, IntKind.signed, IntKind.bits] at hn
  refine ⟨n, rfl, ?_, ?_⟩ <;> simp at hn <;> omega
theorem Try.ownP : ownKnob Try.prog.godebug = none := by kernel_rfl
theorem Try.laidOutP : laidOutB Try.prog = true := by kernel_rfl

set_option maxRecDepth 100000 in
theorem slopes_lifted (os : Os) (started : os.Started) (H : Type) (enc : TypeId × Value → H) :
    ReturnsInHanded {} Try.checked os 4 .any (Rows.topOtterSlopesSpec.pre6 enc Try.prog Try.f4 Rows.topOtterSlopesRow.domain false) (Rows.topOtterSlopesSpec.post enc Try.prog Try.f4 false true false false) := by
  refine returnsInHanded_of_change (C := Try.checked) Try.ownP started (by kernel_rfl) Try.func4
    (ChangeSpec.witness6 (enc := enc) (C := Try.checked) false ⟨#[], #[.int .u8 0, .int .u8 0, .int .u8 0], []⟩ 8 (by kernel_rfl) (by kernel_rfl) (by kernel_rfl) (by kernel_rfl)) ?_
  intro W base args ds gs before hval0 hW _ _
  have hval : ∀ (j : Nat) t v, Try.f4.params[j]? = some t → args[j]? = some v → Value.okWide Try.prog W .any base t v := hval0
  have hW' := hW
  obtain ⟨p, q, hA0, hV, rfl, _, _⟩ := hW
  have hA : DataW.TrodAll enc Try.prog W 0 (fun _ => true) true Try.f4.params.toList args.toList ds p := hA0
  rw [Try.params4] at hA hval
  obtain ⟨v0, v1, v2, d0, d1, d2, p0, p1, p2, rfl, rfl, rfl, h0, h1, h2⟩ := trodAll_three hA
  obtain ⟨rfl, rfl⟩ := trodVars_none hV
  clear hA0 hval0
  simp only [List.append_nil] at hW'
  have hlt : ∀ x ∈ p0 ++ p1 ++ p2, x.block < W.heap.size := fun x hx => by simpa using hW'.lt x hx
  obtain ⟨x, rfl, a0, a1⟩ := open_byte (hval 0 5 v0 rfl rfl)
  obtain ⟨y, rfl, b0, b1⟩ := open_byte (hval 1 5 v1 rfl rfl)
  obtain ⟨z, rfl, c0, c1⟩ := open_byte (hval 2 5 v2 rfl rfl)
  have harg0 : ∀ (W' : World), Below W.heap.size W W' → DataW.Trod enc Try.prog W' 0 (fun b => decide (b < W.heap.size)) true 5 (.int .u8 x) d0 p0 :=
    fun W' hn => Below.trod Try.laidOutP (by kernel_rfl) (of_decide_eq_true (by kernel_rfl)) h0 hn (fun x hx => hlt x (List.mem_append_left _ (List.mem_append_left _ hx)))
  have harg1 : ∀ (W' : World), Below W.heap.size W W' → DataW.Trod enc Try.prog W' 0 (fun b => decide (b < W.heap.size)) true 5 (.int .u8 y) d1 p1 :=
    fun W' hn => Below.trod Try.laidOutP (by kernel_rfl) (of_decide_eq_true (by kernel_rfl)) h1 hn (fun x hx => hlt x (List.mem_append_left _ (List.mem_append_right _ hx)))
  have harg2 : ∀ (W' : World), Below W.heap.size W W' → DataW.Trod enc Try.prog W' 0 (fun b => decide (b < W.heap.size)) true 5 (.int .u8 z) d2 p2 :=
    fun W' hn => Below.trod Try.laidOutP (by kernel_rfl) (of_decide_eq_true (by kernel_rfl)) h2 hn (fun x hx => hlt x (List.mem_append_right _ hx))
  refine (otterSlopes x y z W a0 a1 b0 b1 c0 c1).mono fun e W' ⟨he, hb⟩ => ?_
  subst he
  refine ⟨_, rfl, _, _, _, [], p0 ++ p1 ++ p2, [], hW', ?_, by rw [List.append_assoc]; exact trodAll_mk3 (harg0 W' hb) (harg1 W' hb) (harg2 W' hb), rfl, hb.frame _, fun h => by cases h⟩
  exact trodAll_mk1 (shut_bool Try.underlying4 true)

theorem slopes_holds : Rows.TopOtterSlopesSaid :=
  OpenClaim.holds_of_wide 4 Try.f4 rfl rfl rfl rfl rfl rfl rfl ⟨rfl, rfl, rfl, rfl, rfl⟩ rfl rfl rfl rfl rfl (by kernel_rfl) Try.func4 (by kernel_rfl)
    (of_decide_eq_true (by kernel_rfl)) (by unfold Func.isWrapper; first | (rw [if_pos (by decide +kernel)]; kernel_rfl) | (rw [if_neg (by decide +kernel)]; exact ⟨rfl, rfl⟩))
    (fun os started H enc _ => slopes_lifted os started H enc)
#print axioms slopes_holds
end Go.Proofs.Ythihjphcjjpjpaa
