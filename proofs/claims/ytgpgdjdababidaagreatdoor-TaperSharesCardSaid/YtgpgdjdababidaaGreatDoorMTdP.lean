/- TaperShares returns true for every ratio; the library's tables that its row lists are tied to the program's text. Conditions: none beside that. -/
import Derived.Test.YtgpgdjdababidaaGreatDoorM5
/- The reference's CheckRatio, Share and Word; ratio of the statements. -/
namespace Go.Proofs.YtgpgdjdababidaaGreatDoor
open Go.RowKit Go.Shelf Ck

set_option maxHeartbeats 1000000 in
set_option maxRecDepth 100000 in
theorem rfCheckRatio (a b : Int) (w : World) :
    Calls Tryz.prog 49 #[.agg #[.int .i64 a, .int .i64 b]] w fun e w' => e = .returned (.int .i64 (ratE a b)) ∧ Below w.heap.size w w' := by
  obtain ⟨w1, hw1, h0, hb1, hz1⟩ := boxH2 w (.int .i64 a) (.int .i64 b) 39
  obtain ⟨p0, p1, -, -⟩ := two_cell h0
  have HW1 := Lib.hid hw1
  clear hw1 h0
  by_cases hz : rat0 a b = 0
  · obtain ⟨g1, g2, g3, g4⟩ := rat0_zero hz
    have HE := Lib.hid (show ratE a b = (if 1 < a.toNat.gcd b.toNat then 1 else 0) by rw [ratE, if_pos hz])
    clear hz
    obtain ⟨P, rfl⟩ : ∃ P : Nat, a = (P : Int) := ⟨a.toNat, by omega⟩
    obtain ⟨D, rfl⟩ : ∃ D : Nat, b = (D : Int) := ⟨b.toNat, by omega⟩
    rw [Int.toNat_natCast, Int.toNat_natCast] at HE
    have hgp : 0 < P.gcd D := Nat.gcd_pos_of_pos_right _ (by omega)
    obtain ⟨g, hg⟩ : ∃ g, P.gcd D = g := ⟨_, rfl⟩
    have HG := Lib.hid hg
    rw [hg] at HE hgp
    rw [HE.out]
    clear hg HE
    have n1 : ¬ (P : Int) < 0 := by omega
    have n2 : ¬ (999999999 : Int) < (P : Int) := by omega
    have n3 : ¬ (D : Int) < 1 := by omega
    have n4 : ¬ (999999999 : Int) < (D : Int) := by omega
    by_cases hg1 : 1 < g
    · have hgi : ((g : Int) != 1) = true := by rw [bne_iff_ne]; omega
      rw [if_pos hg1]
      go_enter Tryz.func49, Tryz.ntmps49
      go_wp2_with fail
      rw [← HW1.out]
      go_wp2_with fail
      refine (refGcd P D _ (by omega) (by omega)).mono ?_
      rintro e w2 ⟨rfl, hb2⟩
      rw [HG.out]
      go_wp2
      go_ret
      exact ⟨rfl, hb1.trans (hb2.mono hb1.size)⟩
    · have hgi : ((g : Int) != 1) = false := by rw [bne_eq_false_iff_eq]; omega
      rw [if_neg hg1]
      go_enter Tryz.func49, Tryz.ntmps49
      go_wp2_with fail
      rw [← HW1.out]
      go_wp2_with fail
      refine (refGcd P D _ (by omega) (by omega)).mono ?_
      rintro e w2 ⟨rfl, hb2⟩
      rw [HG.out]
      go_wp2
      go_ret
      exact ⟨rfl, hb1.trans (hb2.mono hb1.size)⟩
  · have HE : ratE a b = 3 := by
      rw [ratE, if_neg hz]
      unfold rat0 rngE at hz ⊢
      simp only [firstE] at hz ⊢
      repeat' split
      all_goals first | rfl | (simp_all; done) | omega
    have hc : a < 0 ∨ 999999999 < a ∨ b < 1 ∨ 999999999 < b := by
      by_cases h1 : a < 0
      · exact .inl h1
      · by_cases h2 : 999999999 < a
        · exact .inr (.inl h2)
        · by_cases h3 : b < 1
          · exact .inr (.inr (.inl h3))
          · by_cases h4 : 999999999 < b
            · exact .inr (.inr (.inr h4))
            · exact absurd (show rat0 a b = 0 by
                unfold rat0 rngE
                rw [if_neg (by omega), if_neg (by omega)]
                rfl) hz
    rw [HE]
    clear HE hz
    by_cases h1 : a < 0
    · go_enter Tryz.func49, Tryz.ntmps49
      go_wp2_with (rw [← HW1.out])
      go_ret
      exact ⟨rfl, hb1⟩
    · by_cases h2 : 999999999 < a
      · go_enter Tryz.func49, Tryz.ntmps49
        go_wp2_with (rw [← HW1.out])
        go_ret
        exact ⟨rfl, hb1⟩
      · by_cases h3 : b < 1
        · go_enter Tryz.func49, Tryz.ntmps49
          go_wp2_with (rw [← HW1.out])
          go_ret
          exact ⟨rfl, hb1⟩
        · have h4 : 999999999 < b := by omega
          go_enter Tryz.func49, Tryz.ntmps49
          go_wp2_with (rw [← HW1.out])
          go_ret
          exact ⟨rfl, hb1⟩
set_option maxHeartbeats 1000000 in
theorem rfSteep (a b : Int) (w : World) : Calls Tryz.prog 107 #[.agg #[.int .i64 a, .int .i64 b]] w fun e w' => e = .returned (.bool (decide (b < a))) ∧ Below w.heap.size w w' := by
  obtain ⟨w1, hw1, h0, hb1, hz1⟩ := boxH2 w (.int .i64 a) (.int .i64 b) 39
  obtain ⟨p0, p1, -, -⟩ := two_cell h0
  have HW1 := Lib.hid hw1
  clear hw1 h0
  go_enter Tryz.func107, Tryz.ntmps107
  go_wp2_with fail
  rw [← HW1.out]
  go_wp2
  go_ret
  exact ⟨rfl, hb1⟩
theorem rfSteepB (P D : Nat) (r : Bool) (w : World) (hr : decide (D < P) = r) : Calls Tryz.prog 107 #[.agg #[.int .i64 P, .int .i64 D]] w fun e w' => e = .returned (.bool r) ∧ Below w.heap.size w w' := by
  subst hr
  exact (rfSteep P D w).mono fun e w' ⟨h, hb⟩ => ⟨by rw [h]; exact ret_b (by simp), hb⟩
theorem rfLowestI (a b : Nat) (x y : Int) (w : World) (hx : x = (a : Int)) (hy : y = (b : Int)) (ha : a ≤ 4000000000) (hb : b ≤ 4000000000) (h : 0 < b) :
    Calls Tryz.prog 90 #[.int .i64 x, .int .i64 y] w fun e w' => e = .returned (.agg #[.int .i64 (a / a.gcd b : Nat), .int .i64 (b / a.gcd b : Nat)]) ∧ Below w.heap.size w w' := by
  subst hx hy
  exact refLowest a b w ha hb h
set_option maxHeartbeats 1000000 in
set_option maxRecDepth 100000 in
theorem rfShare (P D : Nat) (w : World) (hD0 : 1 ≤ D) (hP : P ≤ 1000000000) (hD : D ≤ 1000000000) :
    Calls Tryz.prog 50 #[.agg #[.int .i64 P, .int .i64 D]] w fun e w' => e = .returned (.agg #[.int .i64 (shareB P D), .int .i64 (shareL P D)]) ∧ Below w.heap.size w w' := by
  obtain ⟨w1, hw1, h0, h1, hb1, hz1⟩ := boxH22 w (.int .i64 P) (.int .i64 D) (.int .i64 0) (.int .i64 0) 39 39
  have HW1 := Lib.hid hw1
  obtain ⟨p0, p1, -, -⟩ := two_cell h0
  have HB := Lib.hid (show shareB P D = 2 * min P D / (2 * min P D).gcd (P + D) from rfl)
  have HL := Lib.hid (show shareL P D = (P + D) / (2 * min P D).gcd (P + D) from rfl)
  obtain ⟨B, hB⟩ : ∃ B, shareB P D = B := ⟨_, rfl⟩
  obtain ⟨L, hL⟩ : ∃ L, shareL P D = L := ⟨_, rfl⟩
  rw [hB] at HB
  rw [hL] at HL
  rw [hB, hL]
  clear hw1 hB hL
  by_cases hst : D < P
  · have hm : min P D = D := by omega
    rw [hm] at HB HL
    clear hm
    have hd : decide (D < P) = true := by simpa using hst
    have HD := Lib.hid hd
    clear hd hst
    go_enter Tryz.func50, Tryz.ntmps50
    go_wp2_with fail
    rw [← HW1.out]
    go_wp2_with fail
    refine (rfSteepB P D true _ HD.out).mono ?_
    rintro e w2 ⟨rfl, hb2⟩
    have k0 := (hb2.block _ (Array.getElem?_eq_some_iff.1 h0).1).trans h0
    have k1 := (hb2.block _ (Array.getElem?_eq_some_iff.1 h1).1).trans h1
    have B2 := hb1.trans (hb2.mono hb1.size)
    clear p0 p1 h0 h1 hb1 hb2
    obtain ⟨p0, p1, -, -⟩ := two_cell k0
    go_wp2_with fail
    refine (rfLowestI (2 * D) (P + D) _ _ _ (by push_cast; rfl) (by push_cast; rfl) (by omega) (by omega) (by omega)).mono ?_
    rintro e w3 ⟨rfl, hb3⟩
    rw [← HB.out, ← HL.out]
    have m1 := (hb3.block _ (Array.getElem?_eq_some_iff.1 k1).1).trans k1
    have B3 := B2.trans (hb3.mono B2.size)
    obtain ⟨r0, r1, r2, r3⟩ := two_cell m1
    obtain ⟨s5, s6⟩ := two_set m1 (.int .i64 B) (.int .i64 L)
    obtain ⟨t0, t1, -, -⟩ := two_cell s5
    have hbf := B3.grown s6 B3.size (fun j e => by cases e; omega)
    clear k0 k1 m1 s5 s6 p0 p1 hb3 B2
    go_wp2
    exact bodyPost_ret (v := .agg #[.int .i64 B, .int .i64 L]) (by simp [results, Tryz.results50, go_sem, t0, t1]) rfl ⟨rfl, hbf⟩
  · have hm : min P D = P := by omega
    rw [hm] at HB HL
    clear hm
    have hd : decide (D < P) = false := by simpa using hst
    have HD := Lib.hid hd
    clear hd hst
    go_enter Tryz.func50, Tryz.ntmps50
    go_wp2_with fail
    rw [← HW1.out]
    go_wp2_with fail
    refine (rfSteepB P D false _ HD.out).mono ?_
    rintro e w2 ⟨rfl, hb2⟩
    have k0 := (hb2.block _ (Array.getElem?_eq_some_iff.1 h0).1).trans h0
    have k1 := (hb2.block _ (Array.getElem?_eq_some_iff.1 h1).1).trans h1
    have B2 := hb1.trans (hb2.mono hb1.size)
    clear p0 p1 h0 h1 hb1 hb2
    obtain ⟨p0, p1, -, -⟩ := two_cell k0
    go_wp2_with fail
    refine (rfLowestI (2 * P) (P + D) _ _ _ (by push_cast; rfl) (by push_cast; rfl) (by omega) (by omega) (by omega)).mono ?_
    rintro e w3 ⟨rfl, hb3⟩
    rw [← HB.out, ← HL.out]
    have m1 := (hb3.block _ (Array.getElem?_eq_some_iff.1 k1).1).trans k1
    have B3 := B2.trans (hb3.mono B2.size)
    obtain ⟨r0, r1, r2, r3⟩ := two_cell m1
    obtain ⟨s5, s6⟩ := two_set m1 (.int .i64 B) (.int .i64 L)
    obtain ⟨t0, t1, -, -⟩ := two_cell s5
    have hbf := B3.grown s6 B3.size (fun j e => by cases e; omega)
    clear k0 k1 m1 s5 s6 p0 p1 hb3 B2
    go_wp2
    exact bodyPost_ret (v := .agg #[.int .i64 B, .int .i64 L]) (by simp [results, Tryz.results50, go_sem, t0, t1]) rfl ⟨rfl, hbf⟩
theorem rfMixC (c : UInt8) (B L : Nat) (d : Int) (w : World) (hd : d = (L : Int) - B) (hB : B ≤ L) (hL : L ≤ 1000) :
    Calls Tryz.prog 46 #[.string ⟨#[66]⟩, .int .i64 B, .string ⟨#[c]⟩, .int .i64 d] w fun e w' => e = .returned (.string (strA (spreadL [66] B [c] (L - B) L))) ∧ Below w.heap.size w w' := by
  have e : d = ((L - B : Nat) : Int) := by omega
  subst e
  have h := rfMix ⟨#[66]⟩ ⟨#[c]⟩ B (L - B) w (by decide) (by show (1 : Nat) ≤ 100; decide) (by omega) (by omega)
  rw [show B + (L - B) = L by omega] at h
  exact h
set_option maxHeartbeats 1000000 in
set_option maxRecDepth 100000 in
theorem rfWord (P D B L : Nat) (w : World) (hBL : B ≤ L) (hL : L ≤ 1000) :
    Calls Tryz.prog 51 #[.agg #[.int .i64 P, .int .i64 D], .agg #[.int .i64 B, .int .i64 L]] w fun e w' => e = .returned (.string (strA (spreadL [66] B [otherC P D] (L - B) L))) ∧ Below w.heap.size w w' := by
  obtain ⟨w1, hw1, h0, h1, hb1, hz1⟩ := boxH22 w (.int .i64 P) (.int .i64 D) (.int .i64 B) (.int .i64 L) 39 72
  have HW1 := Lib.hid hw1
  obtain ⟨p0, p1, -, -⟩ := two_cell h0
  have i0 : (0 : Int) ≤ (L : Int) - B := by omega
  have i1 : (L : Int) - B ≤ 1000 := by omega
  clear hw1
  by_cases hst : D < P
  · have hc : otherC P D = 84 := by unfold otherC; rw [if_pos hst]
    rw [hc]
    clear hc
    have hd : decide (D < P) = true := by simpa using hst
    have HD := Lib.hid hd
    clear hd hst
    go_enter Tryz.func51, Tryz.ntmps51
    go_wp2_with fail
    rw [← HW1.out]
    go_wp2_with fail
    refine (rfSteepB P D true _ HD.out).mono ?_
    rintro e w2 ⟨rfl, hb2⟩
    have k1 := (hb2.block _ (Array.getElem?_eq_some_iff.1 h1).1).trans h1
    have B2 := hb1.trans (hb2.mono hb1.size)
    obtain ⟨q0, q1, -, -⟩ := two_cell k1
    clear p0 p1 h0 h1 hb1 hb2 k1
    go_wp2_with fail
    refine (rfMixC 84 B L _ _ rfl hBL hL).mono ?_
    rintro e w3 ⟨rfl, hb3⟩
    go_wp2
    go_ret
    exact ⟨rfl, B2.trans (hb3.mono B2.size)⟩
  · have hc : otherC P D = 78 := by unfold otherC; rw [if_neg hst]
    rw [hc]
    clear hc
    have hd : decide (D < P) = false := by simpa using hst
    have HD := Lib.hid hd
    clear hd hst
    go_enter Tryz.func51, Tryz.ntmps51
    go_wp2_with fail
    rw [← HW1.out]
    go_wp2_with fail
    refine (rfSteepB P D false _ HD.out).mono ?_
    rintro e w2 ⟨rfl, hb2⟩
    have k1 := (hb2.block _ (Array.getElem?_eq_some_iff.1 h1).1).trans h1
    have B2 := hb1.trans (hb2.mono hb1.size)
    obtain ⟨q0, q1, -, -⟩ := two_cell k1
    clear p0 p1 h0 h1 hb1 hb2 k1
    go_wp2_with fail
    refine (rfMixC 78 B L _ _ rfl hBL hL).mono ?_
    rintro e w3 ⟨rfl, hb3⟩
    go_wp2
    go_ret
    exact ⟨rfl, B2.trans (hb3.mono B2.size)⟩
/-- ratio, where the result and the error are the expected ones. -/
theorem lawRatio (x y u v : Int) (E : Int) (w : World) (h1 : E ≠ 0 → x = 0 ∧ y = 0) (h0 : E = 0 → x = u ∧ y = v) :
    Calls Tryz.prog 30 #[.agg #[.int .i64 x, .int .i64 y], .int .i64 E, .int .i64 E, .agg #[.int .i64 u, .int .i64 v]] w fun e w' => e = .returned (.bool true) ∧ Below w.heap.size w w' := by
  obtain ⟨w1, hw1, k0, k1, hb1, hz1⟩ := boxH22 w (.int .i64 x) (.int .i64 y) (.int .i64 u) (.int .i64 v) 39 39
  have HW1 := Lib.hid hw1
  obtain ⟨p0, p1, -, -⟩ := two_cell k0
  obtain ⟨q0, q1, -, -⟩ := two_cell k1
  clear hw1 k0 k1
  by_cases h : E = 0
  · obtain ⟨rfl, rfl⟩ := h0 h
    subst h
    clear h0 h1
    go_enter Tryz.func30, Tryz.ntmps30
    go_wp2_with fail
    rw [← HW1.out]
    go_wp2
    go_ret
    exact ⟨rfl, hb1⟩
  · obtain ⟨rfl, rfl⟩ := h1 h
    have hne := neE h
    have hee : (E == E) = true := by simp
    clear h0 h1 h
    go_enter Tryz.func30, Tryz.ntmps30
    go_wp2_with fail
    rw [← HW1.out]
    go_wp2
    go_ret
    exact ⟨rfl, hb1⟩
end Go.Proofs.YtgpgdjdababidaaGreatDoor

/- The walk of TaperShares. -/
namespace Go.Proofs.YtgpgdjdababidaaGreatDoor
open Go.RowKit Go.Shelf Ck

set_option maxHeartbeats 4000000 in
set_option maxRecDepth 100000 in
theorem lawSharesNo (a b E : Int) (w : World) (hE : ratE a b = E) (h0 : E ≠ 0) : 
    Calls Tryz.prog 7 #[.agg #[.int .i64 a, .int .i64 b]] w fun e w' => e = .returned (.bool true) ∧ Below w.heap.size w w' := by
  have HE := Lib.hid hE
  have HN := Lib.hid h0
  have hne := neE h0
  have hnz : (E == 0) = false := by rw [beq_eq_false_iff_ne]; exact h0
  clear hE h0
  obtain ⟨w1, hw1, k0, hb1, hz1⟩ := boxH2 w (.int .i64 a) (.int .i64 b) 39
  have HW1 := Lib.hid hw1
  obtain ⟨p0, p1, -, -⟩ := two_cell k0
  clear hw1
  go_enter Tryz.func7, Tryz.ntmps7
  go_wp2_with fail
  rw [← HW1.out]
  refine (awake2 _).mono ?_
  rintro e w2 ⟨rfl, hb2⟩
  have k2 := (hb2.block _ (Array.getElem?_eq_some_iff.1 k0).1).trans k0
  have B2 := hb1.trans (hb2.mono hb1.size)
  clear p0 p1 k0 hb1 hb2
  obtain ⟨p0, p1, -, -⟩ := two_cell k2
  go_wp2_with fail
  refine (tpShareNo a b E _ HE.out HN.out).mono ?_
  rintro e w3 ⟨rfl, hb3⟩
  have k3 := (hb3.block _ (Array.getElem?_eq_some_iff.1 k2).1).trans k2
  have B3 := B2.trans (hb3.mono B2.size)
  clear p0 p1 k2 hb3 B2
  obtain ⟨w4, hw4, s4, hb4, -⟩ := boxH2 w3 (.int .i64 0) (.int .i64 0) 39
  have k4 := (hb4.block _ (Array.getElem?_eq_some_iff.1 k3).1).trans k3
  have B4 := B3.trans (hb4.mono B3.size)
  obtain ⟨p0, p1, -, -⟩ := two_cell k4
  obtain ⟨e0, e1, -, -⟩ := two_cell k4
  rw [hw4] at e0 e1
  have HW4 := Lib.hid hw4
  clear hw4 k3 hb4 B3
  go_wp2_with fail
  rw [← HW4.out]
  refine (tpExactNo a b E _ HE.out HN.out).mono ?_
  rintro e w5 ⟨rfl, hb5⟩
  have k5 := (hb5.block _ (Array.getElem?_eq_some_iff.1 k4).1).trans k4
  have s5 := (hb5.block _ (Array.getElem?_eq_some_iff.1 s4).1).trans s4
  have B5 := B4.trans (hb5.mono B4.size)
  clear p0 p1 k4 s4 hb5 B4 e0 e1
  obtain ⟨p0, p1, -, -⟩ := two_cell k5
  go_wp2_with fail
  refine (rfCheckRatio _ _ _).mono ?_
  rintro e w6 ⟨rfl, hb6⟩
  rw [HE.out]
  have k6 := (hb6.block _ (Array.getElem?_eq_some_iff.1 k5).1).trans k5
  have s6 := (hb6.block _ (Array.getElem?_eq_some_iff.1 s5).1).trans s5
  have B6 := B5.trans (hb6.mono B5.size)
  clear p0 p1 k5 s5 hb6 B5
  have zA := (Array.getElem?_eq_some_iff.1 k6).1
  have zS := (Array.getElem?_eq_some_iff.1 s6).1
  obtain ⟨w7, hw7, t7, hb7, -⟩ := boxH2 w6 (.int .i64 0) (.int .i64 0) 39
  have k7 := (hb7.block _ (Array.getElem?_eq_some_iff.1 k6).1).trans k6
  have s7 := (hb7.block _ (Array.getElem?_eq_some_iff.1 s6).1).trans s6
  have B7 := B6.trans (hb7.mono B6.size)
  have hw7' := hw7.symm
  obtain ⟨p0, p1, -, -⟩ := two_cell k7
  obtain ⟨q0, q1, -, -⟩ := two_cell s7
  clear hw7 k6 s6 hb7 B6
  obtain ⟨r0, r1, -, -⟩ := two_cell t7
  clear k7 s7 t7
  go_wp2_with fail
  refine (lawRatio 0 0 0 0 E _ (fun _ => ⟨rfl, rfl⟩) (fun _ => ⟨rfl, rfl⟩)).mono ?_
  rintro e w8 ⟨rfl, hb8⟩
  have B8 := B7.trans (hb8.mono B7.size)
  clear p0 p1 q0 q1 r0 r1 hw7' hb8
  go_wp2_with fail
  refine (lawText ⟨#[]⟩ ⟨#[]⟩ E _ (fun _ => rfl) (fun _ => rfl)).mono ?_
  rintro e w9 ⟨rfl, rfl⟩
  go_wp2
  go_ret
  exact ⟨rfl, B8⟩
set_option maxHeartbeats 4000000 in
set_option maxRecDepth 100000 in
theorem lawSharesOk (P D : Nat) (w : World) (h0 : ratE (P : Int) (D : Int) = 0) (hm : shareL P D ≤ 64) : 
    Calls Tryz.prog 7 #[.agg #[.int .i64 P, .int .i64 D]] w fun e w' => e = .returned (.bool true) ∧ Below w.heap.size w w' := by
  obtain ⟨P', D', hP, hD, g1, g2, g3, g4⟩ := ratE_zero h0
  have eP : P' = P := by omega
  have eD : D' = D := by omega
  rw [eP] at g1
  rw [eD] at g2 g3
  have HE := Lib.hid h0
  obtain ⟨s1, s2, s3⟩ := shareL_pos (P := P) g2
  have HM := Lib.hid hm
  have HWD := Lib.hid (show strA (spreadL [66] (shareB P D) [otherC P D] (shareL P D - shareB P D) (shareL P D)) = slB P D from rfl)
  obtain ⟨W, hW⟩ : ∃ W, slB P D = W := ⟨_, rfl⟩
  have HSL := Lib.hid hW
  rw [hW] at HWD
  clear hW
  obtain ⟨B, hB⟩ : ∃ B, shareB P D = B := ⟨_, rfl⟩
  obtain ⟨L, hL⟩ : ∃ L, shareL P D = L := ⟨_, rfl⟩
  rw [hB] at s3
  rw [hL] at s1 s2 s3 hm
  rw [hB, hL] at HWD
  have HB := Lib.hid hB
  have HL := Lib.hid hL
  clear h0 hP hD eP eD hB hL
  obtain ⟨w1, hw1, k0, hb1, hz1⟩ := boxH2 w (.int .i64 P) (.int .i64 D) 39
  have HW1 := Lib.hid hw1
  obtain ⟨p0, p1, -, -⟩ := two_cell k0
  clear hw1
  go_enter Tryz.func7, Tryz.ntmps7
  go_wp2_with fail
  rw [← HW1.out]
  refine (awake2 _).mono ?_
  rintro e w2 ⟨rfl, hb2⟩
  have k2 := (hb2.block _ (Array.getElem?_eq_some_iff.1 k0).1).trans k0
  have B2 := hb1.trans (hb2.mono hb1.size)
  clear p0 p1 k0 hb1 hb2
  obtain ⟨p0, p1, -, -⟩ := two_cell k2
  go_wp2_with fail
  refine (tpShareOk P D _ HE.out (Nat.le_trans HM.out (by decide))).mono ?_
  rintro e w3 ⟨rfl, hb3⟩
  rw [HB.out, HL.out]
  have k3 := (hb3.block _ (Array.getElem?_eq_some_iff.1 k2).1).trans k2
  have B3 := B2.trans (hb3.mono B2.size)
  clear p0 p1 k2 hb3 B2
  obtain ⟨w4, hw4, s4, hb4, -⟩ := boxH2 w3 (.int .i64 B) (.int .i64 L) 39
  have k4 := (hb4.block _ (Array.getElem?_eq_some_iff.1 k3).1).trans k3
  have B4 := B3.trans (hb4.mono B3.size)
  have hw4' := hw4.symm
  obtain ⟨p0, p1, -, -⟩ := two_cell k4
  clear hw4 k3 hb4 B3
  go_wp2_with fail
  refine (tpExactOk P D _ HE.out HM.out).mono ?_
  rintro e w5 ⟨rfl, hb5⟩
  rw [HSL.out]
  have k5 := (hb5.block _ (Array.getElem?_eq_some_iff.1 k4).1).trans k4
  have s5 := (hb5.block _ (Array.getElem?_eq_some_iff.1 s4).1).trans s4
  have B5 := B4.trans (hb5.mono B4.size)
  clear p0 p1 k4 s4 hb5 B4 hw4'
  obtain ⟨p0, p1, -, -⟩ := two_cell k5
  go_wp2_with fail
  refine (rfCheckRatio _ _ _).mono ?_
  rintro e w6 ⟨rfl, hb6⟩
  rw [HE.out]
  have k6 := (hb6.block _ (Array.getElem?_eq_some_iff.1 k5).1).trans k5
  have s6 := (hb6.block _ (Array.getElem?_eq_some_iff.1 s5).1).trans s5
  have B6 := B5.trans (hb6.mono B5.size)
  clear p0 p1 k5 s5 hb6 B5
  have zA := (Array.getElem?_eq_some_iff.1 k6).1
  have zS := (Array.getElem?_eq_some_iff.1 s6).1
  obtain ⟨w7, hw7, t7, hb7, -⟩ := boxH2 w6 (.int .i64 0) (.int .i64 0) 39
  have k7 := (hb7.block _ (Array.getElem?_eq_some_iff.1 k6).1).trans k6
  have s7 := (hb7.block _ (Array.getElem?_eq_some_iff.1 s6).1).trans s6
  have B7 := B6.trans (hb7.mono B6.size)
  have hw7' := hw7.symm
  obtain ⟨p0, p1, -, -⟩ := two_cell k7
  obtain ⟨q0, q1, -, -⟩ := two_cell s7
  clear hw7 k6 s6 hb7 B6
  have m7 := t7
  obtain ⟨r0, r1, r2, r3⟩ := two_cell t7
  have hz7 := (Array.getElem?_eq_some_iff.1 t7).1
  go_wp2_with fail
  refine (rfShare P D _ g2 (by omega) (by omega)).mono ?_
  rintro e w8 ⟨rfl, hb8⟩
  rw [HB.out, HL.out]
  have k8 := (hb8.block _ (Array.getElem?_eq_some_iff.1 k7).1).trans k7
  have s8 := (hb8.block _ (Array.getElem?_eq_some_iff.1 s7).1).trans s7
  have t8 := (hb8.block _ hz7).trans m7
  have B8 := B7.trans (hb8.mono B7.size)
  clear p0 p1 q0 q1 r0 r1 r2 r3 k7 s7 t7 m7 hb8 B7 hw7'
  obtain ⟨r0, r1, r2, r3⟩ := two_cell t8
  obtain ⟨y1, y2⟩ := two_set t8 (.int .i64 B) (.int .i64 L)
  have k9 := (y2.block _ (Array.getElem?_eq_some_iff.1 k8).1 (fun e => by injection e; omega)).trans k8
  have s9 := (y2.block _ (Array.getElem?_eq_some_iff.1 s8).1 (fun e => by injection e; omega)).trans s8
  have B9 := B8.grown y2 B8.size (fun j e => by cases e; omega)
  obtain ⟨p0, p1, -, -⟩ := two_cell k9
  obtain ⟨q0, q1, -, -⟩ := two_cell s9
  obtain ⟨u0, u1, -, -⟩ := two_cell y1
  have hLi : ¬ (64 : Int) < (L : Int) := by omega
  have hLm : ¬ (999999999 : Int) < (L : Int) := by omega
  have hBm : ¬ (999999999 : Int) < (B : Int) := by omega
  have zB9 := B9.size
  have zw6 : w6.heap.size < w8.heap.size := (Array.getElem?_eq_some_iff.1 t8).1
  clear k8 s8 t8 y2 B8
  go_wp2_with fail
  refine (rfWord P D B L _ s3 (by omega)).mono ?_
  rintro e w10 ⟨rfl, hb10⟩
  rw [HWD.out]
  have s10 := (hb10.block _ (Array.getElem?_eq_some_iff.1 s9).1).trans s9
  have y10 := (hb10.block _ (Array.getElem?_eq_some_iff.1 y1).1).trans y1
  have B10 := B9.trans (hb10.mono B9.size)
  clear p0 p1 q0 q1 r0 r1 r2 r3 u0 u1 k9 s9 y1 hb10 B9
  obtain ⟨q0, q1, -, -⟩ := two_cell s10
  obtain ⟨u0, u1, -, -⟩ := two_cell y10
  go_wp2_with fail
  refine (lawRatio B L B L 0 _ (fun h => absurd rfl h) (fun _ => ⟨rfl, rfl⟩)).mono ?_
  rintro e w11 ⟨rfl, hb11⟩
  have B11 := B10.trans (hb11.mono B10.size)
  clear q0 q1 u0 u1 s10 y10 hb11
  go_wp2_with fail
  refine (lawText W W 0 _ (fun h => absurd rfl h) (fun _ => rfl)).mono ?_
  rintro e w12 ⟨rfl, rfl⟩
  go_wp2
  go_ret
  exact ⟨rfl, B11⟩
set_option maxHeartbeats 4000000 in
set_option maxRecDepth 100000 in
theorem lawSharesLong (P D : Nat) (w : World) (h0 : ratE (P : Int) (D : Int) = 0) (hm : 64 < shareL P D) (hx : shareL P D ≤ 999999999) : 
    Calls Tryz.prog 7 #[.agg #[.int .i64 P, .int .i64 D]] w fun e w' => e = .returned (.bool true) ∧ Below w.heap.size w w' := by
  obtain ⟨P', D', hP, hD, g1, g2, g3, g4⟩ := ratE_zero h0
  have eP : P' = P := by omega
  have eD : D' = D := by omega
  rw [eP] at g1
  rw [eD] at g2 g3
  have HE := Lib.hid h0
  obtain ⟨s1, s2, s3⟩ := shareL_pos (P := P) g2
  have HM := Lib.hid hm
  have HX := Lib.hid hx
  obtain ⟨B, hB⟩ : ∃ B, shareB P D = B := ⟨_, rfl⟩
  obtain ⟨L, hL⟩ : ∃ L, shareL P D = L := ⟨_, rfl⟩
  rw [hB] at s3
  rw [hL] at s1 s2 s3 hm hx
  have HB := Lib.hid hB
  have HL := Lib.hid hL
  clear h0 hP hD eP eD hB hL
  obtain ⟨w1, hw1, k0, hb1, hz1⟩ := boxH2 w (.int .i64 P) (.int .i64 D) 39
  have HW1 := Lib.hid hw1
  obtain ⟨p0, p1, -, -⟩ := two_cell k0
  clear hw1
  go_enter Tryz.func7, Tryz.ntmps7
  go_wp2_with fail
  rw [← HW1.out]
  refine (awake2 _).mono ?_
  rintro e w2 ⟨rfl, hb2⟩
  have k2 := (hb2.block _ (Array.getElem?_eq_some_iff.1 k0).1).trans k0
  have B2 := hb1.trans (hb2.mono hb1.size)
  clear p0 p1 k0 hb1 hb2
  obtain ⟨p0, p1, -, -⟩ := two_cell k2
  go_wp2_with fail
  refine (tpShareOk P D _ HE.out HX.out).mono ?_
  rintro e w3 ⟨rfl, hb3⟩
  rw [HB.out, HL.out]
  have k3 := (hb3.block _ (Array.getElem?_eq_some_iff.1 k2).1).trans k2
  have B3 := B2.trans (hb3.mono B2.size)
  clear p0 p1 k2 hb3 B2
  obtain ⟨w4, hw4, s4, hb4, -⟩ := boxH2 w3 (.int .i64 B) (.int .i64 L) 39
  have k4 := (hb4.block _ (Array.getElem?_eq_some_iff.1 k3).1).trans k3
  have B4 := B3.trans (hb4.mono B3.size)
  have hw4' := hw4.symm
  obtain ⟨p0, p1, -, -⟩ := two_cell k4
  clear hw4 k3 hb4 B3
  go_wp2_with fail
  refine (tpExactLong P D _ HE.out HM.out).mono ?_
  rintro e w5 ⟨rfl, hb5⟩
  have k5 := (hb5.block _ (Array.getElem?_eq_some_iff.1 k4).1).trans k4
  have s5 := (hb5.block _ (Array.getElem?_eq_some_iff.1 s4).1).trans s4
  have B5 := B4.trans (hb5.mono B4.size)
  clear p0 p1 k4 s4 hb5 B4 hw4'
  obtain ⟨p0, p1, -, -⟩ := two_cell k5
  go_wp2_with fail
  refine (rfCheckRatio _ _ _).mono ?_
  rintro e w6 ⟨rfl, hb6⟩
  rw [HE.out]
  have k6 := (hb6.block _ (Array.getElem?_eq_some_iff.1 k5).1).trans k5
  have s6 := (hb6.block _ (Array.getElem?_eq_some_iff.1 s5).1).trans s5
  have B6 := B5.trans (hb6.mono B5.size)
  clear p0 p1 k5 s5 hb6 B5
  have zA := (Array.getElem?_eq_some_iff.1 k6).1
  have zS := (Array.getElem?_eq_some_iff.1 s6).1
  obtain ⟨w7, hw7, t7, hb7, -⟩ := boxH2 w6 (.int .i64 0) (.int .i64 0) 39
  have k7 := (hb7.block _ (Array.getElem?_eq_some_iff.1 k6).1).trans k6
  have s7 := (hb7.block _ (Array.getElem?_eq_some_iff.1 s6).1).trans s6
  have B7 := B6.trans (hb7.mono B6.size)
  have hw7' := hw7.symm
  obtain ⟨p0, p1, -, -⟩ := two_cell k7
  obtain ⟨q0, q1, -, -⟩ := two_cell s7
  clear hw7 k6 s6 hb7 B6
  have m7 := t7
  obtain ⟨r0, r1, r2, r3⟩ := two_cell t7
  have hz7 := (Array.getElem?_eq_some_iff.1 t7).1
  go_wp2_with fail
  refine (rfShare P D _ g2 (by omega) (by omega)).mono ?_
  rintro e w8 ⟨rfl, hb8⟩
  rw [HB.out, HL.out]
  have k8 := (hb8.block _ (Array.getElem?_eq_some_iff.1 k7).1).trans k7
  have s8 := (hb8.block _ (Array.getElem?_eq_some_iff.1 s7).1).trans s7
  have t8 := (hb8.block _ hz7).trans m7
  have B8 := B7.trans (hb8.mono B7.size)
  clear p0 p1 q0 q1 r0 r1 r2 r3 k7 s7 t7 m7 hb8 B7 hw7'
  obtain ⟨r0, r1, r2, r3⟩ := two_cell t8
  obtain ⟨y1, y2⟩ := two_set t8 (.int .i64 B) (.int .i64 L)
  have k9 := (y2.block _ (Array.getElem?_eq_some_iff.1 k8).1 (fun e => by injection e; omega)).trans k8
  have s9 := (y2.block _ (Array.getElem?_eq_some_iff.1 s8).1 (fun e => by injection e; omega)).trans s8
  have B9 := B8.grown y2 B8.size (fun j e => by cases e; omega)
  obtain ⟨p0, p1, -, -⟩ := two_cell k9
  obtain ⟨q0, q1, -, -⟩ := two_cell s9
  obtain ⟨u0, u1, -, -⟩ := two_cell y1
  have hLi : (64 : Int) < (L : Int) := by omega
  have hLm : ¬ (999999999 : Int) < (L : Int) := by omega
  have hBm : ¬ (999999999 : Int) < (B : Int) := by omega
  clear k8 s8 t8 y2 B8
  go_wp2_with fail
  refine (lawRatio B L B L 0 _ (fun h => absurd rfl h) (fun _ => ⟨rfl, rfl⟩)).mono ?_
  rintro e w11 ⟨rfl, hb11⟩
  have B11 := B9.trans (hb11.mono B9.size)
  clear p0 p1 q0 q1 r0 r1 r2 r3 u0 u1 k9 s9 y1 hb11
  go_wp2_with fail
  refine (lawText ⟨#[]⟩ ⟨#[]⟩ 26 _ (fun _ => rfl) (fun h => absurd h (by decide))).mono ?_
  rintro e w12 ⟨rfl, rfl⟩
  go_wp2
  go_ret
  exact ⟨rfl, B11⟩
set_option maxHeartbeats 4000000 in
set_option maxRecDepth 100000 in
theorem lawSharesBig (P D : Nat) (w : World) (h0 : ratE (P : Int) (D : Int) = 0) (hm : 64 < shareL P D) (hx : 999999999 < shareL P D) : 
    Calls Tryz.prog 7 #[.agg #[.int .i64 P, .int .i64 D]] w fun e w' => e = .returned (.bool true) ∧ Below w.heap.size w w' := by
  obtain ⟨P', D', hP, hD, g1, g2, g3, g4⟩ := ratE_zero h0
  have eP : P' = P := by omega
  have eD : D' = D := by omega
  rw [eP] at g1
  rw [eD] at g2 g3
  have HE := Lib.hid h0
  obtain ⟨s1, s2, s3⟩ := shareL_pos (P := P) g2
  have HM := Lib.hid hm
  have HX := Lib.hid hx
  obtain ⟨B, hB⟩ : ∃ B, shareB P D = B := ⟨_, rfl⟩
  obtain ⟨L, hL⟩ : ∃ L, shareL P D = L := ⟨_, rfl⟩
  rw [hB] at s3
  rw [hL] at s1 s2 s3 hm hx
  have HB := Lib.hid hB
  have HL := Lib.hid hL
  clear h0 hP hD eP eD hB hL
  obtain ⟨w1, hw1, k0, hb1, hz1⟩ := boxH2 w (.int .i64 P) (.int .i64 D) 39
  have HW1 := Lib.hid hw1
  obtain ⟨p0, p1, -, -⟩ := two_cell k0
  clear hw1
  go_enter Tryz.func7, Tryz.ntmps7
  go_wp2_with fail
  rw [← HW1.out]
  refine (awake2 _).mono ?_
  rintro e w2 ⟨rfl, hb2⟩
  have k2 := (hb2.block _ (Array.getElem?_eq_some_iff.1 k0).1).trans k0
  have B2 := hb1.trans (hb2.mono hb1.size)
  clear p0 p1 k0 hb1 hb2
  obtain ⟨p0, p1, -, -⟩ := two_cell k2
  go_wp2_with fail
  refine (tpShareBig P D _ HE.out HX.out).mono ?_
  rintro e w3 ⟨rfl, hb3⟩
  have k3 := (hb3.block _ (Array.getElem?_eq_some_iff.1 k2).1).trans k2
  have B3 := B2.trans (hb3.mono B2.size)
  clear p0 p1 k2 hb3 B2
  obtain ⟨w4, hw4, s4, hb4, -⟩ := boxH2 w3 (.int .i64 0) (.int .i64 0) 39
  have k4 := (hb4.block _ (Array.getElem?_eq_some_iff.1 k3).1).trans k3
  have B4 := B3.trans (hb4.mono B3.size)
  obtain ⟨p0, p1, -, -⟩ := two_cell k4
  obtain ⟨e0, e1, -, -⟩ := two_cell k4
  rw [hw4] at e0 e1
  have HW4 := Lib.hid hw4
  clear hw4 k3 hb4 B3
  go_wp2_with fail
  rw [← HW4.out]
  refine (tpExactLong P D _ HE.out HM.out).mono ?_
  rintro e w5 ⟨rfl, hb5⟩
  have k5 := (hb5.block _ (Array.getElem?_eq_some_iff.1 k4).1).trans k4
  have s5 := (hb5.block _ (Array.getElem?_eq_some_iff.1 s4).1).trans s4
  have B5 := B4.trans (hb5.mono B4.size)
  clear p0 p1 k4 s4 hb5 B4 e0 e1
  obtain ⟨p0, p1, -, -⟩ := two_cell k5
  go_wp2_with fail
  refine (rfCheckRatio _ _ _).mono ?_
  rintro e w6 ⟨rfl, hb6⟩
  rw [HE.out]
  have k6 := (hb6.block _ (Array.getElem?_eq_some_iff.1 k5).1).trans k5
  have s6 := (hb6.block _ (Array.getElem?_eq_some_iff.1 s5).1).trans s5
  have B6 := B5.trans (hb6.mono B5.size)
  clear p0 p1 k5 s5 hb6 B5
  have zA := (Array.getElem?_eq_some_iff.1 k6).1
  have zS := (Array.getElem?_eq_some_iff.1 s6).1
  obtain ⟨w7, hw7, t7, hb7, -⟩ := boxH2 w6 (.int .i64 0) (.int .i64 0) 39
  have k7 := (hb7.block _ (Array.getElem?_eq_some_iff.1 k6).1).trans k6
  have s7 := (hb7.block _ (Array.getElem?_eq_some_iff.1 s6).1).trans s6
  have B7 := B6.trans (hb7.mono B6.size)
  have hw7' := hw7.symm
  obtain ⟨p0, p1, -, -⟩ := two_cell k7
  obtain ⟨q0, q1, -, -⟩ := two_cell s7
  clear hw7 k6 s6 hb7 B6
  have m7 := t7
  obtain ⟨r0, r1, r2, r3⟩ := two_cell t7
  have hz7 := (Array.getElem?_eq_some_iff.1 t7).1
  go_wp2_with fail
  refine (rfShare P D _ g2 (by omega) (by omega)).mono ?_
  rintro e w8 ⟨rfl, hb8⟩
  rw [HB.out, HL.out]
  have k8 := (hb8.block _ (Array.getElem?_eq_some_iff.1 k7).1).trans k7
  have s8 := (hb8.block _ (Array.getElem?_eq_some_iff.1 s7).1).trans s7
  have t8 := (hb8.block _ hz7).trans m7
  have B8 := B7.trans (hb8.mono B7.size)
  clear p0 p1 q0 q1 r0 r1 r2 r3 k7 s7 t7 m7 hb8 B7 hw7'
  obtain ⟨r0, r1, r2, r3⟩ := two_cell t8
  obtain ⟨y1, y2⟩ := two_set t8 (.int .i64 B) (.int .i64 L)
  have k9 := (y2.block _ (Array.getElem?_eq_some_iff.1 k8).1 (fun e => by injection e; omega)).trans k8
  have s9 := (y2.block _ (Array.getElem?_eq_some_iff.1 s8).1 (fun e => by injection e; omega)).trans s8
  have B9 := B8.grown y2 B8.size (fun j e => by cases e; omega)
  obtain ⟨p0, p1, -, -⟩ := two_cell k9
  obtain ⟨q0, q1, -, -⟩ := two_cell s9
  obtain ⟨u0, u1, -, -⟩ := two_cell y1
  have hLi : (64 : Int) < (L : Int) := by omega
  have hLm : (999999999 : Int) < (L : Int) := by omega
  clear k8 s8 t8 y2 B8
  by_cases hBm : (999999999 : Int) < (B : Int)
  · go_wp2_with fail
    refine (lawRatio 0 0 B L 4 _ (fun _ => ⟨rfl, rfl⟩) (fun h => absurd h (by decide))).mono ?_
    rintro e w11 ⟨rfl, hb11⟩
    have B11 := B9.trans (hb11.mono B9.size)
    clear p0 p1 q0 q1 r0 r1 r2 r3 u0 u1 k9 s9 y1 hb11
    go_wp2_with fail
    refine (lawText ⟨#[]⟩ ⟨#[]⟩ 26 _ (fun _ => rfl) (fun h => absurd h (by decide))).mono ?_
    rintro e w12 ⟨rfl, rfl⟩
    go_wp2
    go_ret
    exact ⟨rfl, B11⟩
  · go_wp2_with fail
    refine (lawRatio 0 0 B L 4 _ (fun _ => ⟨rfl, rfl⟩) (fun h => absurd h (by decide))).mono ?_
    rintro e w11 ⟨rfl, hb11⟩
    have B11 := B9.trans (hb11.mono B9.size)
    clear p0 p1 q0 q1 r0 r1 r2 r3 u0 u1 k9 s9 y1 hb11
    go_wp2_with fail
    refine (lawText ⟨#[]⟩ ⟨#[]⟩ 26 _ (fun _ => rfl) (fun h => absurd h (by decide))).mono ?_
    rintro e w12 ⟨rfl, rfl⟩
    go_wp2
    go_ret
    exact ⟨rfl, B11⟩
theorem lawShares (a b : Int) (w : World) :
    Calls Tryz.prog 7 #[.agg #[.int .i64 a, .int .i64 b]] w fun e w' => e = .returned (.bool true) ∧ Below w.heap.size w w' := by
  by_cases h0 : ratE a b = 0
  · obtain ⟨P, D, rfl, rfl, -, -, -, -⟩ := ratE_zero h0
    by_cases h1 : shareL P D ≤ 64
    · exact lawSharesOk P D w h0 h1
    · by_cases h2 : shareL P D ≤ 999999999
      · exact lawSharesLong P D w h0 (by omega) h2
      · exact lawSharesBig P D w h0 (by omega) (by omega)
  · exact lawSharesNo a b _ w rfl h0
end Go.Proofs.YtgpgdjdababidaaGreatDoor

namespace Go.Proofs.YtgpgdjdababidaaGreatDoor
open Go.ChangeShapes Go.WideShapes Go.ChangeAt Go.WideMaps Go.WideElems Go.RowKit

set_option maxRecDepth 100000 in
theorem shares_lifted (os : Os) (started : os.Started) (H : Type) (enc : TypeId × Value → H) :
    ReturnsInHanded {} Tryz.checked os 7 .any (fun w args => (Rows.taperSharesSpec.pre enc Tryz.prog Tryz.f7 [] false w args ∧ laidMetH Tryz.prog taLaid w) ∧ sizedMet enc Tryz.prog Tryz.f7 (OpenSpec.ofChange Rows.taperSharesSpec) false w args)
      (Rows.taperSharesSpec.post enc Tryz.prog Tryz.f7 false true false false) := by
  refine returnsInHanded_of_change_and (C := Tryz.checked) (X := fun w _ => laidMetH Tryz.prog taLaid w) (fun _ _ _ hh h => h.of_heap hh) Tryz.ownT started (by kernel_rfl) Tryz.func7
    (ChangeSpec.witness_shaped (enc := enc) (C := Tryz.checked) (os := os) (X := fun w _ => laidMetH Tryz.prog taLaid w) false (World.doorLaid Tryz.prog 400 os) #[.agg #[.int .i64 0, .int .i64 0]] 8 rfl (World.shaped_of_RefB (by kernel_rfl) (by kernel_rfl)) (by kernel_rfl) (by kernel_rfl) (by kernel_rfl) (door_met os _)) ?_
  intro W base args ds gs before hval0 hW _ _ hL _
  have hval : ∀ (j : Nat) t v, Tryz.f7.params[j]? = some t → args[j]? = some v → Value.okWide Tryz.prog W .any base t v := hval0
  have hW' := hW
  obtain ⟨p, q, hA0, hV, rfl, hfz, hnd⟩ := hW
  have hA : DataW.TrodAll enc Tryz.prog W 0 (fun _ => true) true Tryz.f7.params.toList args.toList ds p := hA0
  rw [Tryz.params7] at hA hval
  obtain ⟨v0, d0, rfl, rfl, h0⟩ := trodAll_one hA
  obtain ⟨rfl, rfl⟩ := trodVars_none hV
  clear hA0 hval0
  simp only [List.append_nil] at hW'
  have hlt : ∀ x ∈ p, x.block < W.heap.size := fun x hx => by simpa using hW'.lt x hx
  obtain ⟨z00, z01, rfl⟩ := open_ratio (hval 0 39 v0 rfl rfl)
  have harg0 : ∀ (W' : World), Below W.heap.size W W' → DataW.Trod enc Tryz.prog W' 0 (fun b => decide (b < W.heap.size)) true 39 (.agg #[.int .i64 z00, .int .i64 z01]) d0 p :=
    fun W' hn => Below.trod Tryz.laidOutT (by kernel_rfl) (of_decide_eq_true (by kernel_rfl)) h0 hn (fun x hx => hlt x (hx))
  refine (lawShares z00 z01 W).mono fun e W' ⟨he, hb⟩ => ?_
  subst he
  refine ⟨_, rfl, _, _, _, [], p, [], hW', ?_, trodAll_mk1 (harg0 W' hb), rfl, hb.frame _, fun h => by cases h⟩
  exact trodAll_mk1 (shut_bool Tryz.underlying4 true)
theorem shares_holds : Rows.TaperSharesSaid :=
  OpenClaim.holds_of_wide 7 Tryz.f7 rfl rfl rfl rfl rfl rfl rfl ⟨rfl, rfl, rfl, rfl, rfl⟩ rfl rfl rfl rfl rfl (by kernel_rfl) Tryz.func7 (by kernel_rfl)
    (of_decide_eq_true (by kernel_rfl)) (by unfold Func.isWrapper; first | (rw [if_pos (by decide +kernel)]; kernel_rfl) | (rw [if_neg (by decide +kernel)]; exact ⟨rfl, rfl⟩))
    (fun os started H enc _ => shares_lifted os started H enc)
theorem shares_card : Rows.TaperSharesCardSaid :=
  Claim7.holds_tied_plain_at .later [] [.data, .data, .data] true (true, "b6e41887c4f920463a90685bca101cdc24d79fe0e4c7c6f96c088de150e08b9e") false
    shares_holds (fun _ h => by cases h) (by kernel_rfl) (fun _ h => by cases h) taperShares_row_tie rfl ⟨rfl, rfl⟩ (by kernel_rfl) rfl
    (fun f fn hf hfn => by
      obtain rfl : f = 7 := Option.some.inj ((show Tryz.prog.funcNamed "codend/codendlaw02.TaperShares" = some 7 by kernel_rfl).symm.trans hf) |>.symm
      obtain rfl : fn = Tryz.f7 := (Option.some.inj (Tryz.func7.symm.trans hfn)).symm
      exact ⟨by kernel_rfl, fun j t ht => by
        rw [Tryz.params7] at ht
        have hm : t ∈ [39] := by simpa using Array.mem_of_getElem? ht
        have hall : ([39].all fun u => !Tryz.prog.wantsStandIn u) = true := by kernel_rfl
        exact (show Tryz.prog.wantsStandIn t = false by simpa using List.all_eq_true.1 hall t hm)⟩)
    (by kernel_rfl)
#print axioms shares_card
end Go.Proofs.YtgpgdjdababidaaGreatDoor
