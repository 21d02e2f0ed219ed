/- TaperRates returns true for every two strings; the library's tables that its row lists are tied to the program's text. Conditions: none beside that. -/
import Derived.Test.YtgpgdjdababidaaGreatDoorM5
/- The reference's CheckRatio, Share and Word; ratio of the statements. -/
namespace Go.Proofs.YtgpgdjdababidaaGreatDoor
open Go.RowKit Go.Shelf Ck

set_option maxHeartbeats 1000000 in
set_option maxRecDepth 100000 in
theorem rfCheckRatio (a b : Int) (w : World) :
    Calls Tryz.prog 49 #[.agg #[.int .i64 a, .int .i64 b]] w fun e w' => e = .returned (.int .i64 (ratE a b)) ∧ Below w.heap.size w w' := by
  obtain ⟨w1, hw1, h0, hb1, hz1⟩ := boxH2 w (.int .i64 a) (.int .i64 b) 39
  obtain ⟨p0, p1, -, -⟩ := two_cell h0
  have HW1 := Lib.hid hw1
  clear hw1 h0
  by_cases hz : rat0 a b = 0
  · obtain ⟨g1, g2, g3, g4⟩ := rat0_zero hz
    have HE := Lib.hid (show ratE a b = (if 1 < a.toNat.gcd b.toNat then 1 else 0) by rw [ratE, if_pos hz])
    clear hz
    obtain ⟨P, rfl⟩ : ∃ P : Nat, a = (P : Int) := ⟨a.toNat, by omega⟩
    obtain ⟨D, rfl⟩ : ∃ D : Nat, b = (D : Int) := ⟨b.toNat, by omega⟩
    rw [Int.toNat_natCast, Int.toNat_natCast] at HE
    have hgp : 0 < P.gcd D := Nat.gcd_pos_of_pos_right _ (by omega)
    obtain ⟨g, hg⟩ : ∃ g, P.gcd D = g := ⟨_, rfl⟩
    have HG := Lib.hid hg
    rw [hg] at HE hgp
    rw [HE.out]
    clear hg HE
    have n1 : ¬ (P : Int) < 0 := by omega
    have n2 : ¬ (999999999 : Int) < (P : Int) := by omega
    have n3 : ¬ (D : Int) < 1 := by omega
    have n4 : ¬ (999999999 : Int) < (D : Int) := by omega
    by_cases hg1 : 1 < g
    · have hgi : ((g : Int) != 1) = true := by rw [bne_iff_ne]; omega
      rw [if_pos hg1]
      go_enter Tryz.func49, Tryz.ntmps49
      go_wp2_with fail
      rw [← HW1.out]
      go_wp2_with fail
      refine (refGcd P D _ (by omega) (by omega)).mono ?_
      rintro e w2 ⟨rfl, hb2⟩
      rw [HG.out]
      go_wp2
      go_ret
      exact ⟨rfl, hb1.trans (hb2.mono hb1.size)⟩
    · have hgi : ((g : Int) != 1) = false := by rw [bne_eq_false_iff_eq]; omega
      rw [if_neg hg1]
      go_enter Tryz.func49, Tryz.ntmps49
      go_wp2_with fail
      rw [← HW1.out]
      go_wp2_with fail
      refine (refGcd P D _ (by omega) (by omega)).mono ?_
      rintro e w2 ⟨rfl, hb2⟩
      rw [HG.out]
      go_wp2
      go_ret
      exact ⟨rfl, hb1.trans (hb2.mono hb1.size)⟩
  · have HE : ratE a b = 3 := by
      rw [ratE, if_neg hz]
      unfold rat0 rngE at hz ⊢
      simp only [firstE] at hz ⊢
      repeat' split
      all_goals first | rfl | (simp_all; done) | omega
    have hc : a < 0 ∨ 999999999 < a ∨ b < 1 ∨ 999999999 < b := by
      by_cases h1 : a < 0
      · exact .inl h1
      · by_cases h2 : 999999999 < a
        · exact .inr (.inl h2)
        · by_cases h3 : b < 1
          · exact .inr (.inr (.inl h3))
          · by_cases h4 : 999999999 < b
            · exact .inr (.inr (.inr h4))
            · exact absurd (show rat0 a b = 0 by
                unfold rat0 rngE
                rw [if_neg (by omega), if_neg (by omega)]
                rfl) hz
    rw [HE]
    clear HE hz
    by_cases h1 : a < 0
    · go_enter Tryz.func49, Tryz.ntmps49
      go_wp2_with (rw [← HW1.out])
      go_ret
      exact ⟨rfl, hb1⟩
    · by_cases h2 : 999999999 < a
      · go_enter Tryz.func49, Tryz.ntmps49
        go_wp2_with (rw [← HW1.out])
        go_ret
        exact ⟨rfl, hb1⟩
      · by_cases h3 : b < 1
        · go_enter Tryz.func49, Tryz.ntmps49
          go_wp2_with (rw [← HW1.out])
          go_ret
          exact ⟨rfl, hb1⟩
        · have h4 : 999999999 < b := by omega
          go_enter Tryz.func49, Tryz.ntmps49
          go_wp2_with (rw [← HW1.out])
          go_ret
          exact ⟨rfl, hb1⟩
set_option maxHeartbeats 1000000 in
theorem rfSteep (a b : Int) (w : World) : Calls Tryz.prog 107 #[.agg #[.int .i64 a, .int .i64 b]] w fun e w' => e = .returned (.bool (decide (b < a))) ∧ Below w.heap.size w w' := by
  obtain ⟨w1, hw1, h0, hb1, hz1⟩ := boxH2 w (.int .i64 a) (.int .i64 b) 39
  obtain ⟨p0, p1, -, -⟩ := two_cell h0
  have HW1 := Lib.hid hw1
  clear hw1 h0
  go_enter Tryz.func107, Tryz.ntmps107
  go_wp2_with fail
  rw [← HW1.out]
  go_wp2
  go_ret
  exact ⟨rfl, hb1⟩
theorem rfSteepB (P D : Nat) (r : Bool) (w : World) (hr : decide (D < P) = r) : Calls Tryz.prog 107 #[.agg #[.int .i64 P, .int .i64 D]] w fun e w' => e = .returned (.bool r) ∧ Below w.heap.size w w' := by
  subst hr
  exact (rfSteep P D w).mono fun e w' ⟨h, hb⟩ => ⟨by rw [h]; exact ret_b (by simp), hb⟩
theorem rfLowestI (a b : Nat) (x y : Int) (w : World) (hx : x = (a : Int)) (hy : y = (b : Int)) (ha : a ≤ 4000000000) (hb : b ≤ 4000000000) (h : 0 < b) :
    Calls Tryz.prog 90 #[.int .i64 x, .int .i64 y] w fun e w' => e = .returned (.agg #[.int .i64 (a / a.gcd b : Nat), .int .i64 (b / a.gcd b : Nat)]) ∧ Below w.heap.size w w' := by
  subst hx hy
  exact refLowest a b w ha hb h
set_option maxHeartbeats 1000000 in
set_option maxRecDepth 100000 in
theorem rfShare (P D : Nat) (w : World) (hD0 : 1 ≤ D) (hP : P ≤ 1000000000) (hD : D ≤ 1000000000) :
    Calls Tryz.prog 50 #[.agg #[.int .i64 P, .int .i64 D]] w fun e w' => e = .returned (.agg #[.int .i64 (shareB P D), .int .i64 (shareL P D)]) ∧ Below w.heap.size w w' := by
  obtain ⟨w1, hw1, h0, h1, hb1, hz1⟩ := boxH22 w (.int .i64 P) (.int .i64 D) (.int .i64 0) (.int .i64 0) 39 39
  have HW1 := Lib.hid hw1
  obtain ⟨p0, p1, -, -⟩ := two_cell h0
  have HB := Lib.hid (show shareB P D = 2 * min P D / (2 * min P D).gcd (P + D) from rfl)
  have HL := Lib.hid (show shareL P D = (P + D) / (2 * min P D).gcd (P + D) from rfl)
  obtain ⟨B, hB⟩ : ∃ B, shareB P D = B := ⟨_, rfl⟩
  obtain ⟨L, hL⟩ : ∃ L, shareL P D = L := ⟨_, rfl⟩
  rw [hB] at HB
  rw [hL] at HL
  rw [hB, hL]
  clear hw1 hB hL
  by_cases hst : D < P
  · have hm : min P D = D := by omega
    rw [hm] at HB HL
    clear hm
    have hd : decide (D < P) = true := by simpa using hst
    have HD := Lib.hid hd
    clear hd hst
    go_enter Tryz.func50, Tryz.ntmps50
    go_wp2_with fail
    rw [← HW1.out]
    go_wp2_with fail
    refine (rfSteepB P D true _ HD.out).mono ?_
    rintro e w2 ⟨rfl, hb2⟩
    have k0 := (hb2.block _ (Array.getElem?_eq_some_iff.1 h0).1).trans h0
    have k1 := (hb2.block _ (Array.getElem?_eq_some_iff.1 h1).1).trans h1
    have B2 := hb1.trans (hb2.mono hb1.size)
    clear p0 p1 h0 h1 hb1 hb2
    obtain ⟨p0, p1, -, -⟩ := two_cell k0
    go_wp2_with fail
    refine (rfLowestI (2 * D) (P + D) _ _ _ (by push_cast; rfl) (by push_cast; rfl) (by omega) (by omega) (by omega)).mono ?_
    rintro e w3 ⟨rfl, hb3⟩
    rw [← HB.out, ← HL.out]
    have m1 := (hb3.block _ (Array.getElem?_eq_some_iff.1 k1).1).trans k1
    have B3 := B2.trans (hb3.mono B2.size)
    obtain ⟨r0, r1, r2, r3⟩ := two_cell m1
    obtain ⟨s5, s6⟩ := two_set m1 (.int .i64 B) (.int .i64 L)
    obtain ⟨t0, t1, -, -⟩ := two_cell s5
    have hbf := B3.grown s6 B3.size (fun j e => by cases e; omega)
    clear k0 k1 m1 s5 s6 p0 p1 hb3 B2
    go_wp2
    exact bodyPost_ret (v := .agg #[.int .i64 B, .int .i64 L]) (by simp [results, Tryz.results50, go_sem, t0, t1]) rfl ⟨rfl, hbf⟩
  · have hm : min P D = P := by omega
    rw [hm] at HB HL
    clear hm
    have hd : decide (D < P) = false := by simpa using hst
    have HD := Lib.hid hd
    clear hd hst
    go_enter Tryz.func50, Tryz.ntmps50
    go_wp2_with fail
    rw [← HW1.out]
    go_wp2_with fail
    refine (rfSteepB P D false _ HD.out).mono ?_
    rintro e w2 ⟨rfl, hb2⟩
    have k0 := (hb2.block _ (Array.getElem?_eq_some_iff.1 h0).1).trans h0
    have k1 := (hb2.block _ (Array.getElem?_eq_some_iff.1 h1).1).trans h1
    have B2 := hb1.trans (hb2.mono hb1.size)
    clear p0 p1 h0 h1 hb1 hb2
    obtain ⟨p0, p1, -, -⟩ := two_cell k0
    go_wp2_with fail
    refine (rfLowestI (2 * P) (P + D) _ _ _ (by push_cast; rfl) (by push_cast; rfl) (by omega) (by omega) (by omega)).mono ?_
    rintro e w3 ⟨rfl, hb3⟩
    rw [← HB.out, ← HL.out]
    have m1 := (hb3.block _ (Array.getElem?_eq_some_iff.1 k1).1).trans k1
    have B3 := B2.trans (hb3.mono B2.size)
    obtain ⟨r0, r1, r2, r3⟩ := two_cell m1
    obtain ⟨s5, s6⟩ := two_set m1 (.int .i64 B) (.int .i64 L)
    obtain ⟨t0, t1, -, -⟩ := two_cell s5
    have hbf := B3.grown s6 B3.size (fun j e => by cases e; omega)
    clear k0 k1 m1 s5 s6 p0 p1 hb3 B2
    go_wp2
    exact bodyPost_ret (v := .agg #[.int .i64 B, .int .i64 L]) (by simp [results, Tryz.results50, go_sem, t0, t1]) rfl ⟨rfl, hbf⟩
theorem rfMixC (c : UInt8) (B L : Nat) (d : Int) (w : World) (hd : d = (L : Int) - B) (hB : B ≤ L) (hL : L ≤ 1000) :
    Calls Tryz.prog 46 #[.string ⟨#[66]⟩, .int .i64 B, .string ⟨#[c]⟩, .int .i64 d] w fun e w' => e = .returned (.string (strA (spreadL [66] B [c] (L - B) L))) ∧ Below w.heap.size w w' := by
  have e : d = ((L - B : Nat) : Int) := by omega
  subst e
  have h := rfMix ⟨#[66]⟩ ⟨#[c]⟩ B (L - B) w (by decide) (by show (1 : Nat) ≤ 100; decide) (by omega) (by omega)
  rw [show B + (L - B) = L by omega] at h
  exact h
set_option maxHeartbeats 1000000 in
set_option maxRecDepth 100000 in
theorem rfWord (P D B L : Nat) (w : World) (hBL : B ≤ L) (hL : L ≤ 1000) :
    Calls Tryz.prog 51 #[.agg #[.int .i64 P, .int .i64 D], .agg #[.int .i64 B, .int .i64 L]] w fun e w' => e = .returned (.string (strA (spreadL [66] B [otherC P D] (L - B) L))) ∧ Below w.heap.size w w' := by
  obtain ⟨w1, hw1, h0, h1, hb1, hz1⟩ := boxH22 w (.int .i64 P) (.int .i64 D) (.int .i64 B) (.int .i64 L) 39 72
  have HW1 := Lib.hid hw1
  obtain ⟨p0, p1, -, -⟩ := two_cell h0
  have i0 : (0 : Int) ≤ (L : Int) - B := by omega
  have i1 : (L : Int) - B ≤ 1000 := by omega
  clear hw1
  by_cases hst : D < P
  · have hc : otherC P D = 84 := by unfold otherC; rw [if_pos hst]
    rw [hc]
    clear hc
    have hd : decide (D < P) = true := by simpa using hst
    have HD := Lib.hid hd
    clear hd hst
    go_enter Tryz.func51, Tryz.ntmps51
    go_wp2_with fail
    rw [← HW1.out]
    go_wp2_with fail
    refine (rfSteepB P D true _ HD.out).mono ?_
    rintro e w2 ⟨rfl, hb2⟩
    have k1 := (hb2.block _ (Array.getElem?_eq_some_iff.1 h1).1).trans h1
    have B2 := hb1.trans (hb2.mono hb1.size)
    obtain ⟨q0, q1, -, -⟩ := two_cell k1
    clear p0 p1 h0 h1 hb1 hb2 k1
    go_wp2_with fail
    refine (rfMixC 84 B L _ _ rfl hBL hL).mono ?_
    rintro e w3 ⟨rfl, hb3⟩
    go_wp2
    go_ret
    exact ⟨rfl, B2.trans (hb3.mono B2.size)⟩
  · have hc : otherC P D = 78 := by unfold otherC; rw [if_neg hst]
    rw [hc]
    clear hc
    have hd : decide (D < P) = false := by simpa using hst
    have HD := Lib.hid hd
    clear hd hst
    go_enter Tryz.func51, Tryz.ntmps51
    go_wp2_with fail
    rw [← HW1.out]
    go_wp2_with fail
    refine (rfSteepB P D false _ HD.out).mono ?_
    rintro e w2 ⟨rfl, hb2⟩
    have k1 := (hb2.block _ (Array.getElem?_eq_some_iff.1 h1).1).trans h1
    have B2 := hb1.trans (hb2.mono hb1.size)
    obtain ⟨q0, q1, -, -⟩ := two_cell k1
    clear p0 p1 h0 h1 hb1 hb2 k1
    go_wp2_with fail
    refine (rfMixC 78 B L _ _ rfl hBL hL).mono ?_
    rintro e w3 ⟨rfl, hb3⟩
    go_wp2
    go_ret
    exact ⟨rfl, B2.trans (hb3.mono B2.size)⟩
/-- ratio, where the result and the error are the expected ones. -/
theorem lawRatio (x y u v : Int) (E : Int) (w : World) (h1 : E ≠ 0 → x = 0 ∧ y = 0) (h0 : E = 0 → x = u ∧ y = v) :
    Calls Tryz.prog 30 #[.agg #[.int .i64 x, .int .i64 y], .int .i64 E, .int .i64 E, .agg #[.int .i64 u, .int .i64 v]] w fun e w' => e = .returned (.bool true) ∧ Below w.heap.size w w' := by
  obtain ⟨w1, hw1, k0, k1, hb1, hz1⟩ := boxH22 w (.int .i64 x) (.int .i64 y) (.int .i64 u) (.int .i64 v) 39 39
  have HW1 := Lib.hid hw1
  obtain ⟨p0, p1, -, -⟩ := two_cell k0
  obtain ⟨q0, q1, -, -⟩ := two_cell k1
  clear hw1 k0 k1
  by_cases h : E = 0
  · obtain ⟨rfl, rfl⟩ := h0 h
    subst h
    clear h0 h1
    go_enter Tryz.func30, Tryz.ntmps30
    go_wp2_with fail
    rw [← HW1.out]
    go_wp2
    go_ret
    exact ⟨rfl, hb1⟩
  · obtain ⟨rfl, rfl⟩ := h1 h
    have hne := neE h
    have hee : (E == E) = true := by simp
    clear h0 h1 h
    go_enter Tryz.func30, Tryz.ntmps30
    go_wp2_with fail
    rw [← HW1.out]
    go_wp2
    go_ret
    exact ⟨rfl, hb1⟩
end Go.Proofs.YtgpgdjdababidaaGreatDoor

/- The reference's Rate and Compare; number; the program's Rate and Compare at words. -/
namespace Go.Proofs.YtgpgdjdababidaaGreatDoor
open Go.RowKit Go.Shelf Ck

theorem strL_of (s : ByteArray) : strL s.data.toList = s := by simp [strL]
theorem rfVector (s : ByteArray) (w : World) (hs : Word s) :
    Calls Tryz.prog 27 #[.string s] w fun e w' => e = .returned (.agg #[.int .i64 (vecL s.data.toList).1, .int .i64 (vecL s.data.toList).2]) ∧ Below w.heap.size w w' := by
  have h := refVector s.data.toList w hs.1 (by have := hs.2.2; have := Lib.size_eq s; omega)
  rw [strL_of] at h
  exact h
/-- The rate of a word in lowest terms; 0 where it has none. -/
def rtX (s : ByteArray) : Nat := if rowsB s = true then (vecL s.data.toList).1.toNat / (vecL s.data.toList).1.toNat.gcd (vecL s.data.toList).2.toNat else 0
def rtY (s : ByteArray) : Nat := if rowsB s = true then (vecL s.data.toList).2.toNat / (vecL s.data.toList).1.toNat.gcd (vecL s.data.toList).2.toNat else 0
theorem vec_nat {s : ByteArray} (hs : Word s) : ∃ X Y : Nat, vecL s.data.toList = ((X : Int), (Y : Int)) ∧ X ≤ 128 ∧ Y ≤ 128 := by
  have h := vecL_near s.data.toList
  have := hs.2.2
  have := Lib.size_eq s
  exact ⟨(vecL s.data.toList).1.toNat, (vecL s.data.toList).2.toNat, by ext <;> simp <;> omega, by omega, by omega⟩
theorem tpRateW (s : ByteArray) (w : World) (hs : Word s) :
    Calls Tryz.prog 24 #[.string s] w fun e w' => e = .returned (.tuple #[.agg #[.int .i64 (rtX s), .int .i64 (rtY s)], .int .i64 (rateE s)]) ∧ Below w.heap.size w w' := by
  obtain ⟨X, Y, hv, hX, hY⟩ := vec_nat hs
  by_cases hr : rowsB s = true
  · have h0 : 0 < Y := by
      have h := hr
      unfold rowsB at h
      rw [hv] at h
      simpa using h
    have e1 : rtX s = X / X.gcd Y := by rw [rtX, if_pos hr, hv]; simp
    have e2 : rtY s = Y / X.gcd Y := by rw [rtY, if_pos hr, hv]; simp
    have e3 : rateE s = 0 := by rw [rateE, if_pos hr]
    rw [e1, e2, e3]
    exact tpRate s X Y w hs hv h0 (by omega) (by omega)
  · have hf : rowsB s = false := by simpa using hr
    have e1 : rtX s = 0 := by rw [rtX, if_neg hr]
    have e2 : rtY s = 0 := by rw [rtY, if_neg hr]
    have e3 : rateE s = 6 := by rw [rateE, if_neg hr]
    rw [e1, e2, e3]
    exact tpRateZ s w hs hf
def cmE (a b : ByteArray) : Int := if rowsB a = true ∧ rowsB b = true then 0 else 6
def cmV (a b : ByteArray) : Int := if rowsB a = true ∧ rowsB b = true then cmpV a.data.toList b.data.toList else 0
theorem tpCompareW (a b : ByteArray) (w : World) (ha : Word a) (hb : Word b) :
    Calls Tryz.prog 25 #[.string a, .string b] w fun e w' => e = .returned (.tuple #[.int .i64 (cmV a b), .int .i64 (cmE a b)]) ∧ Below w.heap.size w w' := by
  by_cases h : rowsB a = true ∧ rowsB b = true
  · rw [cmV, cmE, if_pos h, if_pos h]
    exact tpCompareOk a b w ha hb h.1 h.2
  · rw [cmV, cmE, if_neg h, if_neg h]
    exact tpCompareZ a b w ha hb h
set_option maxHeartbeats 2000000 in
set_option maxRecDepth 100000 in
theorem rfRateW (s : ByteArray) (w : World) (hs : Word s) :
    Calls Tryz.prog 28 #[.string s] w fun e w' => e = .returned (.tuple #[.agg #[.int .i64 (rtX s), .int .i64 (rtY s)], .bool (rowsB s)]) ∧ Below w.heap.size w w' := by
  obtain ⟨X, Y, hv, hX, hY⟩ := vec_nat hs
  obtain ⟨w1, hw1, k0, hb1, hz1⟩ := boxH2 w (.int .i64 0) (.int .i64 0) 39
  have HW1 := Lib.hid hw1
  have HV := Lib.hid hv
  by_cases hr : rowsB s = true
  · have h0 : 0 < Y := by
      have h := hr
      unfold rowsB at h
      rw [hv] at h
      simpa using h
    have e1 : rtX s = X / X.gcd Y := by rw [rtX, if_pos hr, hv]; simp
    have e2 : rtY s = Y / X.gcd Y := by rw [rtY, if_pos hr, hv]; simp
    rw [hr]
    obtain ⟨U, hU⟩ : ∃ U, rtX s = U := ⟨_, rfl⟩
    obtain ⟨V, hVV⟩ : ∃ V, rtY s = V := ⟨_, rfl⟩
    rw [hU] at e1 ⊢
    rw [hVV] at e2 ⊢
    have HU := Lib.hid e1.symm
    have HVV := Lib.hid e2.symm
    have hne : ((Y : Int) == 0) = false := by rw [beq_eq_false_iff_ne]; omega
    have hyz : ¬ (Y : Int) = 0 := by omega
    have hyN : ¬ Y = 0 := by omega
    clear hw1 hv hr hU hVV e1 e2
    go_enter Tryz.func28, Tryz.ntmps28
    go_wp2_with fail
    rw [← HW1.out]
    go_wp2_with fail
    refine (rfVector s _ hs).mono ?_
    rintro e w2 ⟨rfl, hb2⟩
    rw [HV.out]
    have k2 := (hb2.block _ (Array.getElem?_eq_some_iff.1 k0).1).trans k0
    have B2 := hb1.trans (hb2.mono hb1.size)
    obtain ⟨w3, hw3, m3, hb3, -⟩ := boxH2 w2 (.int .i64 X) (.int .i64 Y) 35
    have k3 := (hb3.block _ (Array.getElem?_eq_some_iff.1 k2).1).trans k2
    have B3 := B2.trans (hb3.mono B2.size)
    have hw3' := hw3.symm
    obtain ⟨p0, p1, -, -⟩ := two_cell m3
    clear hw3 k0 k2 hb1 hb2 hb3 B2
    go_wp2_with fail
    refine (rfLowestI X Y _ _ _ rfl rfl (by omega) (by omega) h0).mono ?_
    rintro e w4 ⟨rfl, hb4⟩
    rw [HU.out, HVV.out]
    have k4 := (hb4.block _ (Array.getElem?_eq_some_iff.1 k3).1).trans k3
    have B4 := B3.trans (hb4.mono B3.size)
    obtain ⟨r0, r1, r2, r3⟩ := two_cell k4
    obtain ⟨s5, s6⟩ := two_set k4 (.int .i64 U) (.int .i64 V)
    obtain ⟨t0, t1, -, -⟩ := two_cell s5
    have hbf := B4.grown s6 B4.size (fun j e => by cases e; omega)
    clear k3 k4 m3 p0 p1 hb4 s5 s6 hw3'
    go_wp2
    exact bodyPost_ret (v := .tuple #[.agg #[.int .i64 U, .int .i64 V], .bool true]) (by simp [results, Tryz.results28, go_sem, t0, t1]) rfl ⟨rfl, hbf⟩
  · have hf : rowsB s = false := by simpa using hr
    have h0 : Y = 0 := by
      have h := hr
      unfold rowsB at h
      rw [hv] at h
      simp at h
      omega
    have e1 : rtX s = 0 := by rw [rtX, if_neg hr]
    have e2 : rtY s = 0 := by rw [rtY, if_neg hr]
    rw [e1, e2, hf, show ((0 : Nat) : Int) = 0 from rfl]
    have HV0 := Lib.hid (show vecL s.data.toList = ((X : Int), 0) by rw [hv, h0]; rfl)
    clear hw1 hv hr hf e1 e2 HV h0
    go_enter Tryz.func28, Tryz.ntmps28
    go_wp2_with fail
    rw [← HW1.out]
    go_wp2_with fail
    refine (rfVector s _ hs).mono ?_
    rintro e w2 ⟨rfl, hb2⟩
    rw [HV0.out]
    have k2 := (hb2.block _ (Array.getElem?_eq_some_iff.1 k0).1).trans k0
    have B2 := hb1.trans (hb2.mono hb1.size)
    obtain ⟨w3, hw3, m3, hb3, -⟩ := boxH2 w2 (.int .i64 X) (.int .i64 0) 35
    have k3 := (hb3.block _ (Array.getElem?_eq_some_iff.1 k2).1).trans k2
    have B3 := B2.trans (hb3.mono B2.size)
    subst hw3
    obtain ⟨p0, p1, -, -⟩ := two_cell m3
    obtain ⟨r0, r1, r2, r3⟩ := two_cell k3
    obtain ⟨s5, s6⟩ := two_set k3 (.int .i64 0) (.int .i64 0)
    obtain ⟨t0, t1, -, -⟩ := two_cell s5
    have hbf := B3.grown s6 B3.size (fun j e => by cases e; omega)
    clear k0 k2 hb1 hb2 hb3 B2 k3 m3 s5 s6
    go_wp2
    exact bodyPost_ret (v := .tuple #[.agg #[.int .i64 0, .int .i64 0], .bool false]) (by simp [results, Tryz.results28, go_sem, t0, t1]) rfl ⟨rfl, hbf⟩
set_option maxHeartbeats 2000000 in
set_option maxRecDepth 100000 in
theorem rfCompare (a b : ByteArray) (w : World) (ha : Word a) (hb : Word b) :
    Calls Tryz.prog 29 #[.string a, .string b] w fun e w' => e = .returned (.int .i64 (cmpV a.data.toList b.data.toList)) ∧ Below w.heap.size w w' := by
  obtain ⟨X, Y, hv, hX, hY⟩ := vec_nat ha
  obtain ⟨X', Y', hv', hX', hY'⟩ := vec_nat hb
  have HV := Lib.hid hv
  have HV' := Lib.hid hv'
  have HC := Lib.hid (show cmpV a.data.toList b.data.toList = cmpI ((X : Int) * Y') ((X' : Int) * Y) by rw [cmpV, hv, hv'])
  rw [HC.out]
  obtain ⟨m1, m2⟩ := mul_bound hX hY'
  obtain ⟨m3, m4⟩ := mul_bound hX' hY
  have y1 : IntKind.i64.wrap ((X : Int) * (Y' : Int)) = (X : Int) * (Y' : Int) := by rw [IntKind.wrap_i64]; omega
  have y2 : IntKind.i64.wrap ((X' : Int) * (Y : Int)) = (X' : Int) * (Y : Int) := by rw [IntKind.wrap_i64]; omega
  have ex : ∀ (u v : Int), u < v ∨ (¬ u < v ∧ v < u) ∨ (¬ u < v ∧ ¬ v < u) := fun u v => by omega
  obtain ⟨w0, hw0⟩ : ∃ w0 : World, w0 = w := ⟨_, rfl⟩
  clear hv hv' HC hw0
  rcases ex ((X : Int) * Y') ((X' : Int) * Y) with hc | ⟨hc, hd⟩ | ⟨hc, hd⟩
  · have HK := Lib.hid (show cmpI ((X : Int) * Y') ((X' : Int) * Y) = -1 by rw [cmpI, if_pos hc])
    rw [HK.out]
    go_enter Tryz.func29, Tryz.ntmps29
    go_wp2_with fail
    refine (rfVector a _ ha).mono ?_
    rintro e w1 ⟨rfl, hb1⟩
    rw [HV.out]
    go_wp2_with fail
    refine (rfVector b _ hb).mono ?_
    rintro e w2 ⟨rfl, hb2⟩
    rw [HV'.out]
    have B2 := hb1.trans (hb2.mono hb1.size)
    obtain ⟨w3, hw3, k0, k1, hb3, hz3⟩ := boxH22 w2 (.int .i64 X) (.int .i64 Y) (.int .i64 X') (.int .i64 Y') 35 35
    obtain ⟨c0, c1, -, -⟩ := two_cell k0
    obtain ⟨d0, d1, -, -⟩ := two_cell k1
    have HW3 := Lib.hid hw3
    have B3 := B2.trans (hb3.mono B2.size)
    clear hw3 k0 k1 hb1 hb2 hb3 B2
    go_wp2_with fail
    rw [← HW3.out]
    go_quiet (fail)
    go_wp2
    go_ret
    exact ⟨rfl, below_drewN B3 _⟩
  · have HK := Lib.hid (show cmpI ((X : Int) * Y') ((X' : Int) * Y) = 1 by rw [cmpI, if_neg hc, if_pos hd])
    rw [HK.out]
    go_enter Tryz.func29, Tryz.ntmps29
    go_wp2_with fail
    refine (rfVector a _ ha).mono ?_
    rintro e w1 ⟨rfl, hb1⟩
    rw [HV.out]
    go_wp2_with fail
    refine (rfVector b _ hb).mono ?_
    rintro e w2 ⟨rfl, hb2⟩
    rw [HV'.out]
    have B2 := hb1.trans (hb2.mono hb1.size)
    obtain ⟨w3, hw3, k0, k1, hb3, hz3⟩ := boxH22 w2 (.int .i64 X) (.int .i64 Y) (.int .i64 X') (.int .i64 Y') 35 35
    obtain ⟨c0, c1, -, -⟩ := two_cell k0
    obtain ⟨d0, d1, -, -⟩ := two_cell k1
    have HW3 := Lib.hid hw3
    have B3 := B2.trans (hb3.mono B2.size)
    clear hw3 k0 k1 hb1 hb2 hb3 B2
    go_wp2_with fail
    rw [← HW3.out]
    go_quiet (fail)
    go_wp2
    go_ret
    exact ⟨rfl, below_drewN B3 _⟩
  · have HK := Lib.hid (show cmpI ((X : Int) * Y') ((X' : Int) * Y) = 0 by rw [cmpI, if_neg hc, if_neg hd])
    rw [HK.out]
    go_enter Tryz.func29, Tryz.ntmps29
    go_wp2_with fail
    refine (rfVector a _ ha).mono ?_
    rintro e w1 ⟨rfl, hb1⟩
    rw [HV.out]
    go_wp2_with fail
    refine (rfVector b _ hb).mono ?_
    rintro e w2 ⟨rfl, hb2⟩
    rw [HV'.out]
    have B2 := hb1.trans (hb2.mono hb1.size)
    obtain ⟨w3, hw3, k0, k1, hb3, hz3⟩ := boxH22 w2 (.int .i64 X) (.int .i64 Y) (.int .i64 X') (.int .i64 Y') 35 35
    obtain ⟨c0, c1, -, -⟩ := two_cell k0
    obtain ⟨d0, d1, -, -⟩ := two_cell k1
    have HW3 := Lib.hid hw3
    have B3 := B2.trans (hb3.mono B2.size)
    clear hw3 k0 k1 hb1 hb2 hb3 B2
    go_wp2_with fail
    rw [← HW3.out]
    go_quiet (fail)
    go_wp2
    go_ret
    exact ⟨rfl, below_drewN B3 _⟩
/-- number, where the result and the error are the expected ones. -/
theorem lawNumber (x u E : Int) (w : World) (h1 : E ≠ 0 → x = 0) (h0 : E = 0 → x = u) :
    Calls Tryz.prog 31 #[.int .i64 x, .int .i64 E, .int .i64 E, .int .i64 u] w fun e w' => e = .returned (.bool true) ∧ w = w' := by
  by_cases h : E = 0
  · obtain rfl := h0 h
    subst h
    clear h0 h1
    go_enter Tryz.func31, Tryz.ntmps31
    go_wp2
    go_ret
    simp
  · obtain rfl := h1 h
    have hne := neE h
    have hee : (E == E) = true := by simp
    clear h0 h1 h
    go_enter Tryz.func31, Tryz.ntmps31
    go_wp2
    go_ret
    simp
end Go.Proofs.YtgpgdjdababidaaGreatDoor

/- The walk of TaperRates. -/
namespace Go.Proofs.YtgpgdjdababidaaGreatDoor
open Go.RowKit Go.Shelf Ck

set_option maxHeartbeats 4000000 in
set_option maxRecDepth 100000 in
theorem lawRatesA (a b : ByteArray) (EA EB : Int) (w : World) (hsa : a.size ≤ 140) (hsb : b.size ≤ 140) (hA : wordE a.data.toList = EA) (hB : wordE b.data.toList = EB) (h0 : EA ≠ 0) :
    Calls Tryz.prog 4 #[.string a, .string b] w fun e w' => e = .returned (.bool true) ∧ Below w.heap.size w w' := by
  have HEA := Lib.hid hA
  have HEB := Lib.hid hB
  have H0 := Lib.hid h0
  have HF := Lib.hid (show firstE [EA, EB] = EA by simp [firstE, h0])
  have HF2 := Lib.hid (show firstE [wordE a.data.toList, wordE b.data.toList] = EA by rw [hA, hB]; simp [firstE, h0])
  have g1 : ¬ (140 : Int) < (a.size : Int) := by omega
  have g2 : ¬ (140 : Int) < (b.size : Int) := by omega
  have hnz : (EA == 0) = false := by rw [beq_eq_false_iff_ne]; exact h0
  clear hA hB h0
  go_enter Tryz.func4, Tryz.ntmps4
  go_wp2_with fail
  refine (awake2 _).mono ?_
  rintro e w1 ⟨rfl, hb1⟩
  go_wp2_with fail
  refine (tpVectorNo a _ EA HEA.out H0.out).mono ?_
  rintro e w2 ⟨rfl, hb2⟩
  have B2 := hb1.trans (hb2.mono hb1.size)
  clear hb1 hb2
  obtain ⟨x2, hx2, ka, hc2, -⟩ := boxH2 w2 (.int .i64 0) (.int .i64 0) 35
  have Bx := B2.trans (hc2.mono B2.size)
  have HX2 := Lib.hid hx2
  clear hx2
  clear hc2 B2
  go_wp2_with fail
  rw [← HX2.out]
  refine (tpRateNo a _ EA HEA.out H0.out).mono ?_
  rintro e w3 ⟨rfl, hb3⟩
  have kb := (hb3.block _ (Array.getElem?_eq_some_iff.1 ka).1).trans ka
  have B3 := Bx.trans (hb3.mono Bx.size)
  clear ka hb3 Bx
  obtain ⟨x3, hx3, ma, hc3, -⟩ := boxH2 w3 (.int .i64 0) (.int .i64 0) 39
  have kc := (hc3.block _ (Array.getElem?_eq_some_iff.1 kb).1).trans kb
  have Bx3 := B3.trans (hc3.mono B3.size)
  clear kb hc3 B3
  have HX3 := Lib.hid hx3
  clear hx3
  go_wp2_with fail
  rw [← HX3.out]
  refine (tpCompareNo a b _ EA HF2.out H0.out).mono ?_
  rintro e w4 ⟨rfl, hb4⟩
  have kd := (hb4.block _ (Array.getElem?_eq_some_iff.1 kc).1).trans kc
  have B4 := Bx3.trans (hb4.mono Bx3.size)
  have md := (hb4.block _ (Array.getElem?_eq_some_iff.1 ma).1).trans ma
  clear ma kc hb4 Bx3
  go_wp2_with fail
  refine (refCheckWord a _ (by omega)).mono ?_
  rintro e w5 ⟨rfl, rfl⟩
  rw [HEA.out]
  go_wp2_with fail
  refine (refCheckWord b _ (by omega)).mono ?_
  rintro e w5 ⟨rfl, rfl⟩
  rw [HEB.out]
  go_wp2_with fail
  refine (rfFirst2 _ _ _ _ 3 _ (by exact heap_alloc_new _ _)).mono ?_
  rintro e w5 ⟨rfl, hb5'⟩
  rw [HF.out]
  have hal : Below w4.heap.size w4 (w4.alloc (.cells #[.int .i64 EA, .int .i64 EB] 3)) := (Below.refl _ _).alloc (Nat.le_refl _) _
  have hb5 := hal.trans (hb5'.mono hal.size)
  clear hal hb5'
  have ke := (hb5.block _ (Array.getElem?_eq_some_iff.1 kd).1).trans kd
  have me := (hb5.block _ (Array.getElem?_eq_some_iff.1 md).1).trans md
  have B5 := B4.trans (hb5.mono B4.size)
  clear kd md hb5 B4
  obtain ⟨x5, hx5, na, oa, hc5, -⟩ := boxH22 w5 (.int .i64 0) (.int .i64 0) (.int .i64 0) (.int .i64 0) 35 39
  have kf := (hc5.block _ (Array.getElem?_eq_some_iff.1 ke).1).trans ke
  have mf := (hc5.block _ (Array.getElem?_eq_some_iff.1 me).1).trans me
  have B6 := B5.trans (hc5.mono B5.size)
  clear ke me hc5 B5
  have hx5' := hx5.symm
  obtain ⟨a0, a1, -, -⟩ := two_cell kf
  obtain ⟨b0, b1, -, -⟩ := two_cell mf
  obtain ⟨c0, c1, -, -⟩ := two_cell na
  obtain ⟨d0, d1, -, -⟩ := two_cell oa
  have hes := eqPairSame 0 0
  have hgp := guardPair
  have hee : (EA == EA) = true := by simp
  clear hx5 kf mf na oa
  go_wp2_with fail
  refine (lawRatio 0 0 0 0 EA _ (fun _ => ⟨rfl, rfl⟩) (fun _ => ⟨rfl, rfl⟩)).mono ?_
  rintro e w11 ⟨rfl, hb11⟩
  have B7 := B6.trans (hb11.mono B6.size)
  clear a0 a1 b0 b1 c0 c1 d0 d1 hb11 hx5' hes hgp hee B6
  go_wp2_with fail
  refine (lawNumber 0 0 EA _ (fun _ => rfl) (fun _ => rfl)).mono ?_
  rintro e w12 ⟨rfl, rfl⟩
  go_wp2
  go_ret
  exact ⟨rfl, B7⟩
theorem wordE_of {s : ByteArray} (h : Word s) : wordE s.data.toList = 0 := by
  have hz := Lib.size_eq s
  have h1 := h.2.1
  have h2 := h.2.2
  have h0 : ¬ s.data.toList = [] := fun e => by rw [e, List.length_nil] at hz; omega
  rw [wordE, if_neg h0, if_neg (show ¬ 64 < s.data.toList.length by omega), if_pos]
  rw [List.all_eq_true]
  exact fun c hc => (okC_iff c).2 (h.1 c hc)
set_option maxHeartbeats 4000000 in
set_option maxRecDepth 100000 in
theorem lawRatesTT (a b : ByteArray) (w : World) (ha : Word a)  (hb : Word b) (hra : rowsB a = true) (hrb : rowsB b = true) (hsb : b.size ≤ 140) :
    Calls Tryz.prog 4 #[.string a, .string b] w fun e w' => e = .returned (.bool true) ∧ Below w.heap.size w w' := by
  have hsa : a.size ≤ 140 := by have := ha.2.2; omega
  have HEA := Lib.hid (wordE_of ha)
  have HEB := Lib.hid (wordE_of hb)
  have HF := Lib.hid (show firstE [0, 0] = 0 from rfl)
  have HCE := Lib.hid (show cmE a b = 0 by rw [cmE, hra, hrb]; rfl)
  have HCV := Lib.hid (show cmV a b = cmpV a.data.toList b.data.toList by rw [cmV, hra, hrb]; rfl)
  have HRB := Lib.hid hrb
  have HRE := Lib.hid (show rateE a = 0 by rw [rateE, hra]; rfl)
  have HRA := Lib.hid hra
  have g1 : ¬ (140 : Int) < (a.size : Int) := by omega
  have g2 : ¬ (140 : Int) < (b.size : Int) := by omega
  obtain ⟨U, hU⟩ : ∃ U, (vecL a.data.toList).1 = U := ⟨_, rfl⟩
  obtain ⟨V, hV⟩ : ∃ V, (vecL a.data.toList).2 = V := ⟨_, rfl⟩
  have HU := Lib.hid hU
  have HV := Lib.hid hV
  obtain ⟨X, hX⟩ : ∃ X, rtX a = X := ⟨_, rfl⟩
  obtain ⟨Y, hY⟩ : ∃ Y, rtY a = Y := ⟨_, rfl⟩
  have HX := Lib.hid hX
  have HY := Lib.hid hY
  clear hra hU hV hX hY hrb
  go_enter Tryz.func4, Tryz.ntmps4
  go_wp2_with fail
  refine (awake2 _).mono ?_
  rintro e w1 ⟨rfl, hb1⟩
  go_wp2_with fail
  refine (tpVectorOk a _ ha).mono ?_
  rintro e w2 ⟨rfl, hb2⟩
  rw [HU.out, HV.out]
  have B2 := hb1.trans (hb2.mono hb1.size)
  clear hb1 hb2
  obtain ⟨x2, hx2, ka, hc2, -⟩ := boxH2 w2 (.int .i64 U) (.int .i64 V) 35
  have Bx := B2.trans (hc2.mono B2.size)
  have hx2' := hx2.symm
  clear hx2
  clear hc2 B2
  go_wp2_with fail
  refine (tpRateW a _ ha).mono ?_
  rintro e w3 ⟨rfl, hb3⟩
  rw [HX.out, HY.out, HRE.out]
  have kb := (hb3.block _ (Array.getElem?_eq_some_iff.1 ka).1).trans ka
  have B3 := Bx.trans (hb3.mono Bx.size)
  clear ka hb3 Bx
  clear hx2'
  obtain ⟨x3, hx3, ma, hc3, -⟩ := boxH2 w3 (.int .i64 X) (.int .i64 Y) 39
  have kc := (hc3.block _ (Array.getElem?_eq_some_iff.1 kb).1).trans kb
  have Bx3 := B3.trans (hc3.mono B3.size)
  clear kb hc3 B3
  have hx3' := hx3.symm
  clear hx3
  go_wp2_with fail
  refine (tpCompareW a b _ ha hb).mono ?_
  rintro e w4 ⟨rfl, hb4⟩
  rw [HCV.out, HCE.out]
  have kd := (hb4.block _ (Array.getElem?_eq_some_iff.1 kc).1).trans kc
  have B4 := Bx3.trans (hb4.mono Bx3.size)
  have md := (hb4.block _ (Array.getElem?_eq_some_iff.1 ma).1).trans ma
  clear ma kc hb4 Bx3
  clear hx3'
  go_wp2_with fail
  refine (refCheckWord a _ (by omega)).mono ?_
  rintro e w5 ⟨rfl, rfl⟩
  rw [HEA.out]
  go_wp2_with fail
  refine (refCheckWord b _ (by omega)).mono ?_
  rintro e w5 ⟨rfl, rfl⟩
  rw [HEB.out]
  go_wp2_with fail
  refine (rfFirst2 _ _ _ _ 3 _ (by exact heap_alloc_new _ _)).mono ?_
  rintro e w5 ⟨rfl, hb5'⟩
  rw [HF.out]
  have hal : Below w4.heap.size w4 (w4.alloc (.cells #[.int .i64 0, .int .i64 0] 3)) := (Below.refl _ _).alloc (Nat.le_refl _) _
  have hb5 := hal.trans (hb5'.mono hal.size)
  clear hal hb5'
  have ke := (hb5.block _ (Array.getElem?_eq_some_iff.1 kd).1).trans kd
  have me := (hb5.block _ (Array.getElem?_eq_some_iff.1 md).1).trans md
  have B5 := B4.trans (hb5.mono B4.size)
  clear kd md hb5 B4
  obtain ⟨x5, hx5, nf, of, hc5, hz5⟩ := boxH22 w5 (.int .i64 0) (.int .i64 0) (.int .i64 0) (.int .i64 0) 35 39
  have zk := (Array.getElem?_eq_some_iff.1 ke).1
  have zm := (Array.getElem?_eq_some_iff.1 me).1
  have zw := B5.size
  have kf := (hc5.block _ (Array.getElem?_eq_some_iff.1 ke).1).trans ke
  have mf := (hc5.block _ (Array.getElem?_eq_some_iff.1 me).1).trans me
  have B6 := B5.trans (hc5.mono B5.size)
  clear ke me hc5 B5
  have HX5 := Lib.hid hx5
  clear hx5
  go_wp2_with fail
  rw [← HX5.out]
  refine (rfVector a _ ha).mono ?_
  rintro e w6 ⟨rfl, hb6⟩
  rw [HU.out, HV.out]
  have kg := (hb6.block _ (Array.getElem?_eq_some_iff.1 kf).1).trans kf
  have mg := (hb6.block _ (Array.getElem?_eq_some_iff.1 mf).1).trans mf
  have ng := (hb6.block _ (Array.getElem?_eq_some_iff.1 nf).1).trans nf
  have og := (hb6.block _ (Array.getElem?_eq_some_iff.1 of).1).trans of
  have B7 := B6.trans (hb6.mono B6.size)
  clear kf mf nf of hb6 B6
  obtain ⟨n0, n1, n2, n3⟩ := two_cell ng
  obtain ⟨nh, y2⟩ := two_set ng (.int .i64 U) (.int .i64 V)
  have kh := (y2.block _ (Array.getElem?_eq_some_iff.1 kg).1 (fun e => by injection e; omega)).trans kg
  have mh := (y2.block _ (Array.getElem?_eq_some_iff.1 mg).1 (fun e => by injection e; omega)).trans mg
  have oh := (y2.block _ (Array.getElem?_eq_some_iff.1 og).1 (fun e => by injection e; omega)).trans og
  have B8 := B7.grown y2 B7.size (fun j e => by cases e; omega)
  clear kg mg ng og y2 B7
  go_wp2_with fail
  refine (rfRateW a _ ha).mono ?_
  rintro e w7 ⟨rfl, hb7⟩
  rw [HX.out, HY.out, HRA.out]
  have ki := (hb7.block _ (Array.getElem?_eq_some_iff.1 kh).1).trans kh
  have mi := (hb7.block _ (Array.getElem?_eq_some_iff.1 mh).1).trans mh
  have ni := (hb7.block _ (Array.getElem?_eq_some_iff.1 nh).1).trans nh
  have oi := (hb7.block _ (Array.getElem?_eq_some_iff.1 oh).1).trans oh
  have B9 := B8.trans (hb7.mono B8.size)
  clear kh mh nh oh hb7 B8
  clear n0 n1 n2 n3
  obtain ⟨o0, o1, o2, o3⟩ := two_cell oi
  obtain ⟨oj, y3⟩ := two_set oi (.int .i64 X) (.int .i64 Y)
  have kj := (y3.block _ (Array.getElem?_eq_some_iff.1 ki).1 (fun e => by injection e; omega)).trans ki
  have mj := (y3.block _ (Array.getElem?_eq_some_iff.1 mi).1 (fun e => by injection e; omega)).trans mi
  have nj := (y3.block _ (Array.getElem?_eq_some_iff.1 ni).1 (fun e => by injection e; omega)).trans ni
  have B10 := B9.grown y3 B9.size (fun j e => by cases e; omega)
  clear ki mi ni oi y3 B9
  go_wp2_with fail
  refine (rfRateW a _ ha).mono ?_
  rintro e w8 ⟨rfl, hb8⟩
  rw [HX.out, HY.out, HRA.out]
  have kl := (hb8.block _ (Array.getElem?_eq_some_iff.1 kj).1).trans kj
  have ml := (hb8.block _ (Array.getElem?_eq_some_iff.1 mj).1).trans mj
  have nl := (hb8.block _ (Array.getElem?_eq_some_iff.1 nj).1).trans nj
  have ol := (hb8.block _ (Array.getElem?_eq_some_iff.1 oj).1).trans oj
  have B11 := B10.trans (hb8.mono B10.size)
  clear kj mj nj oj hb8 B10
  clear o0 o1 o2 o3
  obtain ⟨x8, hx8, -, hc8, -⟩ := boxH2 w8 (.int .i64 X) (.int .i64 Y) 39
  have kp := (hc8.block _ (Array.getElem?_eq_some_iff.1 kl).1).trans kl
  have mp := (hc8.block _ (Array.getElem?_eq_some_iff.1 ml).1).trans ml
  have np := (hc8.block _ (Array.getElem?_eq_some_iff.1 nl).1).trans nl
  have op := (hc8.block _ (Array.getElem?_eq_some_iff.1 ol).1).trans ol
  have B12 := B11.trans (hc8.mono B11.size)
  clear kl ml nl ol hc8 B11
  have hx8' := hx8.symm
  clear hx8
  go_wp2_with fail
  refine (rfRateW b _ hb).mono ?_
  rintro e w9 ⟨rfl, hb9⟩
  rw [HRB.out]
  have kq := (hb9.block _ (Array.getElem?_eq_some_iff.1 kp).1).trans kp
  have mq := (hb9.block _ (Array.getElem?_eq_some_iff.1 mp).1).trans mp
  have nq := (hb9.block _ (Array.getElem?_eq_some_iff.1 np).1).trans np
  have oq := (hb9.block _ (Array.getElem?_eq_some_iff.1 op).1).trans op
  have B13 := B12.trans (hb9.mono B12.size)
  clear kp mp np op hb9 B12
  clear hx8'
  obtain ⟨x9, hx9, -, hc9, -⟩ := boxH2 w9 (.int .i64 (rtX b)) (.int .i64 (rtY b)) 39
  have kr := (hc9.block _ (Array.getElem?_eq_some_iff.1 kq).1).trans kq
  have mr := (hc9.block _ (Array.getElem?_eq_some_iff.1 mq).1).trans mq
  have nr := (hc9.block _ (Array.getElem?_eq_some_iff.1 nq).1).trans nq
  have or := (hc9.block _ (Array.getElem?_eq_some_iff.1 oq).1).trans oq
  have B14 := B13.trans (hc9.mono B13.size)
  clear kq mq nq oq hc9 B13
  have hx9' := hx9.symm
  clear hx9
  go_wp2_with fail
  refine (rfCompare a b _ ha hb).mono ?_
  rintro e w10 ⟨rfl, hb10⟩
  have ks := (hb10.block _ (Array.getElem?_eq_some_iff.1 kr).1).trans kr
  have ms := (hb10.block _ (Array.getElem?_eq_some_iff.1 mr).1).trans mr
  have ns := (hb10.block _ (Array.getElem?_eq_some_iff.1 nr).1).trans nr
  have os := (hb10.block _ (Array.getElem?_eq_some_iff.1 or).1).trans or
  have B15 := B14.trans (hb10.mono B14.size)
  clear kr mr nr or hb10 B14
  clear hx9'
  obtain ⟨a0, a1, -, -⟩ := two_cell ks
  obtain ⟨b0, b1, -, -⟩ := two_cell ms
  obtain ⟨c0, c1, -, -⟩ := two_cell ns
  obtain ⟨d0, d1, -, -⟩ := two_cell os
  have hes := eqPairSame U V
  have hgp := guardPair
  go_wp2_with fail
  refine (lawRatio X Y X Y 0 _ (fun h => absurd rfl h) (fun _ => ⟨rfl, rfl⟩)).mono ?_
  rintro e w11 ⟨rfl, hb11⟩
  have B20 := B15.trans (hb11.mono B15.size)
  clear a0 a1 b0 b1 c0 c1 d0 d1 hb11 hes hgp ks ms ns os
  go_wp2_with fail
  refine (lawNumber (cmpV a.data.toList b.data.toList) (cmpV a.data.toList b.data.toList) 0 _ (fun h => absurd rfl h) (fun _ => rfl)).mono ?_
  rintro e w12 ⟨rfl, rfl⟩
  go_wp2
  go_ret
  exact ⟨rfl, B20⟩
set_option maxHeartbeats 4000000 in
set_option maxRecDepth 100000 in
theorem lawRatesTF (a b : ByteArray) (w : World) (ha : Word a)  (hb : Word b) (hra : rowsB a = true) (hrb : rowsB b = false) (hsb : b.size ≤ 140) :
    Calls Tryz.prog 4 #[.string a, .string b] w fun e w' => e = .returned (.bool true) ∧ Below w.heap.size w w' := by
  have hsa : a.size ≤ 140 := by have := ha.2.2; omega
  have HEA := Lib.hid (wordE_of ha)
  have HEB := Lib.hid (wordE_of hb)
  have HF := Lib.hid (show firstE [0, 0] = 0 from rfl)
  have HCE := Lib.hid (show cmE a b = 6 by rw [cmE, hra, hrb]; rfl)
  have HCV := Lib.hid (show cmV a b = 0 by rw [cmV, hra, hrb]; rfl)
  have HRB := Lib.hid hrb
  have HRE := Lib.hid (show rateE a = 0 by rw [rateE, hra]; rfl)
  have HRA := Lib.hid hra
  have g1 : ¬ (140 : Int) < (a.size : Int) := by omega
  have g2 : ¬ (140 : Int) < (b.size : Int) := by omega
  obtain ⟨U, hU⟩ : ∃ U, (vecL a.data.toList).1 = U := ⟨_, rfl⟩
  obtain ⟨V, hV⟩ : ∃ V, (vecL a.data.toList).2 = V := ⟨_, rfl⟩
  have HU := Lib.hid hU
  have HV := Lib.hid hV
  obtain ⟨X, hX⟩ : ∃ X, rtX a = X := ⟨_, rfl⟩
  obtain ⟨Y, hY⟩ : ∃ Y, rtY a = Y := ⟨_, rfl⟩
  have HX := Lib.hid hX
  have HY := Lib.hid hY
  clear hra hU hV hX hY hrb
  go_enter Tryz.func4, Tryz.ntmps4
  go_wp2_with fail
  refine (awake2 _).mono ?_
  rintro e w1 ⟨rfl, hb1⟩
  go_wp2_with fail
  refine (tpVectorOk a _ ha).mono ?_
  rintro e w2 ⟨rfl, hb2⟩
  rw [HU.out, HV.out]
  have B2 := hb1.trans (hb2.mono hb1.size)
  clear hb1 hb2
  obtain ⟨x2, hx2, ka, hc2, -⟩ := boxH2 w2 (.int .i64 U) (.int .i64 V) 35
  have Bx := B2.trans (hc2.mono B2.size)
  have hx2' := hx2.symm
  clear hx2
  clear hc2 B2
  go_wp2_with fail
  refine (tpRateW a _ ha).mono ?_
  rintro e w3 ⟨rfl, hb3⟩
  rw [HX.out, HY.out, HRE.out]
  have kb := (hb3.block _ (Array.getElem?_eq_some_iff.1 ka).1).trans ka
  have B3 := Bx.trans (hb3.mono Bx.size)
  clear ka hb3 Bx
  clear hx2'
  obtain ⟨x3, hx3, ma, hc3, -⟩ := boxH2 w3 (.int .i64 X) (.int .i64 Y) 39
  have kc := (hc3.block _ (Array.getElem?_eq_some_iff.1 kb).1).trans kb
  have Bx3 := B3.trans (hc3.mono B3.size)
  clear kb hc3 B3
  have hx3' := hx3.symm
  clear hx3
  go_wp2_with fail
  refine (tpCompareW a b _ ha hb).mono ?_
  rintro e w4 ⟨rfl, hb4⟩
  rw [HCV.out, HCE.out]
  have kd := (hb4.block _ (Array.getElem?_eq_some_iff.1 kc).1).trans kc
  have B4 := Bx3.trans (hb4.mono Bx3.size)
  have md := (hb4.block _ (Array.getElem?_eq_some_iff.1 ma).1).trans ma
  clear ma kc hb4 Bx3
  clear hx3'
  go_wp2_with fail
  refine (refCheckWord a _ (by omega)).mono ?_
  rintro e w5 ⟨rfl, rfl⟩
  rw [HEA.out]
  go_wp2_with fail
  refine (refCheckWord b _ (by omega)).mono ?_
  rintro e w5 ⟨rfl, rfl⟩
  rw [HEB.out]
  go_wp2_with fail
  refine (rfFirst2 _ _ _ _ 3 _ (by exact heap_alloc_new _ _)).mono ?_
  rintro e w5 ⟨rfl, hb5'⟩
  rw [HF.out]
  have hal : Below w4.heap.size w4 (w4.alloc (.cells #[.int .i64 0, .int .i64 0] 3)) := (Below.refl _ _).alloc (Nat.le_refl _) _
  have hb5 := hal.trans (hb5'.mono hal.size)
  clear hal hb5'
  have ke := (hb5.block _ (Array.getElem?_eq_some_iff.1 kd).1).trans kd
  have me := (hb5.block _ (Array.getElem?_eq_some_iff.1 md).1).trans md
  have B5 := B4.trans (hb5.mono B4.size)
  clear kd md hb5 B4
  obtain ⟨x5, hx5, nf, of, hc5, hz5⟩ := boxH22 w5 (.int .i64 0) (.int .i64 0) (.int .i64 0) (.int .i64 0) 35 39
  have zk := (Array.getElem?_eq_some_iff.1 ke).1
  have zm := (Array.getElem?_eq_some_iff.1 me).1
  have zw := B5.size
  have kf := (hc5.block _ (Array.getElem?_eq_some_iff.1 ke).1).trans ke
  have mf := (hc5.block _ (Array.getElem?_eq_some_iff.1 me).1).trans me
  have B6 := B5.trans (hc5.mono B5.size)
  clear ke me hc5 B5
  have HX5 := Lib.hid hx5
  clear hx5
  go_wp2_with fail
  rw [← HX5.out]
  refine (rfVector a _ ha).mono ?_
  rintro e w6 ⟨rfl, hb6⟩
  rw [HU.out, HV.out]
  have kg := (hb6.block _ (Array.getElem?_eq_some_iff.1 kf).1).trans kf
  have mg := (hb6.block _ (Array.getElem?_eq_some_iff.1 mf).1).trans mf
  have ng := (hb6.block _ (Array.getElem?_eq_some_iff.1 nf).1).trans nf
  have og := (hb6.block _ (Array.getElem?_eq_some_iff.1 of).1).trans of
  have B7 := B6.trans (hb6.mono B6.size)
  clear kf mf nf of hb6 B6
  obtain ⟨n0, n1, n2, n3⟩ := two_cell ng
  obtain ⟨nh, y2⟩ := two_set ng (.int .i64 U) (.int .i64 V)
  have kh := (y2.block _ (Array.getElem?_eq_some_iff.1 kg).1 (fun e => by injection e; omega)).trans kg
  have mh := (y2.block _ (Array.getElem?_eq_some_iff.1 mg).1 (fun e => by injection e; omega)).trans mg
  have oh := (y2.block _ (Array.getElem?_eq_some_iff.1 og).1 (fun e => by injection e; omega)).trans og
  have B8 := B7.grown y2 B7.size (fun j e => by cases e; omega)
  clear kg mg ng og y2 B7
  go_wp2_with fail
  refine (rfRateW a _ ha).mono ?_
  rintro e w7 ⟨rfl, hb7⟩
  rw [HX.out, HY.out, HRA.out]
  have ki := (hb7.block _ (Array.getElem?_eq_some_iff.1 kh).1).trans kh
  have mi := (hb7.block _ (Array.getElem?_eq_some_iff.1 mh).1).trans mh
  have ni := (hb7.block _ (Array.getElem?_eq_some_iff.1 nh).1).trans nh
  have oi := (hb7.block _ (Array.getElem?_eq_some_iff.1 oh).1).trans oh
  have B9 := B8.trans (hb7.mono B8.size)
  clear kh mh nh oh hb7 B8
  clear n0 n1 n2 n3
  obtain ⟨o0, o1, o2, o3⟩ := two_cell oi
  obtain ⟨oj, y3⟩ := two_set oi (.int .i64 X) (.int .i64 Y)
  have kj := (y3.block _ (Array.getElem?_eq_some_iff.1 ki).1 (fun e => by injection e; omega)).trans ki
  have mj := (y3.block _ (Array.getElem?_eq_some_iff.1 mi).1 (fun e => by injection e; omega)).trans mi
  have nj := (y3.block _ (Array.getElem?_eq_some_iff.1 ni).1 (fun e => by injection e; omega)).trans ni
  have B10 := B9.grown y3 B9.size (fun j e => by cases e; omega)
  clear ki mi ni oi y3 B9
  go_wp2_with fail
  refine (rfRateW a _ ha).mono ?_
  rintro e w8 ⟨rfl, hb8⟩
  rw [HX.out, HY.out, HRA.out]
  have kl := (hb8.block _ (Array.getElem?_eq_some_iff.1 kj).1).trans kj
  have ml := (hb8.block _ (Array.getElem?_eq_some_iff.1 mj).1).trans mj
  have nl := (hb8.block _ (Array.getElem?_eq_some_iff.1 nj).1).trans nj
  have ol := (hb8.block _ (Array.getElem?_eq_some_iff.1 oj).1).trans oj
  have B11 := B10.trans (hb8.mono B10.size)
  clear kj mj nj oj hb8 B10
  clear o0 o1 o2 o3
  obtain ⟨x8, hx8, -, hc8, -⟩ := boxH2 w8 (.int .i64 X) (.int .i64 Y) 39
  have kp := (hc8.block _ (Array.getElem?_eq_some_iff.1 kl).1).trans kl
  have mp := (hc8.block _ (Array.getElem?_eq_some_iff.1 ml).1).trans ml
  have np := (hc8.block _ (Array.getElem?_eq_some_iff.1 nl).1).trans nl
  have op := (hc8.block _ (Array.getElem?_eq_some_iff.1 ol).1).trans ol
  have B12 := B11.trans (hc8.mono B11.size)
  clear kl ml nl ol hc8 B11
  have hx8' := hx8.symm
  clear hx8
  go_wp2_with fail
  refine (rfRateW b _ hb).mono ?_
  rintro e w9 ⟨rfl, hb9⟩
  rw [HRB.out]
  have kq := (hb9.block _ (Array.getElem?_eq_some_iff.1 kp).1).trans kp
  have mq := (hb9.block _ (Array.getElem?_eq_some_iff.1 mp).1).trans mp
  have nq := (hb9.block _ (Array.getElem?_eq_some_iff.1 np).1).trans np
  have oq := (hb9.block _ (Array.getElem?_eq_some_iff.1 op).1).trans op
  have B13 := B12.trans (hb9.mono B12.size)
  clear kp mp np op hb9 B12
  clear hx8'
  obtain ⟨x9, hx9, -, hc9, -⟩ := boxH2 w9 (.int .i64 (rtX b)) (.int .i64 (rtY b)) 39
  have kr := (hc9.block _ (Array.getElem?_eq_some_iff.1 kq).1).trans kq
  have mr := (hc9.block _ (Array.getElem?_eq_some_iff.1 mq).1).trans mq
  have nr := (hc9.block _ (Array.getElem?_eq_some_iff.1 nq).1).trans nq
  have or := (hc9.block _ (Array.getElem?_eq_some_iff.1 oq).1).trans oq
  have B14 := B13.trans (hc9.mono B13.size)
  clear kq mq nq oq hc9 B13
  have hx9' := hx9.symm
  clear hx9
  obtain ⟨a0, a1, -, -⟩ := two_cell kr
  obtain ⟨b0, b1, -, -⟩ := two_cell mr
  obtain ⟨c0, c1, -, -⟩ := two_cell nr
  obtain ⟨d0, d1, -, -⟩ := two_cell or
  have hes := eqPairSame U V
  have hgp := guardPair
  go_wp2_with fail
  refine (lawRatio X Y X Y 0 _ (fun h => absurd rfl h) (fun _ => ⟨rfl, rfl⟩)).mono ?_
  rintro e w11 ⟨rfl, hb11⟩
  have B20 := B14.trans (hb11.mono B14.size)
  clear a0 a1 b0 b1 c0 c1 d0 d1 hb11 hes hgp kr mr nr or
  go_wp2_with fail
  refine (lawNumber 0 0 6 _ (fun _ => rfl) (fun _ => rfl)).mono ?_
  rintro e w12 ⟨rfl, rfl⟩
  go_wp2
  go_ret
  exact ⟨rfl, B20⟩
set_option maxHeartbeats 4000000 in
set_option maxRecDepth 100000 in
theorem lawRatesFT (a b : ByteArray) (w : World) (ha : Word a)  (hb : Word b) (hra : rowsB a = false) (hrb : rowsB b = true) (hsb : b.size ≤ 140) :
    Calls Tryz.prog 4 #[.string a, .string b] w fun e w' => e = .returned (.bool true) ∧ Below w.heap.size w w' := by
  have hsa : a.size ≤ 140 := by have := ha.2.2; omega
  have HEA := Lib.hid (wordE_of ha)
  have HEB := Lib.hid (wordE_of hb)
  have HF := Lib.hid (show firstE [0, 0] = 0 from rfl)
  have HCE := Lib.hid (show cmE a b = 6 by rw [cmE, hra, hrb]; rfl)
  have HCV := Lib.hid (show cmV a b = 0 by rw [cmV, hra, hrb]; rfl)
  have HRB := Lib.hid hrb
  have HRE := Lib.hid (show rateE a = 6 by rw [rateE, hra]; rfl)
  have HRA := Lib.hid hra
  have g1 : ¬ (140 : Int) < (a.size : Int) := by omega
  have g2 : ¬ (140 : Int) < (b.size : Int) := by omega
  obtain ⟨U, hU⟩ : ∃ U, (vecL a.data.toList).1 = U := ⟨_, rfl⟩
  obtain ⟨V, hV⟩ : ∃ V, (vecL a.data.toList).2 = V := ⟨_, rfl⟩
  have HU := Lib.hid hU
  have HV := Lib.hid hV
  obtain ⟨X, hX⟩ : ∃ X, rtX a = X := ⟨_, rfl⟩
  obtain ⟨Y, hY⟩ : ∃ Y, rtY a = Y := ⟨_, rfl⟩
  have HX := Lib.hid hX
  have HY := Lib.hid hY
  have HXZ := Lib.hid (show ((X : Int) = 0 ∧ (Y : Int) = 0) by rw [← hX, ← hY, rtX, rtY, hra]; simp)
  clear hra hU hV hX hY hrb
  go_enter Tryz.func4, Tryz.ntmps4
  go_wp2_with fail
  refine (awake2 _).mono ?_
  rintro e w1 ⟨rfl, hb1⟩
  go_wp2_with fail
  refine (tpVectorOk a _ ha).mono ?_
  rintro e w2 ⟨rfl, hb2⟩
  rw [HU.out, HV.out]
  have B2 := hb1.trans (hb2.mono hb1.size)
  clear hb1 hb2
  obtain ⟨x2, hx2, ka, hc2, -⟩ := boxH2 w2 (.int .i64 U) (.int .i64 V) 35
  have Bx := B2.trans (hc2.mono B2.size)
  have hx2' := hx2.symm
  clear hx2
  clear hc2 B2
  go_wp2_with fail
  refine (tpRateW a _ ha).mono ?_
  rintro e w3 ⟨rfl, hb3⟩
  rw [HX.out, HY.out, HRE.out]
  have kb := (hb3.block _ (Array.getElem?_eq_some_iff.1 ka).1).trans ka
  have B3 := Bx.trans (hb3.mono Bx.size)
  clear ka hb3 Bx
  clear hx2'
  obtain ⟨x3, hx3, ma, hc3, -⟩ := boxH2 w3 (.int .i64 X) (.int .i64 Y) 39
  have kc := (hc3.block _ (Array.getElem?_eq_some_iff.1 kb).1).trans kb
  have Bx3 := B3.trans (hc3.mono B3.size)
  clear kb hc3 B3
  have hx3' := hx3.symm
  clear hx3
  go_wp2_with fail
  refine (tpCompareW a b _ ha hb).mono ?_
  rintro e w4 ⟨rfl, hb4⟩
  rw [HCV.out, HCE.out]
  have kd := (hb4.block _ (Array.getElem?_eq_some_iff.1 kc).1).trans kc
  have B4 := Bx3.trans (hb4.mono Bx3.size)
  have md := (hb4.block _ (Array.getElem?_eq_some_iff.1 ma).1).trans ma
  clear ma kc hb4 Bx3
  clear hx3'
  go_wp2_with fail
  refine (refCheckWord a _ (by omega)).mono ?_
  rintro e w5 ⟨rfl, rfl⟩
  rw [HEA.out]
  go_wp2_with fail
  refine (refCheckWord b _ (by omega)).mono ?_
  rintro e w5 ⟨rfl, rfl⟩
  rw [HEB.out]
  go_wp2_with fail
  refine (rfFirst2 _ _ _ _ 3 _ (by exact heap_alloc_new _ _)).mono ?_
  rintro e w5 ⟨rfl, hb5'⟩
  rw [HF.out]
  have hal : Below w4.heap.size w4 (w4.alloc (.cells #[.int .i64 0, .int .i64 0] 3)) := (Below.refl _ _).alloc (Nat.le_refl _) _
  have hb5 := hal.trans (hb5'.mono hal.size)
  clear hal hb5'
  have ke := (hb5.block _ (Array.getElem?_eq_some_iff.1 kd).1).trans kd
  have me := (hb5.block _ (Array.getElem?_eq_some_iff.1 md).1).trans md
  have B5 := B4.trans (hb5.mono B4.size)
  clear kd md hb5 B4
  obtain ⟨x5, hx5, nf, of, hc5, hz5⟩ := boxH22 w5 (.int .i64 0) (.int .i64 0) (.int .i64 0) (.int .i64 0) 35 39
  have zk := (Array.getElem?_eq_some_iff.1 ke).1
  have zm := (Array.getElem?_eq_some_iff.1 me).1
  have zw := B5.size
  have kf := (hc5.block _ (Array.getElem?_eq_some_iff.1 ke).1).trans ke
  have mf := (hc5.block _ (Array.getElem?_eq_some_iff.1 me).1).trans me
  have B6 := B5.trans (hc5.mono B5.size)
  clear ke me hc5 B5
  have HX5 := Lib.hid hx5
  clear hx5
  go_wp2_with fail
  rw [← HX5.out]
  refine (rfVector a _ ha).mono ?_
  rintro e w6 ⟨rfl, hb6⟩
  rw [HU.out, HV.out]
  have kg := (hb6.block _ (Array.getElem?_eq_some_iff.1 kf).1).trans kf
  have mg := (hb6.block _ (Array.getElem?_eq_some_iff.1 mf).1).trans mf
  have ng := (hb6.block _ (Array.getElem?_eq_some_iff.1 nf).1).trans nf
  have og := (hb6.block _ (Array.getElem?_eq_some_iff.1 of).1).trans of
  have B7 := B6.trans (hb6.mono B6.size)
  clear kf mf nf of hb6 B6
  obtain ⟨n0, n1, n2, n3⟩ := two_cell ng
  obtain ⟨nh, y2⟩ := two_set ng (.int .i64 U) (.int .i64 V)
  have kh := (y2.block _ (Array.getElem?_eq_some_iff.1 kg).1 (fun e => by injection e; omega)).trans kg
  have mh := (y2.block _ (Array.getElem?_eq_some_iff.1 mg).1 (fun e => by injection e; omega)).trans mg
  have oh := (y2.block _ (Array.getElem?_eq_some_iff.1 og).1 (fun e => by injection e; omega)).trans og
  have B8 := B7.grown y2 B7.size (fun j e => by cases e; omega)
  clear kg mg ng og y2 B7
  go_wp2_with fail
  refine (rfRateW a _ ha).mono ?_
  rintro e w7 ⟨rfl, hb7⟩
  rw [HX.out, HY.out, HRA.out]
  have ki := (hb7.block _ (Array.getElem?_eq_some_iff.1 kh).1).trans kh
  have mi := (hb7.block _ (Array.getElem?_eq_some_iff.1 mh).1).trans mh
  have ni := (hb7.block _ (Array.getElem?_eq_some_iff.1 nh).1).trans nh
  have oi := (hb7.block _ (Array.getElem?_eq_some_iff.1 oh).1).trans oh
  have B9 := B8.trans (hb7.mono B8.size)
  clear kh mh nh oh hb7 B8
  clear n0 n1 n2 n3
  obtain ⟨o0, o1, o2, o3⟩ := two_cell oi
  obtain ⟨oj, y3⟩ := two_set oi (.int .i64 X) (.int .i64 Y)
  have kj := (y3.block _ (Array.getElem?_eq_some_iff.1 ki).1 (fun e => by injection e; omega)).trans ki
  have mj := (y3.block _ (Array.getElem?_eq_some_iff.1 mi).1 (fun e => by injection e; omega)).trans mi
  have nj := (y3.block _ (Array.getElem?_eq_some_iff.1 ni).1 (fun e => by injection e; omega)).trans ni
  have B10 := B9.grown y3 B9.size (fun j e => by cases e; omega)
  clear ki mi ni oi y3 B9
  go_wp2_with fail
  refine (rfRateW a _ ha).mono ?_
  rintro e w8 ⟨rfl, hb8⟩
  rw [HX.out, HY.out, HRA.out]
  have kl := (hb8.block _ (Array.getElem?_eq_some_iff.1 kj).1).trans kj
  have ml := (hb8.block _ (Array.getElem?_eq_some_iff.1 mj).1).trans mj
  have nl := (hb8.block _ (Array.getElem?_eq_some_iff.1 nj).1).trans nj
  have ol := (hb8.block _ (Array.getElem?_eq_some_iff.1 oj).1).trans oj
  have B11 := B10.trans (hb8.mono B10.size)
  clear kj mj nj oj hb8 B10
  clear o0 o1 o2 o3
  obtain ⟨x8, hx8, -, hc8, -⟩ := boxH2 w8 (.int .i64 X) (.int .i64 Y) 39
  have kp := (hc8.block _ (Array.getElem?_eq_some_iff.1 kl).1).trans kl
  have mp := (hc8.block _ (Array.getElem?_eq_some_iff.1 ml).1).trans ml
  have np := (hc8.block _ (Array.getElem?_eq_some_iff.1 nl).1).trans nl
  have op := (hc8.block _ (Array.getElem?_eq_some_iff.1 ol).1).trans ol
  have B12 := B11.trans (hc8.mono B11.size)
  clear kl ml nl ol hc8 B11
  have hx8' := hx8.symm
  clear hx8
  go_wp2_with fail
  refine (rfRateW b _ hb).mono ?_
  rintro e w9 ⟨rfl, hb9⟩
  rw [HRB.out]
  have kq := (hb9.block _ (Array.getElem?_eq_some_iff.1 kp).1).trans kp
  have mq := (hb9.block _ (Array.getElem?_eq_some_iff.1 mp).1).trans mp
  have nq := (hb9.block _ (Array.getElem?_eq_some_iff.1 np).1).trans np
  have oq := (hb9.block _ (Array.getElem?_eq_some_iff.1 op).1).trans op
  have B13 := B12.trans (hb9.mono B12.size)
  clear kp mp np op hb9 B12
  clear hx8'
  obtain ⟨x9, hx9, -, hc9, -⟩ := boxH2 w9 (.int .i64 (rtX b)) (.int .i64 (rtY b)) 39
  have kr := (hc9.block _ (Array.getElem?_eq_some_iff.1 kq).1).trans kq
  have mr := (hc9.block _ (Array.getElem?_eq_some_iff.1 mq).1).trans mq
  have nr := (hc9.block _ (Array.getElem?_eq_some_iff.1 nq).1).trans nq
  have or := (hc9.block _ (Array.getElem?_eq_some_iff.1 oq).1).trans oq
  have B14 := B13.trans (hc9.mono B13.size)
  clear kq mq nq oq hc9 B13
  have hx9' := hx9.symm
  clear hx9
  obtain ⟨a0, a1, -, -⟩ := two_cell kr
  obtain ⟨b0, b1, -, -⟩ := two_cell mr
  obtain ⟨c0, c1, -, -⟩ := two_cell nr
  obtain ⟨d0, d1, -, -⟩ := two_cell or
  have hes := eqPairSame U V
  have hgp := guardPair
  go_wp2_with fail
  refine (lawRatio X Y X Y 6 _ (fun _ => HXZ.out) (fun _ => ⟨rfl, rfl⟩)).mono ?_
  rintro e w11 ⟨rfl, hb11⟩
  have B20 := B14.trans (hb11.mono B14.size)
  clear a0 a1 b0 b1 c0 c1 d0 d1 hb11 hes hgp kr mr nr or
  go_wp2_with fail
  refine (lawNumber 0 0 6 _ (fun _ => rfl) (fun _ => rfl)).mono ?_
  rintro e w12 ⟨rfl, rfl⟩
  go_wp2
  go_ret
  exact ⟨rfl, B20⟩
set_option maxHeartbeats 4000000 in
set_option maxRecDepth 100000 in
theorem lawRatesFF (a b : ByteArray) (w : World) (ha : Word a)  (hb : Word b) (hra : rowsB a = false) (hrb : rowsB b = false) (hsb : b.size ≤ 140) :
    Calls Tryz.prog 4 #[.string a, .string b] w fun e w' => e = .returned (.bool true) ∧ Below w.heap.size w w' := by
  have hsa : a.size ≤ 140 := by have := ha.2.2; omega
  have HEA := Lib.hid (wordE_of ha)
  have HEB := Lib.hid (wordE_of hb)
  have HF := Lib.hid (show firstE [0, 0] = 0 from rfl)
  have HCE := Lib.hid (show cmE a b = 6 by rw [cmE, hra, hrb]; rfl)
  have HCV := Lib.hid (show cmV a b = 0 by rw [cmV, hra, hrb]; rfl)
  have HRB := Lib.hid hrb
  have HRE := Lib.hid (show rateE a = 6 by rw [rateE, hra]; rfl)
  have HRA := Lib.hid hra
  have g1 : ¬ (140 : Int) < (a.size : Int) := by omega
  have g2 : ¬ (140 : Int) < (b.size : Int) := by omega
  obtain ⟨U, hU⟩ : ∃ U, (vecL a.data.toList).1 = U := ⟨_, rfl⟩
  obtain ⟨V, hV⟩ : ∃ V, (vecL a.data.toList).2 = V := ⟨_, rfl⟩
  have HU := Lib.hid hU
  have HV := Lib.hid hV
  obtain ⟨X, hX⟩ : ∃ X, rtX a = X := ⟨_, rfl⟩
  obtain ⟨Y, hY⟩ : ∃ Y, rtY a = Y := ⟨_, rfl⟩
  have HX := Lib.hid hX
  have HY := Lib.hid hY
  have HXZ := Lib.hid (show ((X : Int) = 0 ∧ (Y : Int) = 0) by rw [← hX, ← hY, rtX, rtY, hra]; simp)
  clear hra hU hV hX hY hrb
  go_enter Tryz.func4, Tryz.ntmps4
  go_wp2_with fail
  refine (awake2 _).mono ?_
  rintro e w1 ⟨rfl, hb1⟩
  go_wp2_with fail
  refine (tpVectorOk a _ ha).mono ?_
  rintro e w2 ⟨rfl, hb2⟩
  rw [HU.out, HV.out]
  have B2 := hb1.trans (hb2.mono hb1.size)
  clear hb1 hb2
  obtain ⟨x2, hx2, ka, hc2, -⟩ := boxH2 w2 (.int .i64 U) (.int .i64 V) 35
  have Bx := B2.trans (hc2.mono B2.size)
  have hx2' := hx2.symm
  clear hx2
  clear hc2 B2
  go_wp2_with fail
  refine (tpRateW a _ ha).mono ?_
  rintro e w3 ⟨rfl, hb3⟩
  rw [HX.out, HY.out, HRE.out]
  have kb := (hb3.block _ (Array.getElem?_eq_some_iff.1 ka).1).trans ka
  have B3 := Bx.trans (hb3.mono Bx.size)
  clear ka hb3 Bx
  clear hx2'
  obtain ⟨x3, hx3, ma, hc3, -⟩ := boxH2 w3 (.int .i64 X) (.int .i64 Y) 39
  have kc := (hc3.block _ (Array.getElem?_eq_some_iff.1 kb).1).trans kb
  have Bx3 := B3.trans (hc3.mono B3.size)
  clear kb hc3 B3
  have hx3' := hx3.symm
  clear hx3
  go_wp2_with fail
  refine (tpCompareW a b _ ha hb).mono ?_
  rintro e w4 ⟨rfl, hb4⟩
  rw [HCV.out, HCE.out]
  have kd := (hb4.block _ (Array.getElem?_eq_some_iff.1 kc).1).trans kc
  have B4 := Bx3.trans (hb4.mono Bx3.size)
  have md := (hb4.block _ (Array.getElem?_eq_some_iff.1 ma).1).trans ma
  clear ma kc hb4 Bx3
  clear hx3'
  go_wp2_with fail
  refine (refCheckWord a _ (by omega)).mono ?_
  rintro e w5 ⟨rfl, rfl⟩
  rw [HEA.out]
  go_wp2_with fail
  refine (refCheckWord b _ (by omega)).mono ?_
  rintro e w5 ⟨rfl, rfl⟩
  rw [HEB.out]
  go_wp2_with fail
  refine (rfFirst2 _ _ _ _ 3 _ (by exact heap_alloc_new _ _)).mono ?_
  rintro e w5 ⟨rfl, hb5'⟩
  rw [HF.out]
  have hal : Below w4.heap.size w4 (w4.alloc (.cells #[.int .i64 0, .int .i64 0] 3)) := (Below.refl _ _).alloc (Nat.le_refl _) _
  have hb5 := hal.trans (hb5'.mono hal.size)
  clear hal hb5'
  have ke := (hb5.block _ (Array.getElem?_eq_some_iff.1 kd).1).trans kd
  have me := (hb5.block _ (Array.getElem?_eq_some_iff.1 md).1).trans md
  have B5 := B4.trans (hb5.mono B4.size)
  clear kd md hb5 B4
  obtain ⟨x5, hx5, nf, of, hc5, hz5⟩ := boxH22 w5 (.int .i64 0) (.int .i64 0) (.int .i64 0) (.int .i64 0) 35 39
  have zk := (Array.getElem?_eq_some_iff.1 ke).1
  have zm := (Array.getElem?_eq_some_iff.1 me).1
  have zw := B5.size
  have kf := (hc5.block _ (Array.getElem?_eq_some_iff.1 ke).1).trans ke
  have mf := (hc5.block _ (Array.getElem?_eq_some_iff.1 me).1).trans me
  have B6 := B5.trans (hc5.mono B5.size)
  clear ke me hc5 B5
  have HX5 := Lib.hid hx5
  clear hx5
  go_wp2_with fail
  rw [← HX5.out]
  refine (rfVector a _ ha).mono ?_
  rintro e w6 ⟨rfl, hb6⟩
  rw [HU.out, HV.out]
  have kg := (hb6.block _ (Array.getElem?_eq_some_iff.1 kf).1).trans kf
  have mg := (hb6.block _ (Array.getElem?_eq_some_iff.1 mf).1).trans mf
  have ng := (hb6.block _ (Array.getElem?_eq_some_iff.1 nf).1).trans nf
  have og := (hb6.block _ (Array.getElem?_eq_some_iff.1 of).1).trans of
  have B7 := B6.trans (hb6.mono B6.size)
  clear kf mf nf of hb6 B6
  obtain ⟨n0, n1, n2, n3⟩ := two_cell ng
  obtain ⟨nh, y2⟩ := two_set ng (.int .i64 U) (.int .i64 V)
  have kh := (y2.block _ (Array.getElem?_eq_some_iff.1 kg).1 (fun e => by injection e; omega)).trans kg
  have mh := (y2.block _ (Array.getElem?_eq_some_iff.1 mg).1 (fun e => by injection e; omega)).trans mg
  have oh := (y2.block _ (Array.getElem?_eq_some_iff.1 og).1 (fun e => by injection e; omega)).trans og
  have B8 := B7.grown y2 B7.size (fun j e => by cases e; omega)
  clear kg mg ng og y2 B7
  go_wp2_with fail
  refine (rfRateW a _ ha).mono ?_
  rintro e w7 ⟨rfl, hb7⟩
  rw [HX.out, HY.out, HRA.out]
  have ki := (hb7.block _ (Array.getElem?_eq_some_iff.1 kh).1).trans kh
  have mi := (hb7.block _ (Array.getElem?_eq_some_iff.1 mh).1).trans mh
  have ni := (hb7.block _ (Array.getElem?_eq_some_iff.1 nh).1).trans nh
  have oi := (hb7.block _ (Array.getElem?_eq_some_iff.1 oh).1).trans oh
  have B9 := B8.trans (hb7.mono B8.size)
  clear kh mh nh oh hb7 B8
  clear n0 n1 n2 n3
  obtain ⟨o0, o1, o2, o3⟩ := two_cell oi
  obtain ⟨oj, y3⟩ := two_set oi (.int .i64 X) (.int .i64 Y)
  have kj := (y3.block _ (Array.getElem?_eq_some_iff.1 ki).1 (fun e => by injection e; omega)).trans ki
  have mj := (y3.block _ (Array.getElem?_eq_some_iff.1 mi).1 (fun e => by injection e; omega)).trans mi
  have nj := (y3.block _ (Array.getElem?_eq_some_iff.1 ni).1 (fun e => by injection e; omega)).trans ni
  have B10 := B9.grown y3 B9.size (fun j e => by cases e; omega)
  clear ki mi ni oi y3 B9
  go_wp2_with fail
  refine (rfRateW a _ ha).mono ?_
  rintro e w8 ⟨rfl, hb8⟩
  rw [HX.out, HY.out, HRA.out]
  have kl := (hb8.block _ (Array.getElem?_eq_some_iff.1 kj).1).trans kj
  have ml := (hb8.block _ (Array.getElem?_eq_some_iff.1 mj).1).trans mj
  have nl := (hb8.block _ (Array.getElem?_eq_some_iff.1 nj).1).trans nj
  have ol := (hb8.block _ (Array.getElem?_eq_some_iff.1 oj).1).trans oj
  have B11 := B10.trans (hb8.mono B10.size)
  clear kj mj nj oj hb8 B10
  clear o0 o1 o2 o3
  obtain ⟨x8, hx8, -, hc8, -⟩ := boxH2 w8 (.int .i64 X) (.int .i64 Y) 39
  have kp := (hc8.block _ (Array.getElem?_eq_some_iff.1 kl).1).trans kl
  have mp := (hc8.block _ (Array.getElem?_eq_some_iff.1 ml).1).trans ml
  have np := (hc8.block _ (Array.getElem?_eq_some_iff.1 nl).1).trans nl
  have op := (hc8.block _ (Array.getElem?_eq_some_iff.1 ol).1).trans ol
  have B12 := B11.trans (hc8.mono B11.size)
  clear kl ml nl ol hc8 B11
  have hx8' := hx8.symm
  clear hx8
  go_wp2_with fail
  refine (rfRateW b _ hb).mono ?_
  rintro e w9 ⟨rfl, hb9⟩
  rw [HRB.out]
  have kq := (hb9.block _ (Array.getElem?_eq_some_iff.1 kp).1).trans kp
  have mq := (hb9.block _ (Array.getElem?_eq_some_iff.1 mp).1).trans mp
  have nq := (hb9.block _ (Array.getElem?_eq_some_iff.1 np).1).trans np
  have oq := (hb9.block _ (Array.getElem?_eq_some_iff.1 op).1).trans op
  have B13 := B12.trans (hb9.mono B12.size)
  clear kp mp np op hb9 B12
  clear hx8'
  obtain ⟨x9, hx9, -, hc9, -⟩ := boxH2 w9 (.int .i64 (rtX b)) (.int .i64 (rtY b)) 39
  have kr := (hc9.block _ (Array.getElem?_eq_some_iff.1 kq).1).trans kq
  have mr := (hc9.block _ (Array.getElem?_eq_some_iff.1 mq).1).trans mq
  have nr := (hc9.block _ (Array.getElem?_eq_some_iff.1 nq).1).trans nq
  have or := (hc9.block _ (Array.getElem?_eq_some_iff.1 oq).1).trans oq
  have B14 := B13.trans (hc9.mono B13.size)
  clear kq mq nq oq hc9 B13
  have hx9' := hx9.symm
  clear hx9
  obtain ⟨a0, a1, -, -⟩ := two_cell kr
  obtain ⟨b0, b1, -, -⟩ := two_cell mr
  obtain ⟨c0, c1, -, -⟩ := two_cell nr
  obtain ⟨d0, d1, -, -⟩ := two_cell or
  have hes := eqPairSame U V
  have hgp := guardPair
  go_wp2_with fail
  refine (lawRatio X Y X Y 6 _ (fun _ => HXZ.out) (fun _ => ⟨rfl, rfl⟩)).mono ?_
  rintro e w11 ⟨rfl, hb11⟩
  have B20 := B14.trans (hb11.mono B14.size)
  clear a0 a1 b0 b1 c0 c1 d0 d1 hb11 hes hgp kr mr nr or
  go_wp2_with fail
  refine (lawNumber 0 0 6 _ (fun _ => rfl) (fun _ => rfl)).mono ?_
  rintro e w12 ⟨rfl, rfl⟩
  go_wp2
  go_ret
  exact ⟨rfl, B20⟩
set_option maxHeartbeats 4000000 in
set_option maxRecDepth 100000 in
theorem lawRatesTN (a b : ByteArray) (EB : Int) (w : World) (ha : Word a) (hB : wordE b.data.toList = EB) (h0 : EB ≠ 0) (hra : rowsB a = true) (hsb : b.size ≤ 140) :
    Calls Tryz.prog 4 #[.string a, .string b] w fun e w' => e = .returned (.bool true) ∧ Below w.heap.size w w' := by
  have hsa : a.size ≤ 140 := by have := ha.2.2; omega
  have HEA := Lib.hid (wordE_of ha)
  have HEB := Lib.hid hB
  have H0 := Lib.hid h0
  have HF := Lib.hid (show firstE [0, EB] = EB by simp [firstE]; intro h; exact h.symm)
  have HF2 := Lib.hid (show firstE [wordE a.data.toList, wordE b.data.toList] = EB by rw [HEA.out, hB]; simp [firstE]; intro h; exact h.symm)
  have hnz : (EB == 0) = false := by rw [beq_eq_false_iff_ne]; exact h0
  have HRE := Lib.hid (show rateE a = 0 by rw [rateE, hra]; rfl)
  have HRA := Lib.hid hra
  have g1 : ¬ (140 : Int) < (a.size : Int) := by omega
  have g2 : ¬ (140 : Int) < (b.size : Int) := by omega
  obtain ⟨U, hU⟩ : ∃ U, (vecL a.data.toList).1 = U := ⟨_, rfl⟩
  obtain ⟨V, hV⟩ : ∃ V, (vecL a.data.toList).2 = V := ⟨_, rfl⟩
  have HU := Lib.hid hU
  have HV := Lib.hid hV
  obtain ⟨X, hX⟩ : ∃ X, rtX a = X := ⟨_, rfl⟩
  obtain ⟨Y, hY⟩ : ∃ Y, rtY a = Y := ⟨_, rfl⟩
  have HX := Lib.hid hX
  have HY := Lib.hid hY
  clear hra hU hV hX hY hB h0
  go_enter Tryz.func4, Tryz.ntmps4
  go_wp2_with fail
  refine (awake2 _).mono ?_
  rintro e w1 ⟨rfl, hb1⟩
  go_wp2_with fail
  refine (tpVectorOk a _ ha).mono ?_
  rintro e w2 ⟨rfl, hb2⟩
  rw [HU.out, HV.out]
  have B2 := hb1.trans (hb2.mono hb1.size)
  clear hb1 hb2
  obtain ⟨x2, hx2, ka, hc2, -⟩ := boxH2 w2 (.int .i64 U) (.int .i64 V) 35
  have Bx := B2.trans (hc2.mono B2.size)
  have hx2' := hx2.symm
  clear hx2
  clear hc2 B2
  go_wp2_with fail
  refine (tpRateW a _ ha).mono ?_
  rintro e w3 ⟨rfl, hb3⟩
  rw [HX.out, HY.out, HRE.out]
  have kb := (hb3.block _ (Array.getElem?_eq_some_iff.1 ka).1).trans ka
  have B3 := Bx.trans (hb3.mono Bx.size)
  clear ka hb3 Bx
  clear hx2'
  obtain ⟨x3, hx3, ma, hc3, -⟩ := boxH2 w3 (.int .i64 X) (.int .i64 Y) 39
  have kc := (hc3.block _ (Array.getElem?_eq_some_iff.1 kb).1).trans kb
  have Bx3 := B3.trans (hc3.mono B3.size)
  clear kb hc3 B3
  have hx3' := hx3.symm
  clear hx3
  go_wp2_with fail
  refine (tpCompareNo a b _ EB HF2.out H0.out).mono ?_
  rintro e w4 ⟨rfl, hb4⟩
  have kd := (hb4.block _ (Array.getElem?_eq_some_iff.1 kc).1).trans kc
  have B4 := Bx3.trans (hb4.mono Bx3.size)
  have md := (hb4.block _ (Array.getElem?_eq_some_iff.1 ma).1).trans ma
  clear ma kc hb4 Bx3
  clear hx3'
  go_wp2_with fail
  refine (refCheckWord a _ (by omega)).mono ?_
  rintro e w5 ⟨rfl, rfl⟩
  rw [HEA.out]
  go_wp2_with fail
  refine (refCheckWord b _ (by omega)).mono ?_
  rintro e w5 ⟨rfl, rfl⟩
  rw [HEB.out]
  go_wp2_with fail
  refine (rfFirst2 _ _ _ _ 3 _ (by exact heap_alloc_new _ _)).mono ?_
  rintro e w5 ⟨rfl, hb5'⟩
  rw [HF.out]
  have hal : Below w4.heap.size w4 (w4.alloc (.cells #[.int .i64 0, .int .i64 EB] 3)) := (Below.refl _ _).alloc (Nat.le_refl _) _
  have hb5 := hal.trans (hb5'.mono hal.size)
  clear hal hb5'
  have ke := (hb5.block _ (Array.getElem?_eq_some_iff.1 kd).1).trans kd
  have me := (hb5.block _ (Array.getElem?_eq_some_iff.1 md).1).trans md
  have B5 := B4.trans (hb5.mono B4.size)
  clear kd md hb5 B4
  obtain ⟨x5, hx5, nf, of, hc5, hz5⟩ := boxH22 w5 (.int .i64 0) (.int .i64 0) (.int .i64 0) (.int .i64 0) 35 39
  have zk := (Array.getElem?_eq_some_iff.1 ke).1
  have zm := (Array.getElem?_eq_some_iff.1 me).1
  have zw := B5.size
  have kf := (hc5.block _ (Array.getElem?_eq_some_iff.1 ke).1).trans ke
  have mf := (hc5.block _ (Array.getElem?_eq_some_iff.1 me).1).trans me
  have B6 := B5.trans (hc5.mono B5.size)
  clear ke me hc5 B5
  have HX5 := Lib.hid hx5
  clear hx5
  go_wp2_with fail
  rw [← HX5.out]
  refine (rfVector a _ ha).mono ?_
  rintro e w6 ⟨rfl, hb6⟩
  rw [HU.out, HV.out]
  have kg := (hb6.block _ (Array.getElem?_eq_some_iff.1 kf).1).trans kf
  have mg := (hb6.block _ (Array.getElem?_eq_some_iff.1 mf).1).trans mf
  have ng := (hb6.block _ (Array.getElem?_eq_some_iff.1 nf).1).trans nf
  have og := (hb6.block _ (Array.getElem?_eq_some_iff.1 of).1).trans of
  have B7 := B6.trans (hb6.mono B6.size)
  clear kf mf nf of hb6 B6
  obtain ⟨n0, n1, n2, n3⟩ := two_cell ng
  obtain ⟨nh, y2⟩ := two_set ng (.int .i64 U) (.int .i64 V)
  have kh := (y2.block _ (Array.getElem?_eq_some_iff.1 kg).1 (fun e => by injection e; omega)).trans kg
  have mh := (y2.block _ (Array.getElem?_eq_some_iff.1 mg).1 (fun e => by injection e; omega)).trans mg
  have oh := (y2.block _ (Array.getElem?_eq_some_iff.1 og).1 (fun e => by injection e; omega)).trans og
  have B8 := B7.grown y2 B7.size (fun j e => by cases e; omega)
  clear kg mg ng og y2 B7
  go_wp2_with fail
  refine (rfRateW a _ ha).mono ?_
  rintro e w7 ⟨rfl, hb7⟩
  rw [HX.out, HY.out, HRA.out]
  have ki := (hb7.block _ (Array.getElem?_eq_some_iff.1 kh).1).trans kh
  have mi := (hb7.block _ (Array.getElem?_eq_some_iff.1 mh).1).trans mh
  have ni := (hb7.block _ (Array.getElem?_eq_some_iff.1 nh).1).trans nh
  have oi := (hb7.block _ (Array.getElem?_eq_some_iff.1 oh).1).trans oh
  have B9 := B8.trans (hb7.mono B8.size)
  clear kh mh nh oh hb7 B8
  clear n0 n1 n2 n3
  obtain ⟨o0, o1, o2, o3⟩ := two_cell oi
  obtain ⟨oj, y3⟩ := two_set oi (.int .i64 X) (.int .i64 Y)
  have kj := (y3.block _ (Array.getElem?_eq_some_iff.1 ki).1 (fun e => by injection e; omega)).trans ki
  have mj := (y3.block _ (Array.getElem?_eq_some_iff.1 mi).1 (fun e => by injection e; omega)).trans mi
  have nj := (y3.block _ (Array.getElem?_eq_some_iff.1 ni).1 (fun e => by injection e; omega)).trans ni
  have B10 := B9.grown y3 B9.size (fun j e => by cases e; omega)
  clear ki mi ni oi y3 B9
  obtain ⟨a0, a1, -, -⟩ := two_cell kj
  obtain ⟨b0, b1, -, -⟩ := two_cell mj
  obtain ⟨c0, c1, -, -⟩ := two_cell nj
  obtain ⟨d0, d1, -, -⟩ := two_cell oj
  have hes := eqPairSame U V
  have hgp := guardPair
  go_wp2_with fail
  refine (lawRatio X Y X Y 0 _ (fun h => absurd rfl h) (fun _ => ⟨rfl, rfl⟩)).mono ?_
  rintro e w11 ⟨rfl, hb11⟩
  have B20 := B10.trans (hb11.mono B10.size)
  clear a0 a1 b0 b1 c0 c1 d0 d1 hb11 hes hgp kj mj nj oj
  go_wp2_with fail
  refine (lawNumber 0 0 EB _ (fun _ => rfl) (fun _ => rfl)).mono ?_
  rintro e w12 ⟨rfl, rfl⟩
  go_wp2
  go_ret
  exact ⟨rfl, B20⟩
set_option maxHeartbeats 4000000 in
set_option maxRecDepth 100000 in
theorem lawRatesFN (a b : ByteArray) (EB : Int) (w : World) (ha : Word a) (hB : wordE b.data.toList = EB) (h0 : EB ≠ 0) (hra : rowsB a = false) (hsb : b.size ≤ 140) :
    Calls Tryz.prog 4 #[.string a, .string b] w fun e w' => e = .returned (.bool true) ∧ Below w.heap.size w w' := by
  have hsa : a.size ≤ 140 := by have := ha.2.2; omega
  have HEA := Lib.hid (wordE_of ha)
  have HEB := Lib.hid hB
  have H0 := Lib.hid h0
  have HF := Lib.hid (show firstE [0, EB] = EB by simp [firstE]; intro h; exact h.symm)
  have HF2 := Lib.hid (show firstE [wordE a.data.toList, wordE b.data.toList] = EB by rw [HEA.out, hB]; simp [firstE]; intro h; exact h.symm)
  have hnz : (EB == 0) = false := by rw [beq_eq_false_iff_ne]; exact h0
  have HRE := Lib.hid (show rateE a = 6 by rw [rateE, hra]; rfl)
  have HRA := Lib.hid hra
  have g1 : ¬ (140 : Int) < (a.size : Int) := by omega
  have g2 : ¬ (140 : Int) < (b.size : Int) := by omega
  obtain ⟨U, hU⟩ : ∃ U, (vecL a.data.toList).1 = U := ⟨_, rfl⟩
  obtain ⟨V, hV⟩ : ∃ V, (vecL a.data.toList).2 = V := ⟨_, rfl⟩
  have HU := Lib.hid hU
  have HV := Lib.hid hV
  obtain ⟨X, hX⟩ : ∃ X, rtX a = X := ⟨_, rfl⟩
  obtain ⟨Y, hY⟩ : ∃ Y, rtY a = Y := ⟨_, rfl⟩
  have HX := Lib.hid hX
  have HY := Lib.hid hY
  have HXZ := Lib.hid (show ((X : Int) = 0 ∧ (Y : Int) = 0) by rw [← hX, ← hY, rtX, rtY, hra]; simp)
  clear hra hU hV hX hY hB h0
  go_enter Tryz.func4, Tryz.ntmps4
  go_wp2_with fail
  refine (awake2 _).mono ?_
  rintro e w1 ⟨rfl, hb1⟩
  go_wp2_with fail
  refine (tpVectorOk a _ ha).mono ?_
  rintro e w2 ⟨rfl, hb2⟩
  rw [HU.out, HV.out]
  have B2 := hb1.trans (hb2.mono hb1.size)
  clear hb1 hb2
  obtain ⟨x2, hx2, ka, hc2, -⟩ := boxH2 w2 (.int .i64 U) (.int .i64 V) 35
  have Bx := B2.trans (hc2.mono B2.size)
  have hx2' := hx2.symm
  clear hx2
  clear hc2 B2
  go_wp2_with fail
  refine (tpRateW a _ ha).mono ?_
  rintro e w3 ⟨rfl, hb3⟩
  rw [HX.out, HY.out, HRE.out]
  have kb := (hb3.block _ (Array.getElem?_eq_some_iff.1 ka).1).trans ka
  have B3 := Bx.trans (hb3.mono Bx.size)
  clear ka hb3 Bx
  clear hx2'
  obtain ⟨x3, hx3, ma, hc3, -⟩ := boxH2 w3 (.int .i64 X) (.int .i64 Y) 39
  have kc := (hc3.block _ (Array.getElem?_eq_some_iff.1 kb).1).trans kb
  have Bx3 := B3.trans (hc3.mono B3.size)
  clear kb hc3 B3
  have hx3' := hx3.symm
  clear hx3
  go_wp2_with fail
  refine (tpCompareNo a b _ EB HF2.out H0.out).mono ?_
  rintro e w4 ⟨rfl, hb4⟩
  have kd := (hb4.block _ (Array.getElem?_eq_some_iff.1 kc).1).trans kc
  have B4 := Bx3.trans (hb4.mono Bx3.size)
  have md := (hb4.block _ (Array.getElem?_eq_some_iff.1 ma).1).trans ma
  clear ma kc hb4 Bx3
  clear hx3'
  go_wp2_with fail
  refine (refCheckWord a _ (by omega)).mono ?_
  rintro e w5 ⟨rfl, rfl⟩
  rw [HEA.out]
  go_wp2_with fail
  refine (refCheckWord b _ (by omega)).mono ?_
  rintro e w5 ⟨rfl, rfl⟩
  rw [HEB.out]
  go_wp2_with fail
  refine (rfFirst2 _ _ _ _ 3 _ (by exact heap_alloc_new _ _)).mono ?_
  rintro e w5 ⟨rfl, hb5'⟩
  rw [HF.out]
  have hal : Below w4.heap.size w4 (w4.alloc (.cells #[.int .i64 0, .int .i64 EB] 3)) := (Below.refl _ _).alloc (Nat.le_refl _) _
  have hb5 := hal.trans (hb5'.mono hal.size)
  clear hal hb5'
  have ke := (hb5.block _ (Array.getElem?_eq_some_iff.1 kd).1).trans kd
  have me := (hb5.block _ (Array.getElem?_eq_some_iff.1 md).1).trans md
  have B5 := B4.trans (hb5.mono B4.size)
  clear kd md hb5 B4
  obtain ⟨x5, hx5, nf, of, hc5, hz5⟩ := boxH22 w5 (.int .i64 0) (.int .i64 0) (.int .i64 0) (.int .i64 0) 35 39
  have zk := (Array.getElem?_eq_some_iff.1 ke).1
  have zm := (Array.getElem?_eq_some_iff.1 me).1
  have zw := B5.size
  have kf := (hc5.block _ (Array.getElem?_eq_some_iff.1 ke).1).trans ke
  have mf := (hc5.block _ (Array.getElem?_eq_some_iff.1 me).1).trans me
  have B6 := B5.trans (hc5.mono B5.size)
  clear ke me hc5 B5
  have HX5 := Lib.hid hx5
  clear hx5
  go_wp2_with fail
  rw [← HX5.out]
  refine (rfVector a _ ha).mono ?_
  rintro e w6 ⟨rfl, hb6⟩
  rw [HU.out, HV.out]
  have kg := (hb6.block _ (Array.getElem?_eq_some_iff.1 kf).1).trans kf
  have mg := (hb6.block _ (Array.getElem?_eq_some_iff.1 mf).1).trans mf
  have ng := (hb6.block _ (Array.getElem?_eq_some_iff.1 nf).1).trans nf
  have og := (hb6.block _ (Array.getElem?_eq_some_iff.1 of).1).trans of
  have B7 := B6.trans (hb6.mono B6.size)
  clear kf mf nf of hb6 B6
  obtain ⟨n0, n1, n2, n3⟩ := two_cell ng
  obtain ⟨nh, y2⟩ := two_set ng (.int .i64 U) (.int .i64 V)
  have kh := (y2.block _ (Array.getElem?_eq_some_iff.1 kg).1 (fun e => by injection e; omega)).trans kg
  have mh := (y2.block _ (Array.getElem?_eq_some_iff.1 mg).1 (fun e => by injection e; omega)).trans mg
  have oh := (y2.block _ (Array.getElem?_eq_some_iff.1 og).1 (fun e => by injection e; omega)).trans og
  have B8 := B7.grown y2 B7.size (fun j e => by cases e; omega)
  clear kg mg ng og y2 B7
  go_wp2_with fail
  refine (rfRateW a _ ha).mono ?_
  rintro e w7 ⟨rfl, hb7⟩
  rw [HX.out, HY.out, HRA.out]
  have ki := (hb7.block _ (Array.getElem?_eq_some_iff.1 kh).1).trans kh
  have mi := (hb7.block _ (Array.getElem?_eq_some_iff.1 mh).1).trans mh
  have ni := (hb7.block _ (Array.getElem?_eq_some_iff.1 nh).1).trans nh
  have oi := (hb7.block _ (Array.getElem?_eq_some_iff.1 oh).1).trans oh
  have B9 := B8.trans (hb7.mono B8.size)
  clear kh mh nh oh hb7 B8
  clear n0 n1 n2 n3
  obtain ⟨o0, o1, o2, o3⟩ := two_cell oi
  obtain ⟨oj, y3⟩ := two_set oi (.int .i64 X) (.int .i64 Y)
  have kj := (y3.block _ (Array.getElem?_eq_some_iff.1 ki).1 (fun e => by injection e; omega)).trans ki
  have mj := (y3.block _ (Array.getElem?_eq_some_iff.1 mi).1 (fun e => by injection e; omega)).trans mi
  have nj := (y3.block _ (Array.getElem?_eq_some_iff.1 ni).1 (fun e => by injection e; omega)).trans ni
  have B10 := B9.grown y3 B9.size (fun j e => by cases e; omega)
  clear ki mi ni oi y3 B9
  obtain ⟨a0, a1, -, -⟩ := two_cell kj
  obtain ⟨b0, b1, -, -⟩ := two_cell mj
  obtain ⟨c0, c1, -, -⟩ := two_cell nj
  obtain ⟨d0, d1, -, -⟩ := two_cell oj
  have hes := eqPairSame U V
  have hgp := guardPair
  go_wp2_with fail
  refine (lawRatio X Y X Y 6 _ (fun _ => HXZ.out) (fun _ => ⟨rfl, rfl⟩)).mono ?_
  rintro e w11 ⟨rfl, hb11⟩
  have B20 := B10.trans (hb11.mono B10.size)
  clear a0 a1 b0 b1 c0 c1 d0 d1 hb11 hes hgp kj mj nj oj
  go_wp2_with fail
  refine (lawNumber 0 0 EB _ (fun _ => rfl) (fun _ => rfl)).mono ?_
  rintro e w12 ⟨rfl, rfl⟩
  go_wp2
  go_ret
  exact ⟨rfl, B20⟩
set_option maxHeartbeats 4000000 in
set_option maxRecDepth 100000 in
theorem lawRatesBig (a b : ByteArray) (w : World) (h : ¬ (a.size ≤ 140 ∧ b.size ≤ 140)) :
    Calls Tryz.prog 4 #[.string a, .string b] w fun e w' => e = .returned (.bool true) ∧ Below w.heap.size w w' := by
  by_cases h1 : a.size ≤ 140
  · have g1 : ¬ (140 : Int) < (a.size : Int) := by omega
    have g2 : (140 : Int) < (b.size : Int) := by omega
    go_enter Tryz.func4, Tryz.ntmps4
    go_wp2_with fail
    refine (awake2 _).mono ?_
    rintro e w1 ⟨rfl, hb1⟩
    go_wp2_with fail
    refine (awake2 _).mono ?_
    rintro e w3 ⟨rfl, hb3⟩
    go_wp2
    go_ret
    exact ⟨rfl, hb1.trans (hb3.mono hb1.size)⟩
  · have g1 : (140 : Int) < (a.size : Int) := by omega
    go_enter Tryz.func4, Tryz.ntmps4
    go_wp2_with fail
    refine (awake2 _).mono ?_
    rintro e w1 ⟨rfl, hb1⟩
    go_wp2_with fail
    refine (awake2 _).mono ?_
    rintro e w3 ⟨rfl, hb3⟩
    go_wp2
    go_ret
    exact ⟨rfl, hb1.trans (hb3.mono hb1.size)⟩
theorem lawRates (a b : ByteArray) (w : World) :
    Calls Tryz.prog 4 #[.string a, .string b] w fun e w' => e = .returned (.bool true) ∧ Below w.heap.size w w' := by
  by_cases h : a.size ≤ 140 ∧ b.size ≤ 140
  · by_cases hA : wordE a.data.toList = 0
    · have ha := wordE_zero hA
      by_cases hB : wordE b.data.toList = 0
      · have hb := wordE_zero hB
        cases hra : rowsB a <;> cases hrb : rowsB b
        · exact lawRatesFF a b w ha hb hra hrb h.2
        · exact lawRatesFT a b w ha hb hra hrb h.2
        · exact lawRatesTF a b w ha hb hra hrb h.2
        · exact lawRatesTT a b w ha hb hra hrb h.2
      · cases hra : rowsB a
        · exact lawRatesFN a b _ w ha rfl hB hra h.2
        · exact lawRatesTN a b _ w ha rfl hB hra h.2
    · exact lawRatesA a b _ _ w h.1 h.2 rfl rfl hA
  · exact lawRatesBig a b w h
end Go.Proofs.YtgpgdjdababidaaGreatDoor

namespace Go.Proofs.YtgpgdjdababidaaGreatDoor
open Go.ChangeShapes Go.WideShapes Go.ChangeAt Go.WideMaps Go.WideElems Go.RowKit

set_option maxRecDepth 100000 in
theorem rates_lifted (os : Os) (started : os.Started) (H : Type) (enc : TypeId × Value → H) :
    ReturnsInHanded {} Tryz.checked os 4 .any (fun w args => (Rows.taperRatesSpec.pre enc Tryz.prog Tryz.f4 [] false w args ∧ laidMetH Tryz.prog taLaid w) ∧ sizedMet enc Tryz.prog Tryz.f4 (OpenSpec.ofChange Rows.taperRatesSpec) false w args)
      (Rows.taperRatesSpec.post enc Tryz.prog Tryz.f4 false true false false) := by
  refine returnsInHanded_of_change_and (C := Tryz.checked) (X := fun w _ => laidMetH Tryz.prog taLaid w) (fun _ _ _ hh h => h.of_heap hh) Tryz.ownT started (by kernel_rfl) Tryz.func4
    (ChangeSpec.witness_shaped (enc := enc) (C := Tryz.checked) (os := os) (X := fun w _ => laidMetH Tryz.prog taLaid w) false (World.doorLaid Tryz.prog 400 os) #[.string ByteArray.empty, .string ByteArray.empty] 8 rfl (World.shaped_of_RefB (by kernel_rfl) (by kernel_rfl)) (by kernel_rfl) (by kernel_rfl) (by kernel_rfl) (door_met os _)) ?_
  intro W base args ds gs before hval0 hW _ _ hL _
  have hval : ∀ (j : Nat) t v, Tryz.f4.params[j]? = some t → args[j]? = some v → Value.okWide Tryz.prog W .any base t v := hval0
  have hW' := hW
  obtain ⟨p, q, hA0, hV, rfl, hfz, hnd⟩ := hW
  have hA : DataW.TrodAll enc Tryz.prog W 0 (fun _ => true) true Tryz.f4.params.toList args.toList ds p := hA0
  rw [Tryz.params4] at hA hval
  obtain ⟨v0, v1, d0, d1, p0, p1, rfl, rfl, rfl, h0, h1⟩ := trodAll_two hA
  obtain ⟨rfl, rfl⟩ := trodVars_none hV
  clear hA0 hval0
  simp only [List.append_nil] at hW'
  have hlt : ∀ x ∈ p0 ++ p1, x.block < W.heap.size := fun x hx => by simpa using hW'.lt x hx
  obtain ⟨z00, rfl⟩ := open_strv (hval 0 9 v0 rfl rfl)
  obtain ⟨z10, rfl⟩ := open_strv (hval 1 9 v1 rfl rfl)
  have harg0 : ∀ (W' : World), Below W.heap.size W W' → DataW.Trod enc Tryz.prog W' 0 (fun b => decide (b < W.heap.size)) true 9 (.string z00) d0 p0 :=
    fun W' hn => Below.trod Tryz.laidOutT (by kernel_rfl) (of_decide_eq_true (by kernel_rfl)) h0 hn (fun x hx => hlt x (List.mem_append_left _ hx))
  have harg1 : ∀ (W' : World), Below W.heap.size W W' → DataW.Trod enc Tryz.prog W' 0 (fun b => decide (b < W.heap.size)) true 9 (.string z10) d1 p1 :=
    fun W' hn => Below.trod Tryz.laidOutT (by kernel_rfl) (of_decide_eq_true (by kernel_rfl)) h1 hn (fun x hx => hlt x (List.mem_append_right _ hx))
  refine (lawRates z00 z10 W).mono fun e W' ⟨he, hb⟩ => ?_
  subst he
  refine ⟨_, rfl, _, _, _, [], p0 ++ p1, [], hW', ?_, trodAll_mk2 (harg0 W' hb) (harg1 W' hb), rfl, hb.frame _, fun h => by cases h⟩
  exact trodAll_mk1 (shut_bool Tryz.underlying4 true)
theorem rates_holds : Rows.TaperRatesSaid :=
  OpenClaim.holds_of_wide 4 Tryz.f4 rfl rfl rfl rfl rfl rfl rfl ⟨rfl, rfl, rfl, rfl, rfl⟩ rfl rfl rfl rfl rfl (by kernel_rfl) Tryz.func4 (by kernel_rfl)
    (of_decide_eq_true (by kernel_rfl)) (by unfold Func.isWrapper; first | (rw [if_pos (by decide +kernel)]; kernel_rfl) | (rw [if_neg (by decide +kernel)]; exact ⟨rfl, rfl⟩))
    (fun os started H enc _ => rates_lifted os started H enc)
theorem rates_card : Rows.TaperRatesCardSaid :=
  Claim7.holds_tied_plain_at .later [] [.data, .data, .data] true (true, "b6e41887c4f920463a90685bca101cdc24d79fe0e4c7c6f96c088de150e08b9e") false
    rates_holds (fun _ h => by cases h) (by kernel_rfl) (fun _ h => by cases h) taperRates_row_tie rfl ⟨rfl, rfl⟩ (by kernel_rfl) rfl
    (fun f fn hf hfn => by
      obtain rfl : f = 4 := Option.some.inj ((show Tryz.prog.funcNamed "codend/codendlaw02.TaperRates" = some 4 by kernel_rfl).symm.trans hf) |>.symm
      obtain rfl : fn = Tryz.f4 := (Option.some.inj (Tryz.func4.symm.trans hfn)).symm
      exact ⟨by kernel_rfl, fun j t ht => by
        rw [Tryz.params4] at ht
        have hm : t ∈ [9, 9] := by simpa using Array.mem_of_getElem? ht
        have hall : ([9, 9].all fun u => !Tryz.prog.wantsStandIn u) = true := by kernel_rfl
        exact (show Tryz.prog.wantsStandIn t = false by simpa using List.all_eq_true.1 hall t hm)⟩)
    (by kernel_rfl)
#print axioms rates_card
end Go.Proofs.YtgpgdjdababidaaGreatDoor
