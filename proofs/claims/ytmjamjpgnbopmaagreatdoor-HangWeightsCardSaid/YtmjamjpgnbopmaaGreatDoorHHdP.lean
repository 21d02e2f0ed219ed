/- HangWeights returns true for every input; the table that its row lists is tied to the program's text. Conditions: none beside that. -/
import Derived.Test.YtmjamjpgnbopmaaGreatDoorH4
/- The law HangWeights. -/
namespace Go.Proofs.YtmjamjpgnbopmaaGreatDoor
open Go.RowKit

set_option maxHeartbeats 400000 in
theorem rfCheckRange (n lo hi : Int) (w : World) :
    Calls Tryz.prog 27 #[.int .i64 n, .int .i64 lo, .int .i64 hi] w fun e w' => e = .returned (.int .i64 (rngH n lo hi)) ∧ w = w' := by
  unfold rngH
  by_cases h1 : n < lo
  · go_enter Tryz.func27, Tryz.ntmps27
    go_wp2
    go_ret
    simp
  · by_cases h2 : hi < n
    all_goals
      go_enter Tryz.func27, Tryz.ntmps27
      go_wp2
      go_ret
      simp <;> omega
set_option maxHeartbeats 400000 in
theorem rfFirst (b c : Nat) (es : List Int) (w : World) (hn : es.length ≤ 100) (hc : ∀ i (h : i < es.length), w.cell? ⟨b, i, none⟩ = some (.int .i64 es[i])) :
    Calls Tryz.prog 26 #[.slice (some ⟨b, 0, none⟩) es.length c] w fun e w' => e = .returned (.int .i64 (fstE es)) ∧ w = w' := by
  have HC := Lib.hid hc
  have hn' : (es.length : Int) ≤ 100 := by omega
  clear hc
  go_enter Tryz.func26, Tryz.ntmps26
  go_wp2_with fail
  go_loop [3] (fun i => ∃ k : Nat, k ≤ es.length ∧ i = .int .i64 k ∧ fstE es = fstE (es.drop k)) (fun i => es.length - (intOf i).toNat)
  case atStart => exact ⟨0, Nat.zero_le _, rfl, rfl⟩
  case round =>
    obtain ⟨k, hk, rfl, he⟩ := hrel
    have HE := Lib.hid he
    clear he
    by_cases hlt : k < es.length
    · have hcell := HC.out k hlt
      by_cases hz : es[k] = 0
      · have HF := Lib.hid (show fstE (es.drop k) = fstE (es.drop (k + 1)) by
          rw [List.drop_eq_getElem_cons hlt]
          simp only [fstE, hz, if_true])
        rw [hz] at hcell
        clear hz
        go_wp2
        go_round
        case rel => exact ⟨k + 1, by omega, by go_num, HE.out.trans HF.out⟩
        case measure => simp [intOf]; omega
      · have HF := Lib.hid (show fstE (es.drop k) = es[k] by
          rw [List.drop_eq_getElem_cons hlt]
          simp only [fstE, if_neg hz])
        have hz1 : (es[k] != 0) = true := by rw [bne_iff_ne]; exact hz
        clear hz
        go_wp2
        go_ret
        exact ⟨ret_i (HE.out.trans HF.out).symm, rfl⟩
    · obtain rfl : k = es.length := by omega
      have HF := Lib.hid (show fstE (es.drop es.length) = 0 by rw [List.drop_length]; rfl)
      go_wp2
      go_ret
      exact ⟨ret_i (HE.out.trans HF.out).symm, rfl⟩
theorem rfFirst2 (g d : Nat) (a b : Int) (t : TypeId) (w : World) (h : w.heap[g]? = some (.cells #[.int .i64 a, .int .i64 b] t (0, 0))) :
    Calls Tryz.prog 26 #[.slice (some ⟨g, 0, none⟩) 2 d] w fun e w' => e = .returned (.int .i64 (fstE [a, b])) ∧ w = w' :=
  rfFirst g d [a, b] w (by simp) (errs2 h)
theorem rfFirst4 (g d : Nat) (a b c e' : Int) (t : TypeId) (w : World) (h : w.heap[g]? = some (.cells #[.int .i64 a, .int .i64 b, .int .i64 c, .int .i64 e'] t (0, 0))) :
    Calls Tryz.prog 26 #[.slice (some ⟨g, 0, none⟩) 4 d] w fun e w' => e = .returned (.int .i64 (fstE [a, b, c, e'])) ∧ w = w' :=
  rfFirst g d [a, b, c, e'] w (by simp) (errs4 h)
set_option maxHeartbeats 1000000 in
set_option maxRecDepth 100000 in
theorem rfCheckCounts (b k r a : Int) (w : World) :
    Calls Tryz.prog 57 #[.int .i64 b, .int .i64 k, .int .i64 r, .int .i64 a] w fun e w' => e = .returned (.int .i64 (lenE b k r a)) ∧ Below w.heap.size w w' := by
  have HE := Lib.hid (show fstE [rngH b 0 100000, rngH k 0 100000, rngH r 1 100, rngH a 0 100] = lenE b k r a from rfl)
  generalize lenE b k r a = E at HE ⊢
  go_enter Tryz.func57, Tryz.ntmps57
  go_wp2_with fail
  refine (rfCheckRange _ _ _ _).mono ?_
  rintro e w2 ⟨rfl, rfl⟩
  go_wp2_with fail
  refine (rfCheckRange _ _ _ _).mono ?_
  rintro e w2 ⟨rfl, rfl⟩
  go_wp2_with fail
  refine (rfCheckRange _ _ _ _).mono ?_
  rintro e w2 ⟨rfl, rfl⟩
  go_wp2_with fail
  refine (rfCheckRange _ _ _ _).mono ?_
  rintro e w2 ⟨rfl, rfl⟩
  go_wp2_with fail
  refine (rfFirst4 _ _ _ _ _ _ 3 _ (by exact newBlk _ _)).mono ?_
  rintro e w2 ⟨rfl, rfl⟩
  rw [HE.out]
  go_wp2
  go_ret
  exact ⟨rfl, (Below.refl _ _).alloc (Nat.le_refl _) _⟩
set_option maxHeartbeats 400000 in
theorem rfLength (b k r a : Nat) (w : World) (hb : b ≤ 100000) (hk : k ≤ 100000) (hr : r ≤ 100) (ha : a ≤ 100) :
    Calls Tryz.prog 58 #[.int .i64 b, .int .i64 k, .int .i64 r, .int .i64 a] w fun e w' => e = .returned (.int .i64 (lenN b k r a : Nat)) ∧ w = w' := by
  obtain ⟨b10, b11⟩ := mulB hb hr
  obtain ⟨b20, b21⟩ := mulB hk ha
  have HE := Lib.hid (show (b : Int) * r + (k : Int) * a = (lenN b k r a : Nat) by unfold lenN; push_cast; rfl)
  have w1 : IntKind.i64.wrap ((b : Int) * r) = (b : Int) * r := wr64 (by omega) (by omega)
  have w2 : IntKind.i64.wrap ((k : Int) * a) = (k : Int) * a := wr64 (by omega) (by omega)
  have w3 : IntKind.i64.wrap ((b : Int) * r + (k : Int) * a) = (b : Int) * r + (k : Int) * a := wr64 (by omega) (by omega)
  go_enter Tryz.func58, Tryz.ntmps58
  go_wp2
  go_ret
  exact ⟨ret_i HE.out, rfl⟩
set_option maxHeartbeats 1000000 in
theorem rfWeight (l t : Nat) (w : World) (hl : l ≤ 2000000000) (ht : t ≤ 100000) :
    Calls Tryz.prog 59 #[.int .i64 l, .int .i64 t] w fun e w' => e = .returned (.tuple #[.int .i64 (if 999999999 < weiN l t then 0 else (weiN l t : Nat)), .int .i64 (if 999999999 < weiN l t then 4 else 0)]) ∧ w = w' := by
  obtain ⟨b10, b11⟩ := mulB hl ht
  have HE := Lib.hid (show ((l : Int) * t).tdiv 1000 = (weiN l t : Nat) by rw [mulI]; exact divN _ 1000)
  have w1 : IntKind.i64.wrap ((l : Int) * t) = (l : Int) * t := wr64 (by omega) (by omega)
  have hwl : weiN l t ≤ 200000000000 := by
    have := Nat.mul_le_mul hl ht
    unfold weiN
    omega
  have HQ := HE.out
  by_cases hn : 999999999 < weiN l t
  · rw [if_pos hn, if_pos hn]
    generalize weiN l t = n at HE hwl hn HQ
    have w2 : IntKind.i64.wrap (((l : Int) * t).tdiv 1000) = ((l : Int) * t).tdiv 1000 := by rw [HE.out]; exact wr64 (by omega) (by omega)
    have hni : (999999999 : Int) < ((l : Int) * t).tdiv 1000 := by rw [HE.out]; omega
    clear hn HQ
    go_enter Tryz.func59, Tryz.ntmps59
    go_wp2
    go_ret2
    exact ⟨rfl, rfl⟩
  · rw [if_neg hn, if_neg hn]
    generalize weiN l t = n at HE hwl hn HQ ⊢
    have w2 : IntKind.i64.wrap (((l : Int) * t).tdiv 1000) = ((l : Int) * t).tdiv 1000 := by rw [HE.out]; exact wr64 (by omega) (by omega)
    have hni : ¬ (999999999 : Int) < ((l : Int) * t).tdiv 1000 := by rw [HE.out]; omega
    clear hn HQ
    go_enter Tryz.func59, Tryz.ntmps59
    go_wp2
    go_ret2
    exact ⟨by first | rfl | (rw [← HE.out]; rfl), rfl⟩
set_option maxHeartbeats 8000000 in
set_option maxRecDepth 100000 in
theorem lawWeightsW (n0 n1 n2 n3 l t X E1 Y E2 : Int) (w : World) (hT : Tab w)
    (HL : ∀ w, Calls Tryz.prog 55 #[.int .i64 n0, .int .i64 n1, .int .i64 n2, .int .i64 n3] w fun e w' => e = .returned (.tuple #[.int .i64 X, .int .i64 E1]) ∧ Below w.heap.size w w')
    (HW : ∀ w, Calls Tryz.prog 56 #[.int .i64 l, .int .i64 t] w fun e w' => e = .returned (.tuple #[.int .i64 Y, .int .i64 E2]) ∧ Below w.heap.size w w')
    (HC : ∀ w, Calls Tryz.prog 57 #[.int .i64 n0, .int .i64 n1, .int .i64 n2, .int .i64 n3] w fun e w' => e = .returned (.int .i64 E1) ∧ Below w.heap.size w w')
    (h1 : E1 = 0 → ∀ w, Calls Tryz.prog 58 #[.int .i64 n0, .int .i64 n1, .int .i64 n2, .int .i64 n3] w fun e w' => e = .returned (.int .i64 X) ∧ w = w') (h1' : E1 ≠ 0 → X = 0)
    (h2 : weiE0 l t = 0 → ∀ w, Calls Tryz.prog 59 #[.int .i64 l, .int .i64 t] w fun e w' => e = .returned (.tuple #[.int .i64 Y, .int .i64 E2]) ∧ w = w') (h2' : weiE0 l t ≠ 0 → Y = 0 ∧ E2 = weiE0 l t) :
    Calls Tryz.prog 8 #[.agg #[.int .i64 n0, .int .i64 n1, .int .i64 n2, .int .i64 n3], .int .i64 l, .int .i64 t] w fun e w' => e = .returned (.bool true) ∧ Below w.heap.size w w' := by
  obtain ⟨w1, hw1, k1, B, hz1⟩ := boxS w (.cells #[.int .i64 n0, .int .i64 n1, .int .i64 n2, .int .i64 n3] 88)
  obtain ⟨a0, a1, a2, a3, -, -, -, -⟩ := cel4 k1
  have HF := Lib.hid (show fstE [rngH l 0 999999999, rngH t 1 100000] = weiE0 l t from rfl)
  by_cases g1 : E1 = 0 <;> by_cases g2 : weiE0 l t = 0
  · have HRL := h1 g1
    have HRW := h2 g2
    subst g1
    rw [g2] at HF
    clear h1 h2 h1' h2' g2
    go_enter Tryz.func8, Tryz.ntmps8
    go_wp2_with fail
    refine (HL _).mono ?_
    rintro e w2 ⟨rfl, hb⟩
    replace B := B.trans (hb.mono B.size)
    obtain ⟨c0, c1, c2, c3, -, -, -, -⟩ := cel4 (blkT k1 hb)
    have k2 := blkT k1 hb
    clear hb
    go_wp2_with fail
    refine (HW _).mono ?_
    rintro e w3 ⟨rfl, hb⟩
    replace B := B.trans (hb.mono B.size)
    replace k2 := blkT k2 hb
    obtain ⟨d0, d1, d2, d3, -, -, -, -⟩ := cel4 k2
    clear hb c0 c1 c2 c3
    go_wp2_with fail
    refine (HC _).mono ?_
    rintro e w4 ⟨rfl, hb⟩
    replace B := B.trans (hb.mono B.size)
    replace k2 := blkT k2 hb
    clear hb d0 d1 d2 d3
    go_wp2_with fail
    refine (rfCheckRange _ _ _ _).mono ?_
    rintro e w5 ⟨rfl, rfl⟩
    go_wp2_with fail
    refine (rfCheckRange _ _ _ _).mono ?_
    rintro e w5 ⟨rfl, rfl⟩
    obtain ⟨w5, hw5, k5, hb, hz⟩ := boxS w4 (.cells #[.int .i64 (rngH l 0 999999999), .int .i64 (rngH t 1 100000)] 3)
    replace B := B.trans (hb.mono B.size)
    replace k2 := blkT k2 hb
    obtain ⟨d0, d1, d2, d3, -, -, -, -⟩ := cel4 k2
    clear hb hz
    go_wp2_with fail
    refine (rfFirst2 _ _ _ _ 3 _ k5).mono ?_
    rintro e w6 ⟨rfl, rfl⟩
    rw [HF.out]
    clear k5
    go_wp2_with fail
    refine (HRL _).mono ?_
    rintro e w6 ⟨rfl, rfl⟩
    go_wp2_with fail
    refine (HRW _).mono ?_
    rintro e w6 ⟨rfl, rfl⟩
    go_wp2_with fail
    refine (awake6 _ (hT.below B)).mono ?_
    rintro e w7 ⟨rfl, hb⟩
    replace B := B.trans (hb.mono B.size)
    go_wp2
    go_ret
    exact ⟨rfl, B⟩
  · have HRL := h1 g1
    obtain ⟨rfl, rfl⟩ := h2' g2
    subst g1
    generalize weiE0 l t = E at HF HW g2
    have hne := nzH g2
    clear h1 h2 h1' h2' g2
    go_enter Tryz.func8, Tryz.ntmps8
    go_wp2_with fail
    refine (HL _).mono ?_
    rintro e w2 ⟨rfl, hb⟩
    replace B := B.trans (hb.mono B.size)
    obtain ⟨c0, c1, c2, c3, -, -, -, -⟩ := cel4 (blkT k1 hb)
    have k2 := blkT k1 hb
    clear hb
    go_wp2_with fail
    refine (HW _).mono ?_
    rintro e w3 ⟨rfl, hb⟩
    replace B := B.trans (hb.mono B.size)
    replace k2 := blkT k2 hb
    obtain ⟨d0, d1, d2, d3, -, -, -, -⟩ := cel4 k2
    clear hb c0 c1 c2 c3
    go_wp2_with fail
    refine (HC _).mono ?_
    rintro e w4 ⟨rfl, hb⟩
    replace B := B.trans (hb.mono B.size)
    replace k2 := blkT k2 hb
    clear hb d0 d1 d2 d3
    go_wp2_with fail
    refine (rfCheckRange _ _ _ _).mono ?_
    rintro e w5 ⟨rfl, rfl⟩
    go_wp2_with fail
    refine (rfCheckRange _ _ _ _).mono ?_
    rintro e w5 ⟨rfl, rfl⟩
    obtain ⟨w5, hw5, k5, hb, hz⟩ := boxS w4 (.cells #[.int .i64 (rngH l 0 999999999), .int .i64 (rngH t 1 100000)] 3)
    replace B := B.trans (hb.mono B.size)
    replace k2 := blkT k2 hb
    obtain ⟨d0, d1, d2, d3, -, -, -, -⟩ := cel4 k2
    clear hb hz
    go_wp2_with fail
    refine (rfFirst2 _ _ _ _ 3 _ k5).mono ?_
    rintro e w6 ⟨rfl, rfl⟩
    rw [HF.out]
    clear k5
    go_wp2_with fail
    refine (HRL _).mono ?_
    rintro e w6 ⟨rfl, rfl⟩
    go_wp2_with fail
    refine (awake6 _ (hT.below B)).mono ?_
    rintro e w7 ⟨rfl, hb⟩
    replace B := B.trans (hb.mono B.size)
    go_wp2
    go_ret
    exact ⟨rfl, B⟩
  · have HRW := h2 g2
    obtain rfl := h1' g1
    have hne := nzH g1
    rw [g2] at HF
    clear h1 h2 h1' h2' g1 g2
    go_enter Tryz.func8, Tryz.ntmps8
    go_wp2_with fail
    refine (HL _).mono ?_
    rintro e w2 ⟨rfl, hb⟩
    replace B := B.trans (hb.mono B.size)
    obtain ⟨c0, c1, c2, c3, -, -, -, -⟩ := cel4 (blkT k1 hb)
    have k2 := blkT k1 hb
    clear hb
    go_wp2_with fail
    refine (HW _).mono ?_
    rintro e w3 ⟨rfl, hb⟩
    replace B := B.trans (hb.mono B.size)
    replace k2 := blkT k2 hb
    obtain ⟨d0, d1, d2, d3, -, -, -, -⟩ := cel4 k2
    clear hb c0 c1 c2 c3
    go_wp2_with fail
    refine (HC _).mono ?_
    rintro e w4 ⟨rfl, hb⟩
    replace B := B.trans (hb.mono B.size)
    replace k2 := blkT k2 hb
    clear hb d0 d1 d2 d3
    go_wp2_with fail
    refine (rfCheckRange _ _ _ _).mono ?_
    rintro e w5 ⟨rfl, rfl⟩
    go_wp2_with fail
    refine (rfCheckRange _ _ _ _).mono ?_
    rintro e w5 ⟨rfl, rfl⟩
    obtain ⟨w5, hw5, k5, hb, hz⟩ := boxS w4 (.cells #[.int .i64 (rngH l 0 999999999), .int .i64 (rngH t 1 100000)] 3)
    replace B := B.trans (hb.mono B.size)
    replace k2 := blkT k2 hb
    obtain ⟨d0, d1, d2, d3, -, -, -, -⟩ := cel4 k2
    clear hb hz
    go_wp2_with fail
    refine (rfFirst2 _ _ _ _ 3 _ k5).mono ?_
    rintro e w6 ⟨rfl, rfl⟩
    rw [HF.out]
    clear k5
    go_wp2_with fail
    refine (HRW _).mono ?_
    rintro e w6 ⟨rfl, rfl⟩
    go_wp2_with fail
    refine (awake6 _ (hT.below B)).mono ?_
    rintro e w7 ⟨rfl, hb⟩
    replace B := B.trans (hb.mono B.size)
    go_wp2
    go_ret
    exact ⟨rfl, B⟩
  · obtain rfl := h1' g1
    obtain ⟨rfl, rfl⟩ := h2' g2
    have hne := nzH g1
    generalize weiE0 l t = E at HF HW g2
    have hne2 := nzH g2
    clear h1 h2 h1' h2' g1 g2
    go_enter Tryz.func8, Tryz.ntmps8
    go_wp2_with fail
    refine (HL _).mono ?_
    rintro e w2 ⟨rfl, hb⟩
    replace B := B.trans (hb.mono B.size)
    obtain ⟨c0, c1, c2, c3, -, -, -, -⟩ := cel4 (blkT k1 hb)
    have k2 := blkT k1 hb
    clear hb
    go_wp2_with fail
    refine (HW _).mono ?_
    rintro e w3 ⟨rfl, hb⟩
    replace B := B.trans (hb.mono B.size)
    replace k2 := blkT k2 hb
    obtain ⟨d0, d1, d2, d3, -, -, -, -⟩ := cel4 k2
    clear hb c0 c1 c2 c3
    go_wp2_with fail
    refine (HC _).mono ?_
    rintro e w4 ⟨rfl, hb⟩
    replace B := B.trans (hb.mono B.size)
    replace k2 := blkT k2 hb
    clear hb d0 d1 d2 d3
    go_wp2_with fail
    refine (rfCheckRange _ _ _ _).mono ?_
    rintro e w5 ⟨rfl, rfl⟩
    go_wp2_with fail
    refine (rfCheckRange _ _ _ _).mono ?_
    rintro e w5 ⟨rfl, rfl⟩
    obtain ⟨w5, hw5, k5, hb, hz⟩ := boxS w4 (.cells #[.int .i64 (rngH l 0 999999999), .int .i64 (rngH t 1 100000)] 3)
    replace B := B.trans (hb.mono B.size)
    replace k2 := blkT k2 hb
    obtain ⟨d0, d1, d2, d3, -, -, -, -⟩ := cel4 k2
    clear hb hz
    go_wp2_with fail
    refine (rfFirst2 _ _ _ _ 3 _ k5).mono ?_
    rintro e w6 ⟨rfl, rfl⟩
    rw [HF.out]
    clear k5
    go_wp2_with fail
    refine (awake6 _ (hT.below B)).mono ?_
    rintro e w7 ⟨rfl, hb⟩
    replace B := B.trans (hb.mono B.size)
    go_wp2
    go_ret
    exact ⟨rfl, B⟩
theorem lawHangWeights (n0 n1 n2 n3 l t : Int) (w : World) (hT : Tab w) :
    Calls Tryz.prog 8 #[.agg #[.int .i64 n0, .int .i64 n1, .int .i64 n2, .int .i64 n3], .int .i64 l, .int .i64 t] w fun e w' => e = .returned (.bool true) ∧ Below w.heap.size w w' := by
  refine lawWeightsW n0 n1 n2 n3 l t _ _ _ _ w hT (fun w => hgLength n0 n1 n2 n3 w) (fun w => hgWeight l t w) (fun w => rfCheckCounts n0 n1 n2 n3 w) ?_ (fun h => ozE h _) ?_ (fun h => ?_)
  · intro h w
    obtain ⟨r1, r2, r3, r4⟩ := fst4_zero h
    have g1 := rngH_zero r1
    have g2 := rngH_zero r2
    have g3 := rngH_zero r3
    have g4 := rngH_zero r4
    rw [h, oz0]
    obtain ⟨b, rfl⟩ : ∃ x : Nat, n0 = (x : Int) := ⟨n0.toNat, by omega⟩
    obtain ⟨k, rfl⟩ : ∃ x : Nat, n1 = (x : Int) := ⟨n1.toNat, by omega⟩
    obtain ⟨r, rfl⟩ : ∃ x : Nat, n2 = (x : Int) := ⟨n2.toNat, by omega⟩
    obtain ⟨a, rfl⟩ : ∃ x : Nat, n3 = (x : Int) := ⟨n3.toNat, by omega⟩
    simp only [Int.toNat_natCast]
    exact rfLength b k r a w (by omega) (by omega) (by omega) (by omega)
  · intro h w
    obtain ⟨r1, r2⟩ := fst2_zero h
    have g1 := rngH_zero r1
    have g2 := rngH_zero r2
    obtain ⟨L, rfl⟩ : ∃ x : Nat, l = (x : Int) := ⟨l.toNat, by omega⟩
    obtain ⟨T, rfl⟩ : ∃ x : Nat, t = (x : Int) := ⟨t.toNat, by omega⟩
    have hW := rfWeight L T w (by omega) (by omega)
    have e : weiE (L : Int) (T : Int) = if 999999999 < weiN L T then 4 else 0 := by rw [weiE, if_pos h, Int.toNat_natCast, Int.toNat_natCast]
    rw [e, Int.toNat_natCast, Int.toNat_natCast]
    by_cases hn : 999999999 < weiN L T
    · rw [if_pos hn] at hW ⊢
      rw [if_pos hn] at hW
      rw [ozE (by decide)]
      exact hW
    · rw [if_neg hn] at hW ⊢
      rw [if_neg hn] at hW
      rw [oz0]
      exact hW
  · have e : weiE l t = weiE0 l t := by rw [weiE, if_neg h]
    rw [e]
    exact ⟨ozE h _, rfl⟩
end Go.Proofs.YtmjamjpgnbopmaaGreatDoor

namespace Go.Proofs.YtmjamjpgnbopmaaGreatDoor
open Go.ChangeShapes Go.WideShapes Go.ChangeAt Go.WideMaps Go.WideElems Go.RowKit

set_option maxRecDepth 100000 in
theorem weights_lifted (os : Os) (started : os.Started) (H : Type) (enc : TypeId × Value → H) :
    ReturnsInHanded {} Tryz.checked os 8 .any (fun w args => (Rows.hangWeightsSpec.pre enc Tryz.prog Tryz.f8 [] false w args ∧ laidMetH Tryz.prog haLaid w) ∧ sizedMet enc Tryz.prog Tryz.f8 (OpenSpec.ofChange Rows.hangWeightsSpec) false w args)
      (Rows.hangWeightsSpec.post enc Tryz.prog Tryz.f8 false true false false) := by
  refine returnsInHanded_of_change_and (C := Tryz.checked) (X := fun w _ => laidMetH Tryz.prog haLaid w) (fun _ _ _ hh h => h.of_heap hh) Tryz.ownT started (by kernel_rfl) Tryz.func8
    (ChangeSpec.witness_shaped (enc := enc) (C := Tryz.checked) (os := os) (X := fun w _ => laidMetH Tryz.prog haLaid w) false (World.laidAll Tryz.prog os haLaid) #[.agg #[.int .i64 0, .int .i64 0, .int .i64 0, .int .i64 0], .int .i64 0, .int .i64 0] 8 (World.laidAll_os _ _ _) (World.shaped_of_ZipB (by kernel_rfl) (by kernel_rfl)) (by kernel_rfl) (by kernel_rfl) (by kernel_rfl) (door_met os _)) ?_
  intro W base args ds gs before hval0 hW _ _ hL _
  have hval : ∀ (j : Nat) t v, Tryz.f8.params[j]? = some t → args[j]? = some v → Value.okWide Tryz.prog W .any base t v := hval0
  have hW' := hW
  obtain ⟨p, q, hA0, hV, rfl, hfz, hnd⟩ := hW
  have hA : DataW.TrodAll enc Tryz.prog W 0 (fun _ => true) true Tryz.f8.params.toList args.toList ds p := hA0
  rw [Tryz.params8] at hA hval
  obtain ⟨v0, v1, v2, d0, d1, d2, p0, p1, p2, rfl, rfl, rfl, h0, h1, h2⟩ := trodAll_three hA
  obtain ⟨rfl, rfl⟩ := trodVars_none hV
  clear hA0 hval0
  simp only [List.append_nil] at hW'
  have hlt : ∀ x ∈ p0 ++ p1 ++ p2, x.block < W.heap.size := fun x hx => by simpa using hW'.lt x hx
  obtain ⟨z00, z01, z02, z03, rfl⟩ := open_arr4 (hval 0 88 v0 rfl rfl)
  obtain ⟨z10, rfl⟩ := open_intv (hval 1 3 v1 rfl rfl)
  obtain ⟨z20, rfl⟩ := open_intv (hval 2 3 v2 rfl rfl)
  have harg0 : ∀ (W' : World), Below W.heap.size W W' → DataW.Trod enc Tryz.prog W' 0 (fun b => decide (b < W.heap.size)) true 88 (.agg #[.int .i64 z00, .int .i64 z01, .int .i64 z02, .int .i64 z03]) d0 p0 :=
    fun W' hn => Below.trod Tryz.laidOutT (by kernel_rfl) (of_decide_eq_true (by kernel_rfl)) h0 hn (fun x hx => hlt x (List.mem_append_left _ (List.mem_append_left _ hx)))
  have harg1 : ∀ (W' : World), Below W.heap.size W W' → DataW.Trod enc Tryz.prog W' 0 (fun b => decide (b < W.heap.size)) true 3 (.int .i64 z10) d1 p1 :=
    fun W' hn => Below.trod Tryz.laidOutT (by kernel_rfl) (of_decide_eq_true (by kernel_rfl)) h1 hn (fun x hx => hlt x (List.mem_append_left _ (List.mem_append_right _ hx)))
  have harg2 : ∀ (W' : World), Below W.heap.size W W' → DataW.Trod enc Tryz.prog W' 0 (fun b => decide (b < W.heap.size)) true 3 (.int .i64 z20) d2 p2 :=
    fun W' hn => Below.trod Tryz.laidOutT (by kernel_rfl) (of_decide_eq_true (by kernel_rfl)) h2 hn (fun x hx => hlt x (List.mem_append_right _ hx))
  refine (lawHangWeights z00 z01 z02 z03 z10 z20 W (tab_met hL)).mono fun e W' ⟨he, hb⟩ => ?_
  subst he
  refine ⟨_, rfl, _, _, _, [], p0 ++ p1 ++ p2, [], hW', ?_, by rw [List.append_assoc]; exact trodAll_mk3 (harg0 W' hb) (harg1 W' hb) (harg2 W' hb), rfl, hb.frame _, fun h => by cases h⟩
  exact trodAll_mk1 (shut_bool Tryz.underlying4 true)
set_option maxHeartbeats 8000000 in
theorem weights_joined : joinedFacts Tryz.prog 8 Tryz.f8 Rows.hangWeightsSpec Rows.hangWeightsRow = true := by
  unfold joinedFacts
  simp only [Bool.and_eq_true]
  and_intros
  all_goals (as_aux_lemma => kernel_rfl)
theorem weights_holds : Rows.HangWeightsSaid :=
  OpenClaim.holds_of_wide 8 Tryz.f8 rfl rfl rfl rfl rfl rfl rfl ⟨rfl, rfl, rfl, rfl, rfl⟩ rfl rfl rfl rfl rfl (by kernel_rfl) Tryz.func8 weights_joined
    (of_decide_eq_true (by kernel_rfl)) (by unfold Func.isWrapper; first | (rw [if_pos (by decide +kernel)]; kernel_rfl) | (rw [if_neg (by decide +kernel)]; exact ⟨rfl, rfl⟩))
    (fun os started H enc _ => weights_lifted os started H enc)
theorem weights_card : Rows.HangWeightsCardSaid :=
  Claim7.holds_tied_plain_at .later [] [.data] true (true, "bb9c8a1f3b87a99a73053614bf73ec5a74d01f458fba8a9eee33de806b476934") false
    weights_holds (fun _ h => by cases h) (by kernel_rfl) (fun _ h => by cases h) hangWeights_row_tie rfl ⟨rfl, rfl⟩ (by kernel_rfl) rfl
    (fun f fn hf hfn => by
      obtain rfl : f = 8 := Option.some.inj ((show Tryz.prog.funcNamed "codend/codendlaw06.HangWeights" = some 8 by kernel_rfl).symm.trans hf) |>.symm
      obtain rfl : fn = Tryz.f8 := (Option.some.inj (Tryz.func8.symm.trans hfn)).symm
      exact ⟨by kernel_rfl, fun j t ht => by
        rw [Tryz.params8] at ht
        have hm : t ∈ [88, 3, 3] := by simpa using Array.mem_of_getElem? ht
        have hall : ([88, 3, 3].all fun u => !Tryz.prog.wantsStandIn u) = true := by kernel_rfl
        exact (show Tryz.prog.wantsStandIn t = false by simpa using List.all_eq_true.1 hall t hm)⟩)
    (by kernel_rfl)
#print axioms weights_card
end Go.Proofs.YtmjamjpgnbopmaaGreatDoor
