/- HangSizes returns true for every netting; the table that its row lists is tied to the program's text. Conditions: none beside that. -/
import Derived.Test.YtmjamjpgnbopmaaGreatDoorH4
/- The law HangWeights. -/
namespace Go.Proofs.YtmjamjpgnbopmaaGreatDoor
open Go.RowKit

set_option maxHeartbeats 400000 in
theorem rfCheckRange (n lo hi : Int) (w : World) :
    Calls Tryz.prog 27 #[.int .i64 n, .int .i64 lo, .int .i64 hi] w fun e w' => e = .returned (.int .i64 (rngH n lo hi)) ∧ w = w' := by
  unfold rngH
  by_cases h1 : n < lo
  · go_enter Tryz.func27, Tryz.ntmps27
    go_wp2
    go_ret
    simp
  · by_cases h2 : hi < n
    all_goals
      go_enter Tryz.func27, Tryz.ntmps27
      go_wp2
      go_ret
      simp <;> omega
set_option maxHeartbeats 400000 in
theorem rfFirst (b c : Nat) (es : List Int) (w : World) (hn : es.length ≤ 100) (hc : ∀ i (h : i < es.length), w.cell? ⟨b, i, none⟩ = some (.int .i64 es[i])) :
    Calls Tryz.prog 26 #[.slice (some ⟨b, 0, none⟩) es.length c] w fun e w' => e = .returned (.int .i64 (fstE es)) ∧ w = w' := by
  have HC := Lib.hid hc
  have hn' : (es.length : Int) ≤ 100 := by omega
  clear hc
  go_enter Tryz.func26, Tryz.ntmps26
  go_wp2_with fail
  go_loop [3] (fun i => ∃ k : Nat, k ≤ es.length ∧ i = .int .i64 k ∧ fstE es = fstE (es.drop k)) (fun i => es.length - (intOf i).toNat)
  case atStart => exact ⟨0, Nat.zero_le _, rfl, rfl⟩
  case round =>
    obtain ⟨k, hk, rfl, he⟩ := hrel
    have HE := Lib.hid he
    clear he
    by_cases hlt : k < es.length
    · have hcell := HC.out k hlt
      by_cases hz : es[k] = 0
      · have HF := Lib.hid (show fstE (es.drop k) = fstE (es.drop (k + 1)) by
          rw [List.drop_eq_getElem_cons hlt]
          simp only [fstE, hz, if_true])
        rw [hz] at hcell
        clear hz
        go_wp2
        go_round
        case rel => exact ⟨k + 1, by omega, by go_num, HE.out.trans HF.out⟩
        case measure => simp [intOf]; omega
      · have HF := Lib.hid (show fstE (es.drop k) = es[k] by
          rw [List.drop_eq_getElem_cons hlt]
          simp only [fstE, if_neg hz])
        have hz1 : (es[k] != 0) = true := by rw [bne_iff_ne]; exact hz
        clear hz
        go_wp2
        go_ret
        exact ⟨ret_i (HE.out.trans HF.out).symm, rfl⟩
    · obtain rfl : k = es.length := by omega
      have HF := Lib.hid (show fstE (es.drop es.length) = 0 by rw [List.drop_length]; rfl)
      go_wp2
      go_ret
      exact ⟨ret_i (HE.out.trans HF.out).symm, rfl⟩
theorem rfFirst2 (g d : Nat) (a b : Int) (t : TypeId) (w : World) (h : w.heap[g]? = some (.cells #[.int .i64 a, .int .i64 b] t (0, 0))) :
    Calls Tryz.prog 26 #[.slice (some ⟨g, 0, none⟩) 2 d] w fun e w' => e = .returned (.int .i64 (fstE [a, b])) ∧ w = w' :=
  rfFirst g d [a, b] w (by simp) (errs2 h)
theorem rfFirst4 (g d : Nat) (a b c e' : Int) (t : TypeId) (w : World) (h : w.heap[g]? = some (.cells #[.int .i64 a, .int .i64 b, .int .i64 c, .int .i64 e'] t (0, 0))) :
    Calls Tryz.prog 26 #[.slice (some ⟨g, 0, none⟩) 4 d] w fun e w' => e = .returned (.int .i64 (fstE [a, b, c, e'])) ∧ w = w' :=
  rfFirst g d [a, b, c, e'] w (by simp) (errs4 h)
set_option maxHeartbeats 1000000 in
set_option maxRecDepth 100000 in
theorem rfCheckCounts (b k r a : Int) (w : World) :
    Calls Tryz.prog 57 #[.int .i64 b, .int .i64 k, .int .i64 r, .int .i64 a] w fun e w' => e = .returned (.int .i64 (lenE b k r a)) ∧ Below w.heap.size w w' := by
  have HE := Lib.hid (show fstE [rngH b 0 100000, rngH k 0 100000, rngH r 1 100, rngH a 0 100] = lenE b k r a from rfl)
  generalize lenE b k r a = E at HE ⊢
  go_enter Tryz.func57, Tryz.ntmps57
  go_wp2_with fail
  refine (rfCheckRange _ _ _ _).mono ?_
  rintro e w2 ⟨rfl, rfl⟩
  go_wp2_with fail
  refine (rfCheckRange _ _ _ _).mono ?_
  rintro e w2 ⟨rfl, rfl⟩
  go_wp2_with fail
  refine (rfCheckRange _ _ _ _).mono ?_
  rintro e w2 ⟨rfl, rfl⟩
  go_wp2_with fail
  refine (rfCheckRange _ _ _ _).mono ?_
  rintro e w2 ⟨rfl, rfl⟩
  go_wp2_with fail
  refine (rfFirst4 _ _ _ _ _ _ 3 _ (by exact newBlk _ _)).mono ?_
  rintro e w2 ⟨rfl, rfl⟩
  rw [HE.out]
  go_wp2
  go_ret
  exact ⟨rfl, (Below.refl _ _).alloc (Nat.le_refl _) _⟩
set_option maxHeartbeats 400000 in
theorem rfLength (b k r a : Nat) (w : World) (hb : b ≤ 100000) (hk : k ≤ 100000) (hr : r ≤ 100) (ha : a ≤ 100) :
    Calls Tryz.prog 58 #[.int .i64 b, .int .i64 k, .int .i64 r, .int .i64 a] w fun e w' => e = .returned (.int .i64 (lenN b k r a : Nat)) ∧ w = w' := by
  obtain ⟨b10, b11⟩ := mulB hb hr
  obtain ⟨b20, b21⟩ := mulB hk ha
  have HE := Lib.hid (show (b : Int) * r + (k : Int) * a = (lenN b k r a : Nat) by unfold lenN; push_cast; rfl)
  have w1 : IntKind.i64.wrap ((b : Int) * r) = (b : Int) * r := wr64 (by omega) (by omega)
  have w2 : IntKind.i64.wrap ((k : Int) * a) = (k : Int) * a := wr64 (by omega) (by omega)
  have w3 : IntKind.i64.wrap ((b : Int) * r + (k : Int) * a) = (b : Int) * r + (k : Int) * a := wr64 (by omega) (by omega)
  go_enter Tryz.func58, Tryz.ntmps58
  go_wp2
  go_ret
  exact ⟨ret_i HE.out, rfl⟩
set_option maxHeartbeats 1000000 in
theorem rfWeight (l t : Nat) (w : World) (hl : l ≤ 2000000000) (ht : t ≤ 100000) :
    Calls Tryz.prog 59 #[.int .i64 l, .int .i64 t] w fun e w' => e = .returned (.tuple #[.int .i64 (if 999999999 < weiN l t then 0 else (weiN l t : Nat)), .int .i64 (if 999999999 < weiN l t then 4 else 0)]) ∧ w = w' := by
  obtain ⟨b10, b11⟩ := mulB hl ht
  have HE := Lib.hid (show ((l : Int) * t).tdiv 1000 = (weiN l t : Nat) by rw [mulI]; exact divN _ 1000)
  have w1 : IntKind.i64.wrap ((l : Int) * t) = (l : Int) * t := wr64 (by omega) (by omega)
  have hwl : weiN l t ≤ 200000000000 := by
    have := Nat.mul_le_mul hl ht
    unfold weiN
    omega
  have HQ := HE.out
  by_cases hn : 999999999 < weiN l t
  · rw [if_pos hn, if_pos hn]
    generalize weiN l t = n at HE hwl hn HQ
    have w2 : IntKind.i64.wrap (((l : Int) * t).tdiv 1000) = ((l : Int) * t).tdiv 1000 := by rw [HE.out]; exact wr64 (by omega) (by omega)
    have hni : (999999999 : Int) < ((l : Int) * t).tdiv 1000 := by rw [HE.out]; omega
    clear hn HQ
    go_enter Tryz.func59, Tryz.ntmps59
    go_wp2
    go_ret2
    exact ⟨rfl, rfl⟩
  · rw [if_neg hn, if_neg hn]
    generalize weiN l t = n at HE hwl hn HQ ⊢
    have w2 : IntKind.i64.wrap (((l : Int) * t).tdiv 1000) = ((l : Int) * t).tdiv 1000 := by rw [HE.out]; exact wr64 (by omega) (by omega)
    have hni : ¬ (999999999 : Int) < ((l : Int) * t).tdiv 1000 := by rw [HE.out]; omega
    clear hn HQ
    go_enter Tryz.func59, Tryz.ntmps59
    go_wp2
    go_ret2
    exact ⟨by first | rfl | (rw [← HE.out]; rfl), rfl⟩
set_option maxHeartbeats 8000000 in
set_option maxRecDepth 100000 in
theorem lawWeightsW (n0 n1 n2 n3 l t X E1 Y E2 : Int) (w : World) (hT : Tab w)
    (HL : ∀ w, Calls Tryz.prog 55 #[.int .i64 n0, .int .i64 n1, .int .i64 n2, .int .i64 n3] w fun e w' => e = .returned (.tuple #[.int .i64 X, .int .i64 E1]) ∧ Below w.heap.size w w')
    (HW : ∀ w, Calls Tryz.prog 56 #[.int .i64 l, .int .i64 t] w fun e w' => e = .returned (.tuple #[.int .i64 Y, .int .i64 E2]) ∧ Below w.heap.size w w')
    (HC : ∀ w, Calls Tryz.prog 57 #[.int .i64 n0, .int .i64 n1, .int .i64 n2, .int .i64 n3] w fun e w' => e = .returned (.int .i64 E1) ∧ Below w.heap.size w w')
    (h1 : E1 = 0 → ∀ w, Calls Tryz.prog 58 #[.int .i64 n0, .int .i64 n1, .int .i64 n2, .int .i64 n3] w fun e w' => e = .returned (.int .i64 X) ∧ w = w') (h1' : E1 ≠ 0 → X = 0)
    (h2 : weiE0 l t = 0 → ∀ w, Calls Tryz.prog 59 #[.int .i64 l, .int .i64 t] w fun e w' => e = .returned (.tuple #[.int .i64 Y, .int .i64 E2]) ∧ w = w') (h2' : weiE0 l t ≠ 0 → Y = 0 ∧ E2 = weiE0 l t) :
    Calls Tryz.prog 8 #[.agg #[.int .i64 n0, .int .i64 n1, .int .i64 n2, .int .i64 n3], .int .i64 l, .int .i64 t] w fun e w' => e = .returned (.bool true) ∧ Below w.heap.size w w' := by
  obtain ⟨w1, hw1, k1, B, hz1⟩ := boxS w (.cells #[.int .i64 n0, .int .i64 n1, .int .i64 n2, .int .i64 n3] 88)
  obtain ⟨a0, a1, a2, a3, -, -, -, -⟩ := cel4 k1
  have HF := Lib.hid (show fstE [rngH l 0 999999999, rngH t 1 100000] = weiE0 l t from rfl)
  by_cases g1 : E1 = 0 <;> by_cases g2 : weiE0 l t = 0
  · have HRL := h1 g1
    have HRW := h2 g2
    subst g1
    rw [g2] at HF
    clear h1 h2 h1' h2' g2
    go_enter Tryz.func8, Tryz.ntmps8
    go_wp2_with fail
    refine (HL _).mono ?_
    rintro e w2 ⟨rfl, hb⟩
    replace B := B.trans (hb.mono B.size)
    obtain ⟨c0, c1, c2, c3, -, -, -, -⟩ := cel4 (blkT k1 hb)
    have k2 := blkT k1 hb
    clear hb
    go_wp2_with fail
    refine (HW _).mono ?_
    rintro e w3 ⟨rfl, hb⟩
    replace B := B.trans (hb.mono B.size)
    replace k2 := blkT k2 hb
    obtain ⟨d0, d1, d2, d3, -, -, -, -⟩ := cel4 k2
    clear hb c0 c1 c2 c3
    go_wp2_with fail
    refine (HC _).mono ?_
    rintro e w4 ⟨rfl, hb⟩
    replace B := B.trans (hb.mono B.size)
    replace k2 := blkT k2 hb
    clear hb d0 d1 d2 d3
    go_wp2_with fail
    refine (rfCheckRange _ _ _ _).mono ?_
    rintro e w5 ⟨rfl, rfl⟩
    go_wp2_with fail
    refine (rfCheckRange _ _ _ _).mono ?_
    rintro e w5 ⟨rfl, rfl⟩
    obtain ⟨w5, hw5, k5, hb, hz⟩ := boxS w4 (.cells #[.int .i64 (rngH l 0 999999999), .int .i64 (rngH t 1 100000)] 3)
    replace B := B.trans (hb.mono B.size)
    replace k2 := blkT k2 hb
    obtain ⟨d0, d1, d2, d3, -, -, -, -⟩ := cel4 k2
    clear hb hz
    go_wp2_with fail
    refine (rfFirst2 _ _ _ _ 3 _ k5).mono ?_
    rintro e w6 ⟨rfl, rfl⟩
    rw [HF.out]
    clear k5
    go_wp2_with fail
    refine (HRL _).mono ?_
    rintro e w6 ⟨rfl, rfl⟩
    go_wp2_with fail
    refine (HRW _).mono ?_
    rintro e w6 ⟨rfl, rfl⟩
    go_wp2_with fail
    refine (awake6 _ (hT.below B)).mono ?_
    rintro e w7 ⟨rfl, hb⟩
    replace B := B.trans (hb.mono B.size)
    go_wp2
    go_ret
    exact ⟨rfl, B⟩
  · have HRL := h1 g1
    obtain ⟨rfl, rfl⟩ := h2' g2
    subst g1
    generalize weiE0 l t = E at HF HW g2
    have hne := nzH g2
    clear h1 h2 h1' h2' g2
    go_enter Tryz.func8, Tryz.ntmps8
    go_wp2_with fail
    refine (HL _).mono ?_
    rintro e w2 ⟨rfl, hb⟩
    replace B := B.trans (hb.mono B.size)
    obtain ⟨c0, c1, c2, c3, -, -, -, -⟩ := cel4 (blkT k1 hb)
    have k2 := blkT k1 hb
    clear hb
    go_wp2_with fail
    refine (HW _).mono ?_
    rintro e w3 ⟨rfl, hb⟩
    replace B := B.trans (hb.mono B.size)
    replace k2 := blkT k2 hb
    obtain ⟨d0, d1, d2, d3, -, -, -, -⟩ := cel4 k2
    clear hb c0 c1 c2 c3
    go_wp2_with fail
    refine (HC _).mono ?_
    rintro e w4 ⟨rfl, hb⟩
    replace B := B.trans (hb.mono B.size)
    replace k2 := blkT k2 hb
    clear hb d0 d1 d2 d3
    go_wp2_with fail
    refine (rfCheckRange _ _ _ _).mono ?_
    rintro e w5 ⟨rfl, rfl⟩
    go_wp2_with fail
    refine (rfCheckRange _ _ _ _).mono ?_
    rintro e w5 ⟨rfl, rfl⟩
    obtain ⟨w5, hw5, k5, hb, hz⟩ := boxS w4 (.cells #[.int .i64 (rngH l 0 999999999), .int .i64 (rngH t 1 100000)] 3)
    replace B := B.trans (hb.mono B.size)
    replace k2 := blkT k2 hb
    obtain ⟨d0, d1, d2, d3, -, -, -, -⟩ := cel4 k2
    clear hb hz
    go_wp2_with fail
    refine (rfFirst2 _ _ _ _ 3 _ k5).mono ?_
    rintro e w6 ⟨rfl, rfl⟩
    rw [HF.out]
    clear k5
    go_wp2_with fail
    refine (HRL _).mono ?_
    rintro e w6 ⟨rfl, rfl⟩
    go_wp2_with fail
    refine (awake6 _ (hT.below B)).mono ?_
    rintro e w7 ⟨rfl, hb⟩
    replace B := B.trans (hb.mono B.size)
    go_wp2
    go_ret
    exact ⟨rfl, B⟩
  · have HRW := h2 g2
    obtain rfl := h1' g1
    have hne := nzH g1
    rw [g2] at HF
    clear h1 h2 h1' h2' g1 g2
    go_enter Tryz.func8, Tryz.ntmps8
    go_wp2_with fail
    refine (HL _).mono ?_
    rintro e w2 ⟨rfl, hb⟩
    replace B := B.trans (hb.mono B.size)
    obtain ⟨c0, c1, c2, c3, -, -, -, -⟩ := cel4 (blkT k1 hb)
    have k2 := blkT k1 hb
    clear hb
    go_wp2_with fail
    refine (HW _).mono ?_
    rintro e w3 ⟨rfl, hb⟩
    replace B := B.trans (hb.mono B.size)
    replace k2 := blkT k2 hb
    obtain ⟨d0, d1, d2, d3, -, -, -, -⟩ := cel4 k2
    clear hb c0 c1 c2 c3
    go_wp2_with fail
    refine (HC _).mono ?_
    rintro e w4 ⟨rfl, hb⟩
    replace B := B.trans (hb.mono B.size)
    replace k2 := blkT k2 hb
    clear hb d0 d1 d2 d3
    go_wp2_with fail
    refine (rfCheckRange _ _ _ _).mono ?_
    rintro e w5 ⟨rfl, rfl⟩
    go_wp2_with fail
    refine (rfCheckRange _ _ _ _).mono ?_
    rintro e w5 ⟨rfl, rfl⟩
    obtain ⟨w5, hw5, k5, hb, hz⟩ := boxS w4 (.cells #[.int .i64 (rngH l 0 999999999), .int .i64 (rngH t 1 100000)] 3)
    replace B := B.trans (hb.mono B.size)
    replace k2 := blkT k2 hb
    obtain ⟨d0, d1, d2, d3, -, -, -, -⟩ := cel4 k2
    clear hb hz
    go_wp2_with fail
    refine (rfFirst2 _ _ _ _ 3 _ k5).mono ?_
    rintro e w6 ⟨rfl, rfl⟩
    rw [HF.out]
    clear k5
    go_wp2_with fail
    refine (HRW _).mono ?_
    rintro e w6 ⟨rfl, rfl⟩
    go_wp2_with fail
    refine (awake6 _ (hT.below B)).mono ?_
    rintro e w7 ⟨rfl, hb⟩
    replace B := B.trans (hb.mono B.size)
    go_wp2
    go_ret
    exact ⟨rfl, B⟩
  · obtain rfl := h1' g1
    obtain ⟨rfl, rfl⟩ := h2' g2
    have hne := nzH g1
    generalize weiE0 l t = E at HF HW g2
    have hne2 := nzH g2
    clear h1 h2 h1' h2' g1 g2
    go_enter Tryz.func8, Tryz.ntmps8
    go_wp2_with fail
    refine (HL _).mono ?_
    rintro e w2 ⟨rfl, hb⟩
    replace B := B.trans (hb.mono B.size)
    obtain ⟨c0, c1, c2, c3, -, -, -, -⟩ := cel4 (blkT k1 hb)
    have k2 := blkT k1 hb
    clear hb
    go_wp2_with fail
    refine (HW _).mono ?_
    rintro e w3 ⟨rfl, hb⟩
    replace B := B.trans (hb.mono B.size)
    replace k2 := blkT k2 hb
    obtain ⟨d0, d1, d2, d3, -, -, -, -⟩ := cel4 k2
    clear hb c0 c1 c2 c3
    go_wp2_with fail
    refine (HC _).mono ?_
    rintro e w4 ⟨rfl, hb⟩
    replace B := B.trans (hb.mono B.size)
    replace k2 := blkT k2 hb
    clear hb d0 d1 d2 d3
    go_wp2_with fail
    refine (rfCheckRange _ _ _ _).mono ?_
    rintro e w5 ⟨rfl, rfl⟩
    go_wp2_with fail
    refine (rfCheckRange _ _ _ _).mono ?_
    rintro e w5 ⟨rfl, rfl⟩
    obtain ⟨w5, hw5, k5, hb, hz⟩ := boxS w4 (.cells #[.int .i64 (rngH l 0 999999999), .int .i64 (rngH t 1 100000)] 3)
    replace B := B.trans (hb.mono B.size)
    replace k2 := blkT k2 hb
    obtain ⟨d0, d1, d2, d3, -, -, -, -⟩ := cel4 k2
    clear hb hz
    go_wp2_with fail
    refine (rfFirst2 _ _ _ _ 3 _ k5).mono ?_
    rintro e w6 ⟨rfl, rfl⟩
    rw [HF.out]
    clear k5
    go_wp2_with fail
    refine (awake6 _ (hT.below B)).mono ?_
    rintro e w7 ⟨rfl, hb⟩
    replace B := B.trans (hb.mono B.size)
    go_wp2
    go_ret
    exact ⟨rfl, B⟩
theorem lawHangWeights (n0 n1 n2 n3 l t : Int) (w : World) (hT : Tab w) :
    Calls Tryz.prog 8 #[.agg #[.int .i64 n0, .int .i64 n1, .int .i64 n2, .int .i64 n3], .int .i64 l, .int .i64 t] w fun e w' => e = .returned (.bool true) ∧ Below w.heap.size w w' := by
  refine lawWeightsW n0 n1 n2 n3 l t _ _ _ _ w hT (fun w => hgLength n0 n1 n2 n3 w) (fun w => hgWeight l t w) (fun w => rfCheckCounts n0 n1 n2 n3 w) ?_ (fun h => ozE h _) ?_ (fun h => ?_)
  · intro h w
    obtain ⟨r1, r2, r3, r4⟩ := fst4_zero h
    have g1 := rngH_zero r1
    have g2 := rngH_zero r2
    have g3 := rngH_zero r3
    have g4 := rngH_zero r4
    rw [h, oz0]
    obtain ⟨b, rfl⟩ : ∃ x : Nat, n0 = (x : Int) := ⟨n0.toNat, by omega⟩
    obtain ⟨k, rfl⟩ : ∃ x : Nat, n1 = (x : Int) := ⟨n1.toNat, by omega⟩
    obtain ⟨r, rfl⟩ : ∃ x : Nat, n2 = (x : Int) := ⟨n2.toNat, by omega⟩
    obtain ⟨a, rfl⟩ : ∃ x : Nat, n3 = (x : Int) := ⟨n3.toNat, by omega⟩
    simp only [Int.toNat_natCast]
    exact rfLength b k r a w (by omega) (by omega) (by omega) (by omega)
  · intro h w
    obtain ⟨r1, r2⟩ := fst2_zero h
    have g1 := rngH_zero r1
    have g2 := rngH_zero r2
    obtain ⟨L, rfl⟩ : ∃ x : Nat, l = (x : Int) := ⟨l.toNat, by omega⟩
    obtain ⟨T, rfl⟩ : ∃ x : Nat, t = (x : Int) := ⟨t.toNat, by omega⟩
    have hW := rfWeight L T w (by omega) (by omega)
    have e : weiE (L : Int) (T : Int) = if 999999999 < weiN L T then 4 else 0 := by rw [weiE, if_pos h, Int.toNat_natCast, Int.toNat_natCast]
    rw [e, Int.toNat_natCast, Int.toNat_natCast]
    by_cases hn : 999999999 < weiN L T
    · rw [if_pos hn] at hW ⊢
      rw [if_pos hn] at hW
      rw [ozE (by decide)]
      exact hW
    · rw [if_neg hn] at hW ⊢
      rw [if_neg hn] at hW
      rw [oz0]
      exact hW
  · have e : weiE l t = weiE0 l t := by rw [weiE, if_neg h]
    rw [e]
    exact ⟨ozE h _, rfl⟩
end Go.Proofs.YtmjamjpgnbopmaaGreatDoor

/- The reference's ratios and squares. -/
namespace Go.Proofs.YtmjamjpgnbopmaaGreatDoor
open Go.RowKit

set_option maxHeartbeats 1000000 in
theorem rfDivisor (b : Nat) : ∀ (a : Nat) (w : World), a ≤ 9000000000000000000 → b ≤ 9000000000000000000 →
    Calls Tryz.prog 66 #[.int .i64 a, .int .i64 b] w fun e w' => e = .returned (.int .i64 (a.gcd b : Nat)) ∧ Below w.heap.size w w' := by
  induction b using Nat.strongRecOn with
  | _ b ih =>
    intro a w ha hb
    by_cases hz : b = 0
    · subst hz
      rw [Nat.gcd_zero_right]
      clear ih
      go_enter Tryz.func66, Tryz.ntmps66
      go_wp2
      go_ret
      exact ⟨rfl, Below.refl _ _⟩
    · have hz0 : ((b : Int) == 0) = false := by rw [beq_eq_false_iff_ne]; omega
      have hz1 : ¬ (b : Int) = 0 := by omega
      have hm := modN a b
      have hlt : a % b < b := Nat.mod_lt _ (by omega)
      have HI := fun w => ih (a % b) hlt b w hb (by omega)
      have e : b.gcd (a % b) = a.gcd b := by rw [Nat.gcd_comm a b, Nat.gcd_rec b a, Nat.gcd_comm]
      rw [e] at HI
      clear e ih
      generalize a.gcd b = g at HI ⊢
      generalize a % b = r at hm hlt HI
      have hw1 : IntKind.i64.wrap (r : Int) = (r : Int) := wr64 (by omega) (by omega)
      go_enter Tryz.func66, Tryz.ntmps66
      go_wp2_with fail
      refine (HI _).mono ?_
      rintro e w1 ⟨rfl, hb1⟩
      go_wp2
      go_ret
      exact ⟨rfl, hb1⟩
set_option maxHeartbeats 1000000 in
theorem rfSquare (a b : Nat) (w : World) (ha : a ≤ 9000000000000000000) (hb : b ≤ 9000000000000000000) (h : 0 < b) :
    Calls Tryz.prog 71 #[.int .i64 a, .int .i64 b] w fun e w' => e = .returned (.agg #[.int .i64 (qn a b), .int .i64 (qd a b)]) ∧ Below w.heap.size w w' := by
  unfold qn qd
  obtain ⟨g, hg⟩ : ∃ g, a.gcd b = g := ⟨_, rfl⟩
  have hg0 : 0 < g := by rw [← hg]; exact Nat.gcd_pos_of_pos_right _ h
  have hz1 : ¬ (g : Int) = 0 := by omega
  have hz0 : ((g : Int) != 0) = true := by rw [bne_iff_ne]; omega
  have h1 := divN a g
  have h2 := divN b g
  have h3 : a / g ≤ a := Nat.div_le_self _ _
  have h4 : b / g ≤ b := Nat.div_le_self _ _
  rw [hg]
  have HG := Lib.hid hg
  obtain ⟨u, hu⟩ : ∃ u, a / g = u := ⟨_, rfl⟩
  obtain ⟨v, hv⟩ : ∃ v, b / g = v := ⟨_, rfl⟩
  rw [hu] at h1 h3 ⊢
  rw [hv] at h2 h4 ⊢
  have hw1 : IntKind.i64.wrap (u : Int) = (u : Int) := wr64 (by omega) (by omega)
  have hw2 : IntKind.i64.wrap (v : Int) = (v : Int) := wr64 (by omega) (by omega)
  clear hu hv hg
  obtain ⟨w0, hw0, hB, hb0, hz⟩ := boxS w (.cells #[.int .i64 0, .int .i64 0] 24)
  have hg1 : ¬ g = 0 := by omega
  go_enter Tryz.func71, Tryz.ntmps71
  go_wp2_with fail
  refine (rfDivisor b a _ ha hb).mono ?_
  rintro e w1 ⟨rfl, hb1⟩
  rw [HG.out]
  have hB1 := blkT hB hb1
  have hbw := tw hb0 hb1
  obtain ⟨p0, p1, p2, p3⟩ := cel2 hB1
  obtain ⟨s1, s2⟩ := set2 hB1 (.int .i64 u) (.int .i64 v)
  obtain ⟨t0, t1, -, -⟩ := cel2 s1
  have hbf := hbw.grown s2 hbw.size (fun j e => by cases e; exact Nat.le_refl _)
  clear hB hb1 hB1 hbw hb0 hw0
  go_wp2_with fail
  go_region
  go_wp2
  exact bodyPost_ret (v := .agg #[.int .i64 u, .int .i64 v]) (by simp [results, Tryz.results71, go_sem, t0, t1]) rfl ⟨rfl, below_drew hbf⟩
theorem ratH_cases (n d : Int) : (¬ (1 ≤ n ∧ n ≤ 30 ∧ 1 ≤ d ∧ d ≤ 30) ∧ ratH n d = 3) ∨ ((1 ≤ n ∧ n ≤ 30 ∧ 1 ≤ d ∧ d ≤ 30) ∧ d < n ∧ ratH n d = 11) ∨ ((1 ≤ n ∧ n ≤ 30 ∧ 1 ≤ d ∧ d ≤ 30) ∧ n ≤ d ∧ n.toNat.gcd d.toNat ≠ 1 ∧ ratH n d = 1) ∨ ((1 ≤ n ∧ n ≤ 30 ∧ 1 ≤ d ∧ d ≤ 30) ∧ n ≤ d ∧ n.toNat.gcd d.toNat = 1 ∧ ratH n d = 0) := by
  unfold ratH
  simp only [fstE, rngH]
  repeat' split
  all_goals first | omega | (rename_i h; simp_all; omega) | simp_all
end Go.Proofs.YtmjamjpgnbopmaaGreatDoor

/- The reference's checks, vertical ratios and fullness. -/
namespace Go.Proofs.YtmjamjpgnbopmaaGreatDoor
open Go.RowKit

theorem sqH_cases (n d : Int) : (¬ (0 ≤ n ∧ n ≤ 4000000000000 ∧ 1 ≤ d ∧ d ≤ 810000) ∧ sqH n d = 3) ∨ ((0 ≤ n ∧ n ≤ 4000000000000 ∧ 1 ≤ d ∧ d ≤ 810000) ∧ n.toNat.gcd d.toNat ≠ 1 ∧ sqH n d = 1) ∨ ((0 ≤ n ∧ n ≤ 4000000000000 ∧ 1 ≤ d ∧ d ≤ 810000) ∧ n.toNat.gcd d.toNat = 1 ∧ sqH n d = 0) := by
  unfold sqH
  simp only [fstE, rngH]
  repeat' split
  all_goals first | omega | (rename_i h; simp_all; omega) | simp_all
set_option maxHeartbeats 2000000 in
set_option maxRecDepth 100000 in
theorem rfCheckRatio (a b : Int) (w : World) :
    Calls Tryz.prog 16 #[.agg #[.int .i64 a, .int .i64 b]] w fun e w' => e = .returned (.int .i64 (ratH a b)) ∧ Below w.heap.size w w' := by
  obtain ⟨w1, hw1, k1, hb1, hz1⟩ := boxS w (.cells #[.int .i64 a, .int .i64 b] 23)
  obtain ⟨c0, c1, -, -⟩ := cel2 k1
  clear k1
  by_cases g1 : a < 1
  · have hE : ratH a b = 3 := by have hc := ratH_cases a b; omega
    rw [hE]
    clear hE
    go_enter Tryz.func16, Tryz.ntmps16
    go_wp2
    go_ret
    exact ⟨rfl, hb1⟩
  by_cases g2 : 30 < a
  · have hE : ratH a b = 3 := by have hc := ratH_cases a b; omega
    rw [hE]
    clear hE
    go_enter Tryz.func16, Tryz.ntmps16
    go_wp2
    go_ret
    exact ⟨rfl, hb1⟩
  by_cases g3 : b < 1
  · have hE : ratH a b = 3 := by have hc := ratH_cases a b; omega
    rw [hE]
    clear hE
    go_enter Tryz.func16, Tryz.ntmps16
    go_wp2
    go_ret
    exact ⟨rfl, hb1⟩
  by_cases g4 : 30 < b
  · have hE : ratH a b = 3 := by have hc := ratH_cases a b; omega
    rw [hE]
    clear hE
    go_enter Tryz.func16, Tryz.ntmps16
    go_wp2
    go_ret
    exact ⟨rfl, hb1⟩
  by_cases g5 : b < a
  · have hE : ratH a b = 11 := by have hc := ratH_cases a b; omega
    rw [hE]
    clear hE
    go_enter Tryz.func16, Tryz.ntmps16
    go_wp2
    go_ret
    exact ⟨rfl, hb1⟩
  obtain ⟨P, rfl⟩ : ∃ P : Nat, a = (P : Int) := ⟨a.toNat, by omega⟩
  obtain ⟨D, rfl⟩ : ∃ D : Nat, b = (D : Int) := ⟨b.toNat, by omega⟩
  have HD := fun w => rfDivisor D P w (by omega) (by omega)
  have hc := ratH_cases (P : Int) (D : Int)
  rw [Int.toNat_natCast, Int.toNat_natCast] at hc
  obtain ⟨E, hE⟩ : ∃ E, ratH (P : Int) (D : Int) = E := ⟨_, rfl⟩
  rw [hE] at hc ⊢
  generalize P.gcd D = g at HD hc
  by_cases hg : g = 1
  · obtain rfl : E = 0 := by omega
    have hz : ((g : Int) != 1) = false := by rw [hg]; rfl
    clear hc hE hg
    go_enter Tryz.func16, Tryz.ntmps16
    go_wp2_with fail
    refine (HD _).mono ?_
    rintro e w3 ⟨rfl, hb3⟩
    go_wp2
    go_ret
    exact ⟨rfl, tw hb1 hb3⟩
  · obtain rfl : E = 1 := by omega
    have hz : ((g : Int) != 1) = true := by rw [bne_iff_ne]; omega
    clear hc hE hg
    go_enter Tryz.func16, Tryz.ntmps16
    go_wp2_with fail
    refine (HD _).mono ?_
    rintro e w3 ⟨rfl, hb3⟩
    go_wp2
    go_ret
    exact ⟨rfl, tw hb1 hb3⟩
set_option maxHeartbeats 2000000 in
set_option maxRecDepth 100000 in
theorem rfCheckSquare (a b : Int) (w : World) :
    Calls Tryz.prog 21 #[.agg #[.int .i64 a, .int .i64 b]] w fun e w' => e = .returned (.int .i64 (sqH a b)) ∧ Below w.heap.size w w' := by
  obtain ⟨w1, hw1, k1, hb1, hz1⟩ := boxS w (.cells #[.int .i64 a, .int .i64 b] 24)
  obtain ⟨c0, c1, -, -⟩ := cel2 k1
  clear k1
  by_cases g1 : a < 0
  · have hE : sqH a b = 3 := by have hc := sqH_cases a b; omega
    rw [hE]
    clear hE
    go_enter Tryz.func21, Tryz.ntmps21
    go_wp2
    go_ret
    exact ⟨rfl, hb1⟩
  by_cases g2 : 4000000000000 < a
  · have hE : sqH a b = 3 := by have hc := sqH_cases a b; omega
    rw [hE]
    clear hE
    go_enter Tryz.func21, Tryz.ntmps21
    go_wp2
    go_ret
    exact ⟨rfl, hb1⟩
  by_cases g3 : b < 1
  · have hE : sqH a b = 3 := by have hc := sqH_cases a b; omega
    rw [hE]
    clear hE
    go_enter Tryz.func21, Tryz.ntmps21
    go_wp2
    go_ret
    exact ⟨rfl, hb1⟩
  by_cases g4 : 810000 < b
  · have hE : sqH a b = 3 := by have hc := sqH_cases a b; omega
    rw [hE]
    clear hE
    go_enter Tryz.func21, Tryz.ntmps21
    go_wp2
    go_ret
    exact ⟨rfl, hb1⟩
  obtain ⟨P, rfl⟩ : ∃ P : Nat, a = (P : Int) := ⟨a.toNat, by omega⟩
  obtain ⟨D, rfl⟩ : ∃ D : Nat, b = (D : Int) := ⟨b.toNat, by omega⟩
  have HD := fun w => rfDivisor D P w (by omega) (by omega)
  have hc := sqH_cases (P : Int) (D : Int)
  rw [Int.toNat_natCast, Int.toNat_natCast] at hc
  obtain ⟨E, hE⟩ : ∃ E, sqH (P : Int) (D : Int) = E := ⟨_, rfl⟩
  rw [hE] at hc ⊢
  generalize P.gcd D = g at HD hc
  by_cases hg : g = 1
  · obtain rfl : E = 0 := by omega
    have hz : ((g : Int) != 1) = false := by rw [hg]; rfl
    clear hc hE hg
    go_enter Tryz.func21, Tryz.ntmps21
    go_wp2_with fail
    refine (HD _).mono ?_
    rintro e w3 ⟨rfl, hb3⟩
    go_wp2
    go_ret
    exact ⟨rfl, tw hb1 hb3⟩
  · obtain rfl : E = 1 := by omega
    have hz : ((g : Int) != 1) = true := by rw [bne_iff_ne]; omega
    clear hc hE hg
    go_enter Tryz.func21, Tryz.ntmps21
    go_wp2_with fail
    refine (HD _).mono ?_
    rintro e w3 ⟨rfl, hb3⟩
    go_wp2
    go_ret
    exact ⟨rfl, tw hb1 hb3⟩
set_option maxHeartbeats 1000000 in
set_option maxRecDepth 100000 in
theorem rfSecondary (P D : Nat) (w : World) (h1 : 1 ≤ P) (hP : P ≤ D) (hD : D ≤ 30) :
    Calls Tryz.prog 17 #[.agg #[.int .i64 P, .int .i64 D]] w fun e w' => e = .returned (.agg #[.int .i64 (qn (upN 1 P D) (D * D)), .int .i64 (qd (upN 1 P D) (D * D))]) ∧ Below w.heap.size w w' := by
  have hDD : 0 < D * D := Nat.mul_pos (by omega) (by omega)
  have hDD2 : D * D ≤ 30 * 30 := Nat.mul_le_mul hD hD
  have hU : upN 1 P D ≤ 900 := by unfold upN; omega
  have HQ := fun w => rfSquare (upN 1 P D) (D * D) w (by omega) (by omega) hDD
  have HU := Lib.hid (show (D : Int) * (D : Int) - (P : Int) * (P : Int) = (upN 1 P D : Nat) by rw [sqSub hP]; unfold upN; rw [Nat.one_mul])
  have HDD := Lib.hid (mulI D D)
  have b2 := mulB hD hD
  have b3 := mulB (Nat.le_trans hP hD) (Nat.le_trans hP hD)
  have b5 : 0 ≤ (D : Int) * (D : Int) - (P : Int) * (P : Int) ∧ (D : Int) * (D : Int) - (P : Int) * (P : Int) ≤ 900 := by rw [HU.out]; omega
  obtain ⟨b20, b21⟩ := b2
  obtain ⟨b30, b31⟩ := b3
  obtain ⟨b50, b51⟩ := b5
  clear hU hDD hDD2
  generalize upN 1 P D = U at HQ HU ⊢
  generalize hE : D * D = E at HQ HDD ⊢
  generalize qn U E = u at HQ ⊢
  generalize qd U E = v at HQ ⊢
  clear hE
  obtain ⟨w1, hw1, k1, hb1, hz1⟩ := boxS w (.cells #[.int .i64 P, .int .i64 D] 23)
  obtain ⟨w2, hw2, k2, hb2, hz2⟩ := boxS w1 (.cells #[.int .i64 0, .int .i64 0] 24)
  obtain ⟨p0, p1, -, -⟩ := cel2 (blkT k1 hb2)
  go_enter Tryz.func17, Tryz.ntmps17
  go_wp2_with fail
  rw [HU.out, HDD.out]
  refine (HQ _).mono ?_
  rintro e w3 ⟨rfl, hb3⟩
  have k3 := blkT k2 hb3
  obtain ⟨q0, q1, q2, q3⟩ := cel2 k3
  obtain ⟨s1, s2⟩ := set2 k3 (.int .i64 u) (.int .i64 v)
  obtain ⟨t0, t1, -, -⟩ := cel2 s1
  have hbw := tw (tw hb1 hb2) hb3
  have hbf := hbw.grown s2 hbw.size (fun j e => by cases e; exact hb1.size)
  go_wp2
  exact bodyPost_ret (v := .agg #[.int .i64 u, .int .i64 v]) (by simp [results, Tryz.results17, go_sem, t0, t1]) rfl ⟨rfl, hbf⟩
set_option maxHeartbeats 1000000 in
set_option maxRecDepth 100000 in
theorem rfFullness (P D : Nat) (w : World) (h1 : 1 ≤ P) (hP : P ≤ D) (hD : D ≤ 30) :
    Calls Tryz.prog 18 #[.agg #[.int .i64 P, .int .i64 D]] w fun e w' => e = .returned (.agg #[.int .i64 (qn (fuN P D) (D * D * (D * D))), .int .i64 (qd (fuN P D) (D * D * (D * D)))]) ∧ Below w.heap.size w w' := by
  have hU := fuN_le hP hD
  have hDD : 0 < D * D := Nat.mul_pos (by omega) (by omega)
  have hDD2 : D * D ≤ 30 * 30 := Nat.mul_le_mul hD hD
  have hD4 : D * D * (D * D) ≤ 900 * 900 := Nat.mul_le_mul hDD2 hDD2
  have HQ := fun w => rfSquare (fuN P D) (D * D * (D * D)) w (by omega) (by omega) (Nat.mul_pos hDD hDD)
  have HU := Lib.hid (fuNI hP)
  have HD4 := Lib.hid (show (D : Int) * (D : Int) * ((D : Int) * (D : Int)) = ((D * D * (D * D) : Nat) : Int) by push_cast; rfl)
  have b2 := mulB hD hD
  have b3 := mulB (Nat.le_trans hP hD) (Nat.le_trans hP hD)
  have b5 : 0 ≤ 4 * ((P : Int) * (P : Int)) * ((D : Int) * (D : Int) - (P : Int) * (P : Int)) ∧ 4 * ((P : Int) * (P : Int)) * ((D : Int) * (D : Int) - (P : Int) * (P : Int)) ≤ 3240000 := by rw [HU.out]; omega
  have b6 : 0 ≤ (D : Int) * (D : Int) * ((D : Int) * (D : Int)) ∧ (D : Int) * (D : Int) * ((D : Int) * (D : Int)) ≤ 810000 := by rw [HD4.out]; omega
  obtain ⟨b20, b21⟩ := b2
  obtain ⟨b30, b31⟩ := b3
  obtain ⟨b50, b51⟩ := b5
  obtain ⟨b60, b61⟩ := b6
  have w1' : IntKind.i64.wrap ((P : Int) * (P : Int)) = (P : Int) * (P : Int) := wr64 (by omega) (by omega)
  have w2' : IntKind.i64.wrap ((D : Int) * (D : Int)) = (D : Int) * (D : Int) := wr64 (by omega) (by omega)
  clear hU hDD hDD2 hD4
  generalize fuN P D = U at HQ HU ⊢
  generalize hE : D * D * (D * D) = E at HQ HD4 ⊢
  generalize qn U E = u at HQ ⊢
  generalize qd U E = v at HQ ⊢
  clear hE
  obtain ⟨w1, hw1, k1, hb1, hz1⟩ := boxS w (.cells #[.int .i64 P, .int .i64 D] 23)
  obtain ⟨w2, hw2, k2, hb2, hz2⟩ := boxS w1 (.cells #[.int .i64 0, .int .i64 0] 24)
  obtain ⟨p0, p1, -, -⟩ := cel2 (blkT k1 hb2)
  go_enter Tryz.func18, Tryz.ntmps18
  go_wp2_with fail
  go_quiet (fail)
  have hb2n := below_drewN hb2 nq
  have k2n : (w2.drewN nq).heap[w1.heap.size]? = some (.cells #[.int .i64 0, .int .i64 0] 24 (0, 0)) := k2
  generalize World.drewN w2 nq = w2' at *
  go_wp2_with fail
  rw [HU.out, HD4.out]
  refine (HQ _).mono ?_
  rintro e w3 ⟨rfl, hb3⟩
  have k3 := blkT k2n hb3
  obtain ⟨q0, q1, q2, q3⟩ := cel2 k3
  obtain ⟨s1, s2⟩ := set2 k3 (.int .i64 u) (.int .i64 v)
  obtain ⟨t0, t1, -, -⟩ := cel2 s1
  have hbw := tw (tw hb1 hb2n) hb3
  have hbf := hbw.grown s2 hbw.size (fun j e => by cases e; exact hb1.size)
  go_wp2
  exact bodyPost_ret (v := .agg #[.int .i64 u, .int .i64 v]) (by simp [results, Tryz.results18, go_sem, t0, t1]) rfl ⟨rfl, hbf⟩
end Go.Proofs.YtmjamjpgnbopmaaGreatDoor

/- The reference's sizes. -/
namespace Go.Proofs.YtmjamjpgnbopmaaGreatDoor
open Go.RowKit

set_option maxHeartbeats 1000000 in
theorem rfRatio (a b : Nat) (w : World) (ha : a ≤ 9000000000000000000) (hb : b ≤ 9000000000000000000) (h : 0 < b) :
    Calls Tryz.prog 81 #[.int .i64 a, .int .i64 b] w fun e w' => e = .returned (.agg #[.int .i64 (qn a b), .int .i64 (qd a b)]) ∧ Below w.heap.size w w' := by
  unfold qn qd
  obtain ⟨g, hg⟩ : ∃ g, a.gcd b = g := ⟨_, rfl⟩
  have hg0 : 0 < g := by rw [← hg]; exact Nat.gcd_pos_of_pos_right _ h
  have hz1 : ¬ (g : Int) = 0 := by omega
  have hz0 : ((g : Int) != 0) = true := by rw [bne_iff_ne]; omega
  have h1 := divN a g
  have h2 := divN b g
  have h3 : a / g ≤ a := Nat.div_le_self _ _
  have h4 : b / g ≤ b := Nat.div_le_self _ _
  rw [hg]
  have HG := Lib.hid hg
  obtain ⟨u, hu⟩ : ∃ u, a / g = u := ⟨_, rfl⟩
  obtain ⟨v, hv⟩ : ∃ v, b / g = v := ⟨_, rfl⟩
  rw [hu] at h1 h3 ⊢
  rw [hv] at h2 h4 ⊢
  have hw1 : IntKind.i64.wrap (u : Int) = (u : Int) := wr64 (by omega) (by omega)
  have hw2 : IntKind.i64.wrap (v : Int) = (v : Int) := wr64 (by omega) (by omega)
  clear hu hv hg
  obtain ⟨w0, hw0, hB, hb0, hz⟩ := boxS w (.cells #[.int .i64 0, .int .i64 0] 23)
  have hg1 : ¬ g = 0 := by omega
  go_enter Tryz.func81, Tryz.ntmps81
  go_wp2_with fail
  refine (rfDivisor b a _ ha hb).mono ?_
  rintro e w1 ⟨rfl, hb1⟩
  rw [HG.out]
  have hB1 := blkT hB hb1
  have hbw := tw hb0 hb1
  obtain ⟨p0, p1, p2, p3⟩ := cel2 hB1
  obtain ⟨s1, s2⟩ := set2 hB1 (.int .i64 u) (.int .i64 v)
  obtain ⟨t0, t1, -, -⟩ := cel2 s1
  have hbf := hbw.grown s2 hbw.size (fun j e => by cases e; exact Nat.le_refl _)
  clear hB hb1 hB1 hbw hb0 hw0
  go_wp2_with fail
  go_region
  go_wp2
  exact bodyPost_ret (v := .agg #[.int .i64 u, .int .i64 v]) (by simp [results, Tryz.results81, go_sem, t0, t1]) rfl ⟨rfl, below_drew hbf⟩
def netE2 (b m : Int) : Int := fstE [rngH b 1 100, rngH m 1 300]
set_option maxHeartbeats 1000000 in
theorem rfCheckNetting (b m : Int) (w : World) :
    Calls Tryz.prog 28 #[.int .i64 b, .int .i64 m] w fun e w' => e = .returned (.int .i64 (netE2 b m)) ∧ Below w.heap.size w w' := by
  have HE := Lib.hid (show fstE [rngH b 1 100, rngH m 1 300] = netE2 b m from rfl)
  generalize netE2 b m = E at HE ⊢
  go_enter Tryz.func28, Tryz.ntmps28
  go_wp2_with fail
  refine (rfCheckRange _ _ _ _).mono ?_
  rintro e w2 ⟨rfl, rfl⟩
  go_wp2_with fail
  refine (rfCheckRange _ _ _ _).mono ?_
  rintro e w2 ⟨rfl, rfl⟩
  go_wp2_with fail
  refine (rfFirst2 _ _ _ _ 3 _ (by exact newBlk _ _)).mono ?_
  rintro e w2 ⟨rfl, rfl⟩
  rw [HE.out]
  go_wp2
  go_ret
  exact ⟨rfl, (Below.refl _ _).alloc (Nat.le_refl _) _⟩
theorem spanI (b m : Nat) : 2 * (b : Int) * (m : Int) = ((2 * b * m : Nat) : Int) := by push_cast; rfl
theorem span_le {b m : Nat} (hb : b ≤ 100) (hm : m ≤ 300) : 2 * b * m ≤ 60000 := Nat.le_trans (Nat.mul_le_mul (Nat.mul_le_mul (Nat.le_refl 2) hb) hm) (by decide)
set_option maxHeartbeats 1000000 in
set_option maxRecDepth 100000 in
theorem rfWidth (P D b m : Nat) (w : World) (h1 : 1 ≤ P) (hP : P ≤ D) (hD : D ≤ 30) (hb : b ≤ 100) (hm : m ≤ 300) :
    Calls Tryz.prog 30 #[.agg #[.int .i64 P, .int .i64 D], .int .i64 b, .int .i64 m] w fun e w' => e = .returned (.agg #[.int .i64 (qn (2 * b * m * P) D : Nat), .int .i64 (qd (2 * b * m * P) D : Nat)]) ∧ Below w.heap.size w w' := by
  have hs := span_le hb hm
  have hsP : 2 * b * m * P ≤ 60000 * 30 := Nat.mul_le_mul hs (Nat.le_trans hP hD)
  have HQ := fun w => rfRatio (2 * b * m * P) D w (by omega) (by omega) (by omega)
  have h3 := spanI b m
  have wa : IntKind.i64.wrap (2 * (b : Int)) = 2 * (b : Int) := wr64 (by omega) (by omega)
  have wb : IntKind.i64.wrap (2 * (b : Int) * (m : Int)) = 2 * (b : Int) * (m : Int) := by rw [h3]; exact wr64 (by omega) (by omega)
  have h4 : 2 * (b : Int) * (m : Int) * (P : Int) = ((2 * b * m * P : Nat) : Int) := by push_cast; rfl
  have wc : IntKind.i64.wrap (2 * (b : Int) * (m : Int) * (P : Int)) = 2 * (b : Int) * (m : Int) * (P : Int) := by rw [h4]; exact wr64 (by omega) (by omega)
  have HU := Lib.hid h4
  clear h3 h4
  generalize 2 * b * m * P = U at HQ HU hsP ⊢
  generalize qn U D = u at HQ ⊢
  generalize qd U D = v at HQ ⊢
  obtain ⟨w1, hw1, k1, hb1, hz1⟩ := boxS w (.cells #[.int .i64 P, .int .i64 D] 23)
  obtain ⟨w2, hw2, k2, hb2, hz2⟩ := boxS w1 (.cells #[.int .i64 0, .int .i64 0] 23)
  obtain ⟨p0, p1, -, -⟩ := cel2 (blkT k1 hb2)
  go_enter Tryz.func30, Tryz.ntmps30
  go_wp2_with fail
  rw [HU.out]
  refine (HQ _).mono ?_
  rintro e w3 ⟨rfl, hb3⟩
  have k3 := blkT k2 hb3
  obtain ⟨q0, q1, q2, q3⟩ := cel2 k3
  obtain ⟨s1, s2⟩ := set2 k3 (.int .i64 u) (.int .i64 v)
  obtain ⟨t0, t1, -, -⟩ := cel2 s1
  have hbw := tw (tw hb1 hb2) hb3
  have hbf := hbw.grown s2 hbw.size (fun j e => by cases e; exact hb1.size)
  go_wp2
  exact bodyPost_ret (v := .agg #[.int .i64 u, .int .i64 v]) (by simp [results, Tryz.results30, go_sem, t0, t1]) rfl ⟨rfl, hbf⟩
set_option maxHeartbeats 1000000 in
set_option maxRecDepth 100000 in
theorem rfHeight (P D b m : Nat) (w : World) (h1 : 1 ≤ P) (hP : P ≤ D) (hD : D ≤ 30) (hb : b ≤ 100) (hm : m ≤ 300) :
    Calls Tryz.prog 31 #[.agg #[.int .i64 P, .int .i64 D], .int .i64 b, .int .i64 m] w fun e w' => e = .returned (.agg #[.int .i64 (qn (upN (2 * b * m) P D) (D * D) : Nat), .int .i64 (qd (upN (2 * b * m) P D) (D * D) : Nat)]) ∧ Below w.heap.size w w' := by
  have hs := span_le hb hm
  have h3 := spanI b m
  have wa0 : IntKind.i64.wrap (2 * (b : Int)) = 2 * (b : Int) := wr64 (by omega) (by omega)
  have HS := Lib.hid h3
  have wb0 : IntKind.i64.wrap (2 * (b : Int) * (m : Int)) = ((2 * b * m : Nat) : Int) := by rw [h3]; exact wr64 (by omega) (by omega)
  clear h3
  generalize 2 * b * m = L at hs HS wb0 ⊢
  have hU := upN_le (P := P) hs hD
  have hDD : 0 < D * D := Nat.mul_pos (by omega) (by omega)
  have hDD2 : D * D ≤ 30 * 30 := Nat.mul_le_mul hD hD
  have HQ := fun w => rfSquare (upN L P D) (D * D) w (by omega) (by omega) hDD
  have HU := Lib.hid (upNI (L := L) hP)
  have HDD := Lib.hid (mulI D D)
  have b1 := mulB hs hs
  have b2 := mulB hD hD
  have b3 := mulB (Nat.le_trans hP hD) (Nat.le_trans hP hD)
  have b4 := sqSub hP
  have b5 : 0 ≤ (L : Int) * (L : Int) * ((D : Int) * (D : Int) - (P : Int) * (P : Int)) ∧ (L : Int) * (L : Int) * ((D : Int) * (D : Int) - (P : Int) * (P : Int)) ≤ 3240000000000 := by rw [HU.out]; omega
  obtain ⟨b10, b11⟩ := b1
  obtain ⟨b20, b21⟩ := b2
  obtain ⟨b30, b31⟩ := b3
  obtain ⟨b50, b51⟩ := b5
  clear b4 hU hDD hDD2
  generalize upN L P D = U at HQ HU ⊢
  generalize hE : D * D = E at HQ HDD ⊢
  generalize qn U E = u at HQ ⊢
  generalize qd U E = v at HQ ⊢
  clear hE
  obtain ⟨w1, hw1, k1, hb1, hz1⟩ := boxS w (.cells #[.int .i64 P, .int .i64 D] 23)
  obtain ⟨w2, hw2, k2, hb2, hz2⟩ := boxS w1 (.cells #[.int .i64 0, .int .i64 0] 24)
  obtain ⟨p0, p1, -, -⟩ := cel2 (blkT k1 hb2)
  go_enter Tryz.func31, Tryz.ntmps31
  go_wp2_with fail
  rw [HU.out, HDD.out]
  refine (HQ _).mono ?_
  rintro e w3 ⟨rfl, hb3⟩
  have k3 := blkT k2 hb3
  obtain ⟨q0, q1, q2, q3⟩ := cel2 k3
  obtain ⟨s1, s2⟩ := set2 k3 (.int .i64 u) (.int .i64 v)
  obtain ⟨t0, t1, -, -⟩ := cel2 s1
  have hbw := tw (tw hb1 hb2) hb3
  have hbf := hbw.grown s2 hbw.size (fun j e => by cases e; exact hb1.size)
  go_wp2
  exact bodyPost_ret (v := .agg #[.int .i64 u, .int .i64 v]) (by simp [results, Tryz.results31, go_sem, t0, t1]) rfl ⟨rfl, hbf⟩
end Go.Proofs.YtmjamjpgnbopmaaGreatDoor

/- The law HangChecks. -/
namespace Go.Proofs.YtmjamjpgnbopmaaGreatDoor
open Go.RowKit

theorem keepC {W w1 w2 : World} {g0 g1 g2 g3 g4 g5 : Nat} {x0 y0 x1 y1 x2 y2 x3 y3 x4 y4 x5 y5 : Value} (k : w1.cell? ⟨g0, 0, none⟩ = some x0 ∧ w1.cell? ⟨g0, 1, none⟩ = some y0 ∧ w1.cell? ⟨g1, 0, none⟩ = some x1 ∧ w1.cell? ⟨g1, 1, none⟩ = some y1 ∧ w1.cell? ⟨g2, 0, none⟩ = some x2 ∧ w1.cell? ⟨g2, 1, none⟩ = some y2 ∧ w1.cell? ⟨g3, 0, none⟩ = some x3 ∧ w1.cell? ⟨g3, 1, none⟩ = some y3 ∧ w1.cell? ⟨g4, 0, none⟩ = some x4 ∧ w1.cell? ⟨g4, 1, none⟩ = some y4 ∧ w1.cell? ⟨g5, 0, none⟩ = some x5 ∧ w1.cell? ⟨g5, 1, none⟩ = some y5 ∧ Below W.heap.size W w1 ∧ g0 < w1.heap.size ∧ g1 < w1.heap.size ∧ g2 < w1.heap.size ∧ g3 < w1.heap.size ∧ g4 < w1.heap.size ∧ g5 < w1.heap.size) (hb : Below w1.heap.size w1 w2) :
    w2.cell? ⟨g0, 0, none⟩ = some x0 ∧ w2.cell? ⟨g0, 1, none⟩ = some y0 ∧ w2.cell? ⟨g1, 0, none⟩ = some x1 ∧ w2.cell? ⟨g1, 1, none⟩ = some y1 ∧ w2.cell? ⟨g2, 0, none⟩ = some x2 ∧ w2.cell? ⟨g2, 1, none⟩ = some y2 ∧ w2.cell? ⟨g3, 0, none⟩ = some x3 ∧ w2.cell? ⟨g3, 1, none⟩ = some y3 ∧ w2.cell? ⟨g4, 0, none⟩ = some x4 ∧ w2.cell? ⟨g4, 1, none⟩ = some y4 ∧ w2.cell? ⟨g5, 0, none⟩ = some x5 ∧ w2.cell? ⟨g5, 1, none⟩ = some y5 ∧ Below W.heap.size W w2 ∧ g0 < w2.heap.size ∧ g1 < w2.heap.size ∧ g2 < w2.heap.size ∧ g3 < w2.heap.size ∧ g4 < w2.heap.size ∧ g5 < w2.heap.size := by
  obtain ⟨a0, b0, a1, b1, a2, b2, a3, b3, a4, b4, a5, b5, h, c0, c1, c2, c3, c4, c5⟩ := k
  have := hb.size
  exact ⟨(hb.cell (p := ⟨g0, 0, none⟩) c0).trans a0, (hb.cell (p := ⟨g0, 1, none⟩) c0).trans b0, (hb.cell (p := ⟨g1, 0, none⟩) c1).trans a1, (hb.cell (p := ⟨g1, 1, none⟩) c1).trans b1, (hb.cell (p := ⟨g2, 0, none⟩) c2).trans a2, (hb.cell (p := ⟨g2, 1, none⟩) c2).trans b2, (hb.cell (p := ⟨g3, 0, none⟩) c3).trans a3, (hb.cell (p := ⟨g3, 1, none⟩) c3).trans b3, (hb.cell (p := ⟨g4, 0, none⟩) c4).trans a4, (hb.cell (p := ⟨g4, 1, none⟩) c4).trans b4, (hb.cell (p := ⟨g5, 0, none⟩) c5).trans a5, (hb.cell (p := ⟨g5, 1, none⟩) c5).trans b5, tw h hb, by omega, by omega, by omega, by omega, by omega, by omega⟩
theorem belC {W w1 : World} {g0 g1 g2 g3 g4 g5 : Nat} {x0 y0 x1 y1 x2 y2 x3 y3 x4 y4 x5 y5 : Value} (k : w1.cell? ⟨g0, 0, none⟩ = some x0 ∧ w1.cell? ⟨g0, 1, none⟩ = some y0 ∧ w1.cell? ⟨g1, 0, none⟩ = some x1 ∧ w1.cell? ⟨g1, 1, none⟩ = some y1 ∧ w1.cell? ⟨g2, 0, none⟩ = some x2 ∧ w1.cell? ⟨g2, 1, none⟩ = some y2 ∧ w1.cell? ⟨g3, 0, none⟩ = some x3 ∧ w1.cell? ⟨g3, 1, none⟩ = some y3 ∧ w1.cell? ⟨g4, 0, none⟩ = some x4 ∧ w1.cell? ⟨g4, 1, none⟩ = some y4 ∧ w1.cell? ⟨g5, 0, none⟩ = some x5 ∧ w1.cell? ⟨g5, 1, none⟩ = some y5 ∧ Below W.heap.size W w1 ∧ g0 < w1.heap.size ∧ g1 < w1.heap.size ∧ g2 < w1.heap.size ∧ g3 < w1.heap.size ∧ g4 < w1.heap.size ∧ g5 < w1.heap.size) : Below W.heap.size W w1 := by
  obtain ⟨a0, b0, a1, b1, a2, b2, a3, b3, a4, b4, a5, b5, h, c0, c1, c2, c3, c4, c5⟩ := k
  exact h
theorem hbS {n : Nat} {X Y Z : World} (h : Below n X Y) (hn : n ≤ X.heap.size) (hb : Below Y.heap.size Y Z) : Below n X Z := h.trans (hb.mono (Nat.le_trans hn h.size))
set_option maxHeartbeats 16000000 in
set_option maxRecDepth 100000 in
theorem lawChecksW (a b c d x1 x2 y1 y2 : Int) (w : World) (hT : Tab w) (hz : ratH a b = 0)
    (HS : ∀ w, Calls Tryz.prog 14 #[.agg #[.int .i64 a, .int .i64 b]] w fun e w' => e = .returned (.tuple #[.agg #[.int .i64 x1, .int .i64 x2], .int .i64 0]) ∧ Below w.heap.size w w')
    (HF : ∀ w, Calls Tryz.prog 15 #[.agg #[.int .i64 a, .int .i64 b]] w fun e w' => e = .returned (.tuple #[.agg #[.int .i64 y1, .int .i64 y2], .int .i64 0]) ∧ Below w.heap.size w w')
    (RS : ∀ w, Calls Tryz.prog 17 #[.agg #[.int .i64 a, .int .i64 b]] w fun e w' => e = .returned (.agg #[.int .i64 x1, .int .i64 x2]) ∧ Below w.heap.size w w')
    (RF : ∀ w, Calls Tryz.prog 18 #[.agg #[.int .i64 a, .int .i64 b]] w fun e w' => e = .returned (.agg #[.int .i64 y1, .int .i64 y2]) ∧ Below w.heap.size w w') :
    Calls Tryz.prog 3 #[.agg #[.int .i64 a, .int .i64 b], .agg #[.int .i64 c, .int .i64 d]] w fun e w' => e = .returned (.bool true) ∧ Below w.heap.size w w' := by
  have HC := fun w => rfCheckRatio a b w
  rw [hz] at HC
  obtain ⟨w1, hw1, k0, hb1, -⟩ := boxS w (.cells #[.int .i64 a, .int .i64 b] 23)
  obtain ⟨w2, hw2, k1, hb2, -⟩ := boxS w1 (.cells #[.int .i64 c, .int .i64 d] 24)
  have B := tw hb1 hb2
  replace k0 := blkT k0 hb2
  obtain ⟨p0, p1, -, -⟩ := cel2 k0
  clear hb1 hb2
  go_enter Tryz.func3, Tryz.ntmps3
  go_wp2_with fail
  refine (HS _).mono ?_
  rintro e w3 ⟨rfl, hb⟩
  obtain ⟨v3, hv3, k5, hb', -⟩ := boxS w3 (.cells #[.int .i64 x1, .int .i64 x2] 25)
  replace B := tw (tw B hb) hb'
  replace k0 := blkT (blkT k0 hb) hb'
  replace k1 := blkT (blkT k1 hb) hb'
  clear hb hb' p0 p1
  obtain ⟨p0, p1, -, -⟩ := cel2 k0
  go_wp2_with fail
  refine (HF _).mono ?_
  rintro e w4 ⟨rfl, hb⟩
  obtain ⟨v4, hv4, k7, hb', -⟩ := boxS w4 (.cells #[.int .i64 y1, .int .i64 y2] 25)
  replace B := tw (tw B hb) hb'
  replace k0 := blkT (blkT k0 hb) hb'
  replace k1 := blkT (blkT k1 hb) hb'
  replace k5 := blkT (blkT k5 hb) hb'
  clear hb hb' p0 p1
  obtain ⟨p0, p1, -, -⟩ := cel2 k0
  go_wp2_with fail
  refine (HC _).mono ?_
  rintro e w5 ⟨rfl, hb⟩
  have Z0 := blkSz (blkT k0 hb)
  have Z1 := blkSz (blkT k1 hb)
  have Z3 := blkSz (blkT k5 hb)
  have Z4 := blkSz (blkT k7 hb)
  obtain ⟨v5, hv5, k10, hb', Z5⟩ := boxS w5 (.cells #[.int .i64 0, .int .i64 0] 24)
  obtain ⟨v6, hv6, k11, hb'', -⟩ := boxS v5 (.cells #[.int .i64 0, .int .i64 0] 24)
  replace B := tw (tw (tw B hb) hb') hb''
  replace k0 := blkT (blkT (blkT k0 hb) hb') hb''
  replace k1 := blkT (blkT (blkT k1 hb) hb') hb''
  replace k5 := blkT (blkT (blkT k5 hb) hb') hb''
  replace k7 := blkT (blkT (blkT k7 hb) hb') hb''
  replace k10 := blkT k10 hb''
  clear hb hb' hb'' p0 p1
  obtain ⟨p0, p1, -, -⟩ := cel2 k0
  go_wp2_with fail
  have hn6 : w5.heap.size ≤ v6.heap.size := Nat.le_of_lt (blkSz k10)
  have z0 : w.heap.size < w5.heap.size := Z0
  have Q : ∀ {X : World}, Below w5.heap.size v6 X → X.cell? ⟨w.heap.size, 0, none⟩ = some (.int .i64 a) ∧ X.cell? ⟨w.heap.size, 1, none⟩ = some (.int .i64 b) := fun h => ⟨(h.cell (p := ⟨_, 0, none⟩) z0).trans p0, (h.cell (p := ⟨_, 1, none⟩) z0).trans p1⟩
  refine wp_region_held_drew (S := (fun X => Below w5.heap.size v6 X)) (by kernel_rfl) ?_ (fun hHeld => ?_)
  · exact below_drew (Below.refl _ _)
  refine wpAnyH_take (i := 0) (oi := _) (v := ?vc0) rfl (by kernel_rfl) (by kernel_rfl) (by kernel_rfl) (fun _ _ _ h => h) (Or.inl ⟨by rfl, ?hyc0⟩) (by assumption) ?restc0
  case hyc0 => (intro w hSw; (try dsimp only at hSw); obtain ⟨p0, p1⟩ := Q hSw; go_simp; first | done | rfl)
  try simp only [layAH]
  refine wpAnyH_take (i := 2) (oi := _) (v := ?vc2) rfl (by kernel_rfl) (by kernel_rfl) (by kernel_rfl) (fun _ _ _ h => h) (Or.inl ⟨by rfl, ?hyc2⟩) (by assumption) ?restc2
  case hyc2 => (intro w hSw; (try dsimp only at hSw); obtain ⟨p0, p1⟩ := Q hSw; go_simp; first | done | rfl)
  try simp only [layAH]
  refine wpAnyH_ready (rs := [1]) (by kernel_rfl) (by simp) ?_
  refine AllReadyH.cons (o := _) rfl (fun K hK => ?_) AllReadyH.nil
  simp only [layGH]
  go_simp
  refine (RS _).mono ?_
  rintro e w7 ⟨rfl, hbq⟩
  have k10b := blkT (show v6.drew.heap[w5.heap.size]? = _ from k10) hbq
  have k11b := blkT (show v6.drew.heap[v5.heap.size]? = _ from k11) hbq
  refine hK.out _ _ (by first | exact HST | exact hbS (by assumption) hn6 hbq) (fun hHeld => ?_)
  clear hK K
  try simp only [layAH]
  refine wpAnyH_ready (rs := [3]) (by kernel_rfl) (by simp) ?_
  refine AllReadyH.cons (o := _) rfl (fun K hK => ?_) AllReadyH.nil
  simp only [layGH]
  go_simp
  refine (RF _).mono ?_
  rintro e w8 ⟨rfl, hbq⟩
  have k10c := blkT k10b hbq
  have k11c := blkT k11b hbq
  obtain ⟨q0, q1, q2, q3⟩ := cel2 k10c
  refine hK.out _ _ (by first | exact HST | exact hbS (by assumption) hn6 hbq) (fun hHeld => ?_)
  clear hK K
  try simp only [layAH]
  refine wpAnyH_ready (rs := [4]) (by kernel_rfl) (by simp) ?_
  refine AllReadyH.cons (o := _) rfl (fun K hK => ?_) AllReadyH.nil
  simp only [layGH]
  go_simp
  obtain ⟨s1, s2⟩ := set2 k10c (.int .i64 x1) (.int .i64 x2)
  have HST : Below w5.heap.size v6 _ := hHeld.grown s2 (Nat.le_trans hn6 hHeld.size) (fun j e => by cases e; exact Nat.le_refl _)
  have k11d := (s2.block _ (blkSz k11c) (by intro e; injection e with e; omega)).trans k11c
  generalize (w8.setCell ⟨w5.heap.size, 0, none⟩ (.int .i64 x1)).setCell ⟨w5.heap.size, 1, none⟩ (.int .i64 x2) = w9 at s1 s2 HST k11d ⊢
  clear q0 q1 q2 q3
  obtain ⟨q0, q1, q2, q3⟩ := cel2 k11d
  refine hK.out _ _ (by first | exact HST | exact hbS (by assumption) hn6 hbq) (fun hHeld => ?_)
  clear hK K
  try simp only [layAH]
  refine wpAnyH_ready (rs := [5]) (by kernel_rfl) (by simp) ?_
  refine AllReadyH.cons (o := _) rfl (fun K hK => ?_) AllReadyH.nil
  simp only [layGH]
  go_simp
  obtain ⟨s3, s4⟩ := set2 k11d (.int .i64 y1) (.int .i64 y2)
  have HST : Below w5.heap.size v6 _ := hHeld.grown s4 (Nat.le_trans hn6 hHeld.size) (fun j e => by cases e; exact Nat.le_of_lt Z5)
  have k10e := (s4.block _ (blkSz s1) (by intro e; injection e with e; omega)).trans s1
  generalize (w9.setCell ⟨v5.heap.size, 0, none⟩ (.int .i64 y1)).setCell ⟨v5.heap.size, 1, none⟩ (.int .i64 y2) = w10 at s3 s4 HST k10e ⊢
  refine hK.out _ _ (by first | exact HST | exact hbS (by assumption) hn6 hbq) (fun hHeld => ?_)
  clear hK K
  try simp only [layAH]
  refine wpAnyH_done (by kernel_rfl) ?_ _
  have BB := B.trans (hHeld.mono (Nat.le_of_lt Z0))
  have k0f := (hHeld.block _ Z0).trans k0
  have k1f := (hHeld.block _ Z1).trans k1
  have k5f := (hHeld.block _ Z3).trans k5
  have k7f := (hHeld.block _ Z4).trans k7
  obtain ⟨m0, n0, -, -⟩ := cel2 k0f
  have z0 := blkSz k0f
  obtain ⟨m1, n1, -, -⟩ := cel2 k1f
  have z1 := blkSz k1f
  obtain ⟨m2, n2, -, -⟩ := cel2 k5f
  have z2 := blkSz k5f
  obtain ⟨m3, n3, -, -⟩ := cel2 k7f
  have z3 := blkSz k7f
  obtain ⟨m4, n4, -, -⟩ := cel2 k10e
  have z4 := blkSz k10e
  obtain ⟨m5, n5, -, -⟩ := cel2 s3
  have z5 := blkSz s3
  clear k0f k1f k5f k7f k10e s3 s4 s1 s2 k0 k1 k5 k7 k10 k11 k10b k11b k10c k11c k11d HST hHeld Q p0 p1
  have e1 := fun w => eqSq6 x1 x2 x1 x2 true (by simp) w
  have e2 := fun w => eqSq6 y1 y2 y1 y2 true (by simp) w
  have hgd := guardSq6
  have HR := fun w => hgCheckRatio a b w
  rw [hz] at HR
  have HQ := fun w => hgCheckSquare c d w
  have RQ := fun w => rfCheckSquare c d w
  generalize sqH c d = E at HQ RQ
  go_wp2_with fail
  go_region_held3 (fun X => X.cell? ⟨w.heap.size, 0, none⟩ = some (.int .i64 a) ∧ X.cell? ⟨w.heap.size, 1, none⟩ = some (.int .i64 b) ∧ X.cell? ⟨w1.heap.size, 0, none⟩ = some (.int .i64 c) ∧ X.cell? ⟨w1.heap.size, 1, none⟩ = some (.int .i64 d) ∧ X.cell? ⟨w3.heap.size, 0, none⟩ = some (.int .i64 x1) ∧ X.cell? ⟨w3.heap.size, 1, none⟩ = some (.int .i64 x2) ∧ X.cell? ⟨w4.heap.size, 0, none⟩ = some (.int .i64 y1) ∧ X.cell? ⟨w4.heap.size, 1, none⟩ = some (.int .i64 y2) ∧ X.cell? ⟨w5.heap.size, 0, none⟩ = some (.int .i64 x1) ∧ X.cell? ⟨w5.heap.size, 1, none⟩ = some (.int .i64 x2) ∧ X.cell? ⟨v5.heap.size, 0, none⟩ = some (.int .i64 y1) ∧ X.cell? ⟨v5.heap.size, 1, none⟩ = some (.int .i64 y2) ∧ Below w.heap.size w X ∧ w.heap.size < X.heap.size ∧ w1.heap.size < X.heap.size ∧ w3.heap.size < X.heap.size ∧ w4.heap.size < X.heap.size ∧ w5.heap.size < X.heap.size ∧ v5.heap.size < X.heap.size)
    (first | exact ⟨m0, n0, m1, n1, m2, n2, m3, n3, m4, n4, m5, n5, BB, z0, z1, z2, z3, z4, z5⟩ | exact ⟨m0, n0, m1, n1, m2, n2, m3, n3, m4, n4, m5, n5, below_drew BB, z0, z1, z2, z3, z4, z5⟩ | exact keepC (by assumption) (by assumption) | exact keepC (by assumption) ((Below.refl _ _).alloc (Nat.le_refl _) _) | assumption | exact keepC (by assumption) (below_drew (Below.refl _ _)) | go_keep)
    (first
      | (go_at_call 19; refine (HR _).mono ?_; rintro e w' ⟨rfl, hb⟩)
      | (go_at_call 20; refine (HQ _).mono ?_; rintro e w' ⟨rfl, hb⟩)
      | (go_at_call 21; refine (RQ _).mono ?_; rintro e w' ⟨rfl, hb⟩)
      | (go_at_call 22; refine (awake6 _ (hT.below (belC (by assumption)))).mono ?_; rintro e w' ⟨rfl, hb⟩))
  all_goals
    rename_i hH
    go_wp2
    go_ret
    exact ⟨rfl, belC hH⟩
end Go.Proofs.YtmjamjpgnbopmaaGreatDoor

/- The law HangChecks. -/
namespace Go.Proofs.YtmjamjpgnbopmaaGreatDoor
open Go.RowKit

set_option maxHeartbeats 16000000 in
set_option maxRecDepth 100000 in
theorem lawChecksE (a b c d E : Int) (w : World) (hT : Tab w) (hz : ratH a b = E) (hE : E ≠ 0)
    (HS : ∀ w, Calls Tryz.prog 14 #[.agg #[.int .i64 a, .int .i64 b]] w fun e w' => e = .returned (.tuple #[.agg #[.int .i64 0, .int .i64 0], .int .i64 E]) ∧ Below w.heap.size w w')
    (HF : ∀ w, Calls Tryz.prog 15 #[.agg #[.int .i64 a, .int .i64 b]] w fun e w' => e = .returned (.tuple #[.agg #[.int .i64 0, .int .i64 0], .int .i64 E]) ∧ Below w.heap.size w w') :
    Calls Tryz.prog 3 #[.agg #[.int .i64 a, .int .i64 b], .agg #[.int .i64 c, .int .i64 d]] w fun e w' => e = .returned (.bool true) ∧ Below w.heap.size w w' := by
  have HC := fun w => rfCheckRatio a b w
  have hq : (E == 0) = false := by rw [beq_eq_false_iff_ne]; exact hE
  rw [hz] at HC
  obtain ⟨w1, hw1, k0, hb1, -⟩ := boxS w (.cells #[.int .i64 a, .int .i64 b] 23)
  obtain ⟨w2, hw2, k1, hb2, -⟩ := boxS w1 (.cells #[.int .i64 c, .int .i64 d] 24)
  have B := tw hb1 hb2
  replace k0 := blkT k0 hb2
  obtain ⟨p0, p1, -, -⟩ := cel2 k0
  clear hb1 hb2
  go_enter Tryz.func3, Tryz.ntmps3
  go_wp2_with fail
  refine (HS _).mono ?_
  rintro e w3 ⟨rfl, hb⟩
  obtain ⟨rw30, rw31, -, -⟩ := cel2 (blkT k0 hb)
  have k5 := newBlk w3 (.cells #[.int .i64 0, .int .i64 0] 25)
  have hb' := (Below.refl w3.heap.size w3).alloc (Nat.le_refl _) (.cells #[.int .i64 0, .int .i64 0] 25)
  replace B := tw (tw B hb) hb'
  replace k0 := blkT (blkT k0 hb) hb'
  replace k1 := blkT (blkT k1 hb) hb'
  clear hb hb' p0 p1
  obtain ⟨p0, p1, -, -⟩ := cel2 k0
  go_wp2_with fail
  refine (HF _).mono ?_
  rintro e w4 ⟨rfl, hb⟩
  obtain ⟨rw40, rw41, -, -⟩ := cel2 (blkT k0 hb)
  have k7 := newBlk w4 (.cells #[.int .i64 0, .int .i64 0] 25)
  have hb' := (Below.refl w4.heap.size w4).alloc (Nat.le_refl _) (.cells #[.int .i64 0, .int .i64 0] 25)
  replace B := tw (tw B hb) hb'
  replace k0 := blkT (blkT k0 hb) hb'
  replace k1 := blkT (blkT k1 hb) hb'
  replace k5 := blkT (blkT k5 hb) hb'
  clear hb hb' p0 p1
  obtain ⟨p0, p1, -, -⟩ := cel2 k0
  go_wp2_with fail
  refine (HC _).mono ?_
  rintro e w5 ⟨rfl, hb⟩
  obtain ⟨v5, hv5, k10, hb', -⟩ := boxS w5 (.cells #[.int .i64 0, .int .i64 0] 24)
  obtain ⟨v6, hv6, k11, hb'', -⟩ := boxS v5 (.cells #[.int .i64 0, .int .i64 0] 24)
  replace B := tw (tw (tw B hb) hb') hb''
  replace k0 := blkT (blkT (blkT k0 hb) hb') hb''
  replace k1 := blkT (blkT (blkT k1 hb) hb') hb''
  replace k5 := blkT (blkT (blkT k5 hb) hb') hb''
  replace k7 := blkT (blkT (blkT k7 hb) hb') hb''
  replace k10 := blkT k10 hb''
  clear hb hb' hb'' p0 p1
  skip
  obtain ⟨m0, n0, -, -⟩ := cel2 k0
  have z0 := blkSz k0
  obtain ⟨m1, n1, -, -⟩ := cel2 k1
  have z1 := blkSz k1
  obtain ⟨m2, n2, -, -⟩ := cel2 k5
  have z2 := blkSz k5
  obtain ⟨m3, n3, -, -⟩ := cel2 k7
  have z3 := blkSz k7
  obtain ⟨m4, n4, -, -⟩ := cel2 k10
  have z4 := blkSz k10
  obtain ⟨m5, n5, -, -⟩ := cel2 k11
  have z5 := blkSz k11
  have e1 := fun w => eqSq6 0 0 0 0 true (by simp) w
  have hgd := guardSq6
  have HR := fun w => hgCheckRatio a b w
  rw [hz] at HR
  have HQ := fun w => hgCheckSquare c d w
  have RQ := fun w => rfCheckSquare c d w
  generalize sqH c d = F at HQ RQ
  clear k0 k1 k5 k7 k10 k11
  go_wp2_with fail
  go_region_held3 (fun X => X.cell? ⟨w.heap.size, 0, none⟩ = some (.int .i64 a) ∧ X.cell? ⟨w.heap.size, 1, none⟩ = some (.int .i64 b) ∧ X.cell? ⟨w1.heap.size, 0, none⟩ = some (.int .i64 c) ∧ X.cell? ⟨w1.heap.size, 1, none⟩ = some (.int .i64 d) ∧ X.cell? ⟨w3.heap.size, 0, none⟩ = some (.int .i64 0) ∧ X.cell? ⟨w3.heap.size, 1, none⟩ = some (.int .i64 0) ∧ X.cell? ⟨w4.heap.size, 0, none⟩ = some (.int .i64 0) ∧ X.cell? ⟨w4.heap.size, 1, none⟩ = some (.int .i64 0) ∧ X.cell? ⟨w5.heap.size, 0, none⟩ = some (.int .i64 0) ∧ X.cell? ⟨w5.heap.size, 1, none⟩ = some (.int .i64 0) ∧ X.cell? ⟨v5.heap.size, 0, none⟩ = some (.int .i64 0) ∧ X.cell? ⟨v5.heap.size, 1, none⟩ = some (.int .i64 0) ∧ Below w.heap.size w X ∧ w.heap.size < X.heap.size ∧ w1.heap.size < X.heap.size ∧ w3.heap.size < X.heap.size ∧ w4.heap.size < X.heap.size ∧ w5.heap.size < X.heap.size ∧ v5.heap.size < X.heap.size)
    (first | exact ⟨m0, n0, m1, n1, m2, n2, m3, n3, m4, n4, m5, n5, B, z0, z1, z2, z3, z4, z5⟩ | exact ⟨m0, n0, m1, n1, m2, n2, m3, n3, m4, n4, m5, n5, below_drew B, z0, z1, z2, z3, z4, z5⟩ | exact keepC (by assumption) (by assumption) | exact keepC (by assumption) ((Below.refl _ _).alloc (Nat.le_refl _) _) | assumption | exact keepC (by assumption) (below_drew (Below.refl _ _)) | go_keep)
    (first
      | (go_at_call 19; refine (HR _).mono ?_; rintro e w' ⟨rfl, hb⟩)
      | (go_at_call 20; refine (HQ _).mono ?_; rintro e w' ⟨rfl, hb⟩)
      | (go_at_call 21; refine (RQ _).mono ?_; rintro e w' ⟨rfl, hb⟩)
      | (go_at_call 22; refine (awake6 _ (hT.below (belC (by assumption)))).mono ?_; rintro e w' ⟨rfl, hb⟩))
  all_goals
    rename_i hH
    go_wp2
    go_ret
    exact ⟨rfl, belC hH⟩
theorem lawHangChecks (a b c d : Int) (w : World) (hT : Tab w) :
    Calls Tryz.prog 3 #[.agg #[.int .i64 a, .int .i64 b], .agg #[.int .i64 c, .int .i64 d]] w fun e w' => e = .returned (.bool true) ∧ Below w.heap.size w w' := by
  by_cases hz : ratH a b = 0
  · obtain ⟨P, D, rfl, rfl, h1, h2, h3, h4⟩ := ratH_zero hz
    have HS := fun w => hgSecondary (P : Int) (D : Int) w
    have HF := fun w => hgFullness (P : Int) (D : Int) w
    simp only [hz, oz0, Int.toNat_natCast] at HS HF
    exact lawChecksW _ _ c d _ _ _ _ w hT hz HS HF (fun w => rfSecondary P D w h1 h2 h3) (fun w => rfFullness P D w h1 h2 h3)
  · have HS := fun w => hgSecondary a b w
    have HF := fun w => hgFullness a b w
    simp only [ozE hz] at HS HF
    exact lawChecksE a b c d _ w hT rfl hz HS HF
end Go.Proofs.YtmjamjpgnbopmaaGreatDoor

/- The reference's Hanging. -/
namespace Go.Proofs.YtmjamjpgnbopmaaGreatDoor
open Go.RowKit

def hanR (R B M : Nat) : Int := if 2 * B * M < R then 23 else if 30 < qd R (2 * B * M) then 4 else 0
set_option maxHeartbeats 2000000 in
set_option maxRecDepth 100000 in
theorem rfHanging (R B M : Nat) (w : World) (hR : R ≤ 60000) (hB0 : 1 ≤ B) (hB : B ≤ 100) (hM0 : 1 ≤ M) (hM : M ≤ 300) :
    Calls Tryz.prog 29 #[.int .i64 R, .int .i64 B, .int .i64 M] w fun e w' => e = .returned (.tuple #[.agg #[.int .i64 (oz (hanR R B M) (qn R (2 * B * M) : Nat)), .int .i64 (oz (hanR R B M) (qd R (2 * B * M) : Nat))], .int .i64 (hanR R B M)]) ∧ Below w.heap.size w w' := by
  obtain ⟨w1, hw1, k1, hb1, hz1⟩ := boxS w (.cells #[.int .i64 0, .int .i64 0] 23)
  have hs := span_le hB hM
  have h3 := spanI B M
  have wa0 : IntKind.i64.wrap (2 * (B : Int)) = 2 * (B : Int) := wr64 (by omega) (by omega)
  have wb0 : IntKind.i64.wrap (2 * (B : Int) * (M : Int)) = ((2 * B * M : Nat) : Int) := by rw [h3]; exact wr64 (by omega) (by omega)
  have hL0 : 0 < 2 * B * M := Nat.mul_pos (by omega) (by omega)
  obtain ⟨E, hE⟩ : ∃ E, hanR R B M = E := ⟨_, rfl⟩
  rw [hE]
  rw [hanR] at hE
  clear h3
  generalize 2 * B * M = L at hs wb0 hL0 hE ⊢
  have HQ := fun w => rfRatio R L w (by omega) (by omega) hL0
  by_cases hlt : L < R
  · rw [if_pos hlt] at hE
    subst hE
    rw [ozE (by decide), ozE (by decide)]
    have hlti : (L : Int) < (R : Int) := by omega
    obtain ⟨q0, q1, q2, q3⟩ := cel2 k1
    obtain ⟨s1, s2⟩ := set2 k1 (.int .i64 0) (.int .i64 0)
    obtain ⟨t0, t1, -, -⟩ := cel2 s1
    have hbf := hb1.grown s2 hb1.size (fun j e => by cases e; exact Nat.le_refl _)
    clear hlt
    go_enter Tryz.func29, Tryz.ntmps29
    go_wp2
    exact bodyPost_ret (v := .tuple #[.agg #[.int .i64 0, .int .i64 0], .int .i64 23]) (by simp [results, Tryz.results29, go_sem, t0, t1]) rfl ⟨rfl, hbf⟩
  · rw [if_neg hlt] at hE
    have hlti : ¬ (L : Int) < (R : Int) := by omega
    generalize qn R L = u at HQ ⊢
    generalize qd R L = v at HQ hE ⊢
    by_cases hv : 30 < v
    · rw [if_pos hv] at hE
      subst hE
      rw [ozE (by decide), ozE (by decide)]
      have hvi : (30 : Int) < (v : Int) := by omega
      clear hlt hv
      go_enter Tryz.func29, Tryz.ntmps29
      go_wp2_with fail
      refine (HQ _).mono ?_
      rintro e w3 ⟨rfl, hb3⟩
      obtain ⟨w4, hw4, k4, hb4, hz4⟩ := boxS w3 (.cells #[.int .i64 u, .int .i64 v] 23)
      obtain ⟨x0, x1, -, -⟩ := cel2 k4
      have k5 := blkT (blkT k1 hb3) hb4
      have hbw := tw (tw hb1 hb3) hb4
      obtain ⟨q0, q1, q2, q3⟩ := cel2 k5
      obtain ⟨s1, s2⟩ := set2 k5 (.int .i64 0) (.int .i64 0)
      obtain ⟨t0, t1, -, -⟩ := cel2 s1
      have hbf := hbw.grown s2 hbw.size (fun j e => by cases e; exact Nat.le_refl _)
      go_wp2
      exact bodyPost_ret (v := .tuple #[.agg #[.int .i64 0, .int .i64 0], .int .i64 4]) (by simp [results, Tryz.results29, go_sem, t0, t1]) rfl ⟨rfl, hbf⟩
    · rw [if_neg hv] at hE
      subst hE
      rw [oz0, oz0]
      have hvi : ¬ (30 : Int) < (v : Int) := by omega
      clear hlt hv
      go_enter Tryz.func29, Tryz.ntmps29
      go_wp2_with fail
      refine (HQ _).mono ?_
      rintro e w3 ⟨rfl, hb3⟩
      obtain ⟨w4, hw4, k4, hb4, hz4⟩ := boxS w3 (.cells #[.int .i64 u, .int .i64 v] 23)
      obtain ⟨x0, x1, -, -⟩ := cel2 k4
      have k5 := blkT (blkT k1 hb3) hb4
      have hbw := tw (tw hb1 hb3) hb4
      obtain ⟨q0, q1, q2, q3⟩ := cel2 k5
      obtain ⟨s1, s2⟩ := set2 k5 (.int .i64 u) (.int .i64 v)
      obtain ⟨t0, t1, -, -⟩ := cel2 s1
      have hbf := hbw.grown s2 hbw.size (fun j e => by cases e; exact Nat.le_refl _)
      go_wp2
      exact bodyPost_ret (v := .tuple #[.agg #[.int .i64 u, .int .i64 v], .int .i64 0]) (by simp [results, Tryz.results29, go_sem, t0, t1]) rfl ⟨rfl, hbf⟩
end Go.Proofs.YtmjamjpgnbopmaaGreatDoor

/- The law HangSizes. -/
namespace Go.Proofs.YtmjamjpgnbopmaaGreatDoor
open Go.RowKit

theorem cel5 {W : World} {b : Nat} {x0 x1 x2 x3 x4 : Value} {t : TypeId} (h : W.heap[b]? = some (.cells #[x0, x1, x2, x3, x4] t (0, 0))) : W.cell? ⟨b, 0, none⟩ = some x0 ∧ W.cell? ⟨b, 1, none⟩ = some x1 ∧ W.cell? ⟨b, 2, none⟩ = some x2 ∧ W.cell? ⟨b, 3, none⟩ = some x3 ∧ W.cell? ⟨b, 4, none⟩ = some x4 := by
  refine ⟨?_, ?_, ?_, ?_, ?_⟩ <;> simp [World.cell?, h]
theorem boxB {n : Nat} {W X : World} (_ : Below n W X) (o : Obj) : ∃ g w1, X.heap.size = g ∧ X.alloc o = w1 ∧ w1.heap[g]? = some o ∧ Below X.heap.size X w1 ∧ g < w1.heap.size := ⟨_, _, rfl, rfl, newBlk _ _, (Below.refl _ _).alloc (Nat.le_refl _) _, by simp⟩
theorem keepZ {W w1 w2 : World} {g p q s : Nat} {x0 x1 x2 x3 x4 : Value} {u v y : Obj} (k : w1.cell? ⟨g, 0, none⟩ = some x0 ∧ w1.cell? ⟨g, 1, none⟩ = some x1 ∧ w1.cell? ⟨g, 2, none⟩ = some x2 ∧ w1.cell? ⟨g, 3, none⟩ = some x3 ∧ w1.cell? ⟨g, 4, none⟩ = some x4 ∧ w1.heap[p]? = some u ∧ w1.heap[q]? = some v ∧ w1.heap[s]? = some y ∧ Below W.heap.size W w1 ∧ g < w1.heap.size) (hb : Below w1.heap.size w1 w2) :
    w2.cell? ⟨g, 0, none⟩ = some x0 ∧ w2.cell? ⟨g, 1, none⟩ = some x1 ∧ w2.cell? ⟨g, 2, none⟩ = some x2 ∧ w2.cell? ⟨g, 3, none⟩ = some x3 ∧ w2.cell? ⟨g, 4, none⟩ = some x4 ∧ w2.heap[p]? = some u ∧ w2.heap[q]? = some v ∧ w2.heap[s]? = some y ∧ Below W.heap.size W w2 ∧ g < w2.heap.size := by
  obtain ⟨a0, a1, a2, a3, a4, b0, b1, b2, h, c⟩ := k
  have := hb.size
  exact ⟨(hb.cell (p := ⟨g, 0, none⟩) c).trans a0, (hb.cell (p := ⟨g, 1, none⟩) c).trans a1, (hb.cell (p := ⟨g, 2, none⟩) c).trans a2, (hb.cell (p := ⟨g, 3, none⟩) c).trans a3, (hb.cell (p := ⟨g, 4, none⟩) c).trans a4, blkT b0 hb, blkT b1 hb, blkT b2 hb, h.trans (hb.mono h.size), by omega⟩
set_option maxHeartbeats 16000000 in
set_option maxRecDepth 100000 in
theorem lawSizes11 (a b r bar m h1 h2 EH u1 u2 v1 v2 E2 O1 : Int) (w : World) (hT : Tab w)
    (HH : ∀ w, Calls Tryz.prog 23 #[.int .i64 r, .int .i64 bar, .int .i64 m] w fun e w' => e = .returned (.tuple #[.agg #[.int .i64 h1, .int .i64 h2], .int .i64 EH]) ∧ Below w.heap.size w w')
    (HWd : ∀ w, Calls Tryz.prog 24 #[.agg #[.int .i64 a, .int .i64 b], .int .i64 bar, .int .i64 m] w fun e w' => e = .returned (.tuple #[.agg #[.int .i64 u1, .int .i64 u2], .int .i64 E2]) ∧ Below w.heap.size w w')
    (HHt : ∀ w, Calls Tryz.prog 25 #[.agg #[.int .i64 a, .int .i64 b], .int .i64 bar, .int .i64 m] w fun e w' => e = .returned (.tuple #[.agg #[.int .i64 v1, .int .i64 v2], .int .i64 E2]) ∧ Below w.heap.size w w')
    (hf1 : fstE [rngH r 1 60000, netE2 bar m] = O1) (hf2 : fstE [ratH a b, netE2 bar m] = E2)
    (hO : O1 = 0) (RH : ∀ w, Calls Tryz.prog 29 #[.int .i64 r, .int .i64 bar, .int .i64 m] w fun e w' => e = .returned (.tuple #[.agg #[.int .i64 h1, .int .i64 h2], .int .i64 EH]) ∧ Below w.heap.size w w')
    (hE2 : E2 = 0) (RW : ∀ w, Calls Tryz.prog 30 #[.agg #[.int .i64 a, .int .i64 b], .int .i64 bar, .int .i64 m] w fun e w' => e = .returned (.agg #[.int .i64 u1, .int .i64 u2]) ∧ Below w.heap.size w w')
    (RT : ∀ w, Calls Tryz.prog 31 #[.agg #[.int .i64 a, .int .i64 b], .int .i64 bar, .int .i64 m] w fun e w' => e = .returned (.agg #[.int .i64 v1, .int .i64 v2]) ∧ Below w.heap.size w w') :
    Calls Tryz.prog 4 #[.agg #[.int .i64 a, .int .i64 b, .int .i64 r, .int .i64 bar, .int .i64 m]] w fun e w' => e = .returned (.bool true) ∧ Below w.heap.size w w' := by
  have HF1 := Lib.hid hf1
  have HF2 := Lib.hid hf2
  clear hf1 hf2
  obtain ⟨w1, hw1, k1, hb1, hz1⟩ := boxS w (.cells #[.int .i64 a, .int .i64 b, .int .i64 r, .int .i64 bar, .int .i64 m] 37)
  have Q : ∀ {X : World}, Below w1.heap.size w1 X → X.cell? ⟨w.heap.size, 0, none⟩ = some (.int .i64 a) ∧ X.cell? ⟨w.heap.size, 1, none⟩ = some (.int .i64 b) ∧ X.cell? ⟨w.heap.size, 2, none⟩ = some (.int .i64 r) ∧ X.cell? ⟨w.heap.size, 3, none⟩ = some (.int .i64 bar) ∧ X.cell? ⟨w.heap.size, 4, none⟩ = some (.int .i64 m) := fun h => cel5 (blkT k1 h)
  have B1 := Below.refl w1.heap.size w1
  obtain ⟨c0, c1, c2, c3, c4⟩ := Q B1
  go_enter Tryz.func4, Tryz.ntmps4
  go_wp2_with fail
  refine (HH _).mono ?_
  rintro e w2 ⟨rfl, hb⟩
  obtain ⟨vw2, hvw2, k3, hb', -⟩ := boxS w2 (.cells #[.int .i64 h1, .int .i64 h2] 23)
  replace B1 := tw (tw B1 hb) hb'
  clear hb hb' c0 c1 c2 c3 c4
  obtain ⟨c0, c1, c2, c3, c4⟩ := Q B1
  go_wp2_with fail
  refine (HWd _).mono ?_
  rintro e w3 ⟨rfl, hb⟩
  obtain ⟨vw3, hvw3, k5, hb', -⟩ := boxS w3 (.cells #[.int .i64 u1, .int .i64 u2] 23)
  replace k3 := blkT (blkT k3 hb) hb'
  replace B1 := tw (tw B1 hb) hb'
  clear hb hb' c0 c1 c2 c3 c4
  obtain ⟨c0, c1, c2, c3, c4⟩ := Q B1
  go_wp2_with fail
  refine (HHt _).mono ?_
  rintro e w4 ⟨rfl, hb⟩
  obtain ⟨vw4, hvw4, k7, hb', -⟩ := boxS w4 (.cells #[.int .i64 v1, .int .i64 v2] 25)
  replace k3 := blkT (blkT k3 hb) hb'
  replace k5 := blkT (blkT k5 hb) hb'
  replace B1 := tw (tw B1 hb) hb'
  clear hb hb' c0 c1 c2 c3 c4
  obtain ⟨c0, c1, c2, c3, c4⟩ := Q B1
  have z0 := Nat.lt_of_lt_of_le hz1 B1.size
  go_wp2_with fail
  go_region_held3 (fun X => X.cell? ⟨w.heap.size, 0, none⟩ = some (.int .i64 a) ∧ X.cell? ⟨w.heap.size, 1, none⟩ = some (.int .i64 b) ∧ X.cell? ⟨w.heap.size, 2, none⟩ = some (.int .i64 r) ∧ X.cell? ⟨w.heap.size, 3, none⟩ = some (.int .i64 bar) ∧ X.cell? ⟨w.heap.size, 4, none⟩ = some (.int .i64 m) ∧ X.heap[w2.heap.size]? = some (.cells #[.int .i64 h1, .int .i64 h2] 23 (0, 0)) ∧ X.heap[w3.heap.size]? = some (.cells #[.int .i64 u1, .int .i64 u2] 23 (0, 0)) ∧ X.heap[w4.heap.size]? = some (.cells #[.int .i64 v1, .int .i64 v2] 25 (0, 0)) ∧ Below w1.heap.size w1 X ∧ w.heap.size < X.heap.size)
    (first | exact ⟨c0, c1, c2, c3, c4, k3, k5, k7, B1, z0⟩ | exact ⟨c0, c1, c2, c3, c4, k3, k5, k7, below_drew B1, z0⟩ | exact keepZ (by assumption) (by assumption) | exact keepZ (by assumption) ((Below.refl _ _).alloc (Nat.le_refl _) _) | assumption | exact keepZ (by assumption) (below_drew (Below.refl _ _)) | go_keep)
    (first
      | (go_at_call 27; refine (rfCheckRange _ _ _ _).mono ?_; rintro e w' ⟨rfl, rfl⟩)
      | (go_at_call 28; refine (rfCheckNetting _ _ _).mono ?_; rintro e w' ⟨rfl, hb⟩)
      | (go_at_call 26; refine (rfFirst2 _ _ _ _ 3 _ (by exact newBlk _ _)).mono ?_; rintro e w' ⟨rfl, rfl⟩))
  rename_i hH
  obtain ⟨c0, c1, c2, c3, c4, k3, k5, k7, B1, z0⟩ := hH
  rw [HF1.out]
  go_wp2_with fail
  go_region_held3 (fun X => X.cell? ⟨w.heap.size, 0, none⟩ = some (.int .i64 a) ∧ X.cell? ⟨w.heap.size, 1, none⟩ = some (.int .i64 b) ∧ X.cell? ⟨w.heap.size, 2, none⟩ = some (.int .i64 r) ∧ X.cell? ⟨w.heap.size, 3, none⟩ = some (.int .i64 bar) ∧ X.cell? ⟨w.heap.size, 4, none⟩ = some (.int .i64 m) ∧ X.heap[w2.heap.size]? = some (.cells #[.int .i64 h1, .int .i64 h2] 23 (0, 0)) ∧ X.heap[w3.heap.size]? = some (.cells #[.int .i64 u1, .int .i64 u2] 23 (0, 0)) ∧ X.heap[w4.heap.size]? = some (.cells #[.int .i64 v1, .int .i64 v2] 25 (0, 0)) ∧ Below w1.heap.size w1 X ∧ w.heap.size < X.heap.size)
    (first | exact ⟨c0, c1, c2, c3, c4, k3, k5, k7, B1, z0⟩ | exact ⟨c0, c1, c2, c3, c4, k3, k5, k7, below_drew B1, z0⟩ | exact keepZ (by assumption) (by assumption) | exact keepZ (by assumption) ((Below.refl _ _).alloc (Nat.le_refl _) _) | assumption | exact keepZ (by assumption) (below_drew (Below.refl _ _)) | go_keep)
    (first
      | (go_at_call 16; refine (rfCheckRatio _ _ _).mono ?_; rintro e w' ⟨rfl, hb⟩)
      | (go_at_call 28; refine (rfCheckNetting _ _ _).mono ?_; rintro e w' ⟨rfl, hb⟩)
      | (go_at_call 26; refine (rfFirst2 _ _ _ _ 3 _ (by exact newBlk _ _)).mono ?_; rintro e w' ⟨rfl, rfl⟩))
  rename_i hH
  obtain ⟨c0, c1, c2, c3, c4, k3, k5, k7, B1, z0⟩ := hH
  rw [HF2.out]
  have D0 := B1.size
  have D3 := blkSz k3
  have D5 := blkSz k5
  have D7 := blkSz k7
  obtain ⟨g11, x5, hg11, hx5, k11, hb, y11⟩ := boxB B1 (.cells #[.int .i64 0, .int .i64 0] 23)
  obtain ⟨g12, x6, hg12, hx6, k12, hb', y12⟩ := boxB (Below.refl x5.heap.size x5) (.cells #[.int .i64 0, .int .i64 0] 23)
  obtain ⟨g13, x7, hg13, hx7, k13, hb'', y13⟩ := boxB (Below.refl x6.heap.size x6) (.cells #[.int .i64 0, .int .i64 0] 24)
  replace B1 := tw (tw (tw B1 hb) hb') hb''
  clear c0 c1 c2 c3 c4
  obtain ⟨c0, c1, c2, c3, c4⟩ := Q B1
  replace k3 := blkT (blkT (blkT k3 hb) hb') hb''
  replace k5 := blkT (blkT (blkT k5 hb) hb') hb''
  replace k7 := blkT (blkT (blkT k7 hb) hb') hb''
  replace k11 := blkT (blkT k11 hb') hb''
  replace k12 := blkT k12 hb''
  have i12 : g11 < g12 := by have := hb'.size; omega
  have i13 : g12 < g13 := by have := hb''.size; omega
  have i0 : w1.heap.size ≤ g11 := by rw [← hg11]; exact D0
  have i3 : w2.heap.size < g11 := by rw [← hg11]; exact D3
  have i5 : w3.heap.size < g11 := by rw [← hg11]; exact D5
  have i7 : w4.heap.size < g11 := by rw [← hg11]; exact D7
  clear hb hb' hb'' y11 y12 y13 z0
  have zz := hz1
  go_wp2_with fail
  refine (RH _).mono ?_
  rintro e w8 ⟨rfl, hb⟩
  replace B1 := tw B1 hb
  replace k3 := blkT k3 hb
  replace k5 := blkT k5 hb
  replace k7 := blkT k7 hb
  replace k11 := blkT k11 hb
  replace k12 := blkT k12 hb
  replace k13 := blkT k13 hb
  clear hb c0 c1 c2 c3 c4
  obtain ⟨q0, q1, q2, q3⟩ := cel2 k11
  obtain ⟨s1, s2⟩ := set2 k11 (.int .i64 h1) (.int .i64 h2)
  have l3 := blkSz k3
  have k3n := (s2.block _ (blkSz k3) (by intro e; injection e with e; omega)).trans k3
  have k5n := (s2.block _ (blkSz k5) (by intro e; injection e with e; omega)).trans k5
  have k7n := (s2.block _ (blkSz k7) (by intro e; injection e with e; omega)).trans k7
  have k12n := (s2.block _ (blkSz k12) (by intro e; injection e with e; omega)).trans k12
  have k13n := (s2.block _ (blkSz k13) (by intro e; injection e with e; omega)).trans k13
  replace B1 := B1.grown s2 B1.size (fun j e => by cases e; exact i0)
  clear k3 k5 k7 k11 k12 k13
  obtain ⟨c0, c1, c2, c3, c4⟩ := Q B1
  go_wp2_with fail
  generalize (w8.setCell ⟨g11, 0, none⟩ (.int .i64 h1)).setCell ⟨g11, 1, none⟩ (.int .i64 h2) = w9 at s1 s2 k3n k5n k7n k12n k13n B1 c0 c1 c2 c3 c4 ⊢
  have hn6 : g12 ≤ w9.heap.size := Nat.le_of_lt (blkSz k12n)
  have zz2 : w.heap.size < g12 := by omega
  have Q2 : ∀ {X : World}, Below g12 w9 X → X.cell? ⟨w.heap.size, 0, none⟩ = some (.int .i64 a) ∧ X.cell? ⟨w.heap.size, 1, none⟩ = some (.int .i64 b) ∧ X.cell? ⟨w.heap.size, 2, none⟩ = some (.int .i64 r) ∧ X.cell? ⟨w.heap.size, 3, none⟩ = some (.int .i64 bar) ∧ X.cell? ⟨w.heap.size, 4, none⟩ = some (.int .i64 m) := fun h => ⟨(h.cell (p := ⟨_, 0, none⟩) zz2).trans c0, (h.cell (p := ⟨_, 1, none⟩) zz2).trans c1, (h.cell (p := ⟨_, 2, none⟩) zz2).trans c2, (h.cell (p := ⟨_, 3, none⟩) zz2).trans c3, (h.cell (p := ⟨_, 4, none⟩) zz2).trans c4⟩
  refine wp_region_held_drew (S := (fun X => Below g12 w9 X)) (by kernel_rfl) ?_ (fun hHeld => ?_)
  · exact below_drew (Below.refl _ _)
  refine wpAnyH_take (i := 0) (oi := _) (v := ?vc110) rfl (by kernel_rfl) (by kernel_rfl) (by kernel_rfl) (fun _ _ _ h => h) (Or.inl ⟨by rfl, ?hyc110⟩) (by assumption) ?restc110
  case hyc110 => (intro w hSw; (try dsimp only at hSw); go_simp; first | done | rfl)
  try simp only [layAH]
  refine wpAnyH_take (i := 1) (oi := _) (v := ?vc111) rfl (by kernel_rfl) (by kernel_rfl) (by kernel_rfl) (fun _ _ _ h => h) (Or.inl ⟨by rfl, ?hyc111⟩) (by assumption) ?restc111
  case hyc111 => (intro w hSw; (try dsimp only at hSw); obtain ⟨c0, c1, c2, c3, c4⟩ := Q2 hSw; go_simp; first | done | rfl)
  try simp only [layAH]
  refine wpAnyH_take (i := 2) (oi := _) (v := ?vc112) rfl (by kernel_rfl) (by kernel_rfl) (by kernel_rfl) (fun _ _ _ h => h) (Or.inl ⟨by rfl, ?hyc112⟩) (by assumption) ?restc112
  case hyc112 => (intro w hSw; (try dsimp only at hSw); go_simp; first | done | rfl)
  try simp only [layAH]
  refine wpAnyH_take (i := 3) (oi := _) (v := ?vc113) rfl (by kernel_rfl) (by kernel_rfl) (by kernel_rfl) (fun _ _ _ h => h) (Or.inl ⟨by rfl, ?hyc113⟩) (by assumption) ?restc113
  case hyc113 => (intro w hSw; (try dsimp only at hSw); obtain ⟨c0, c1, c2, c3, c4⟩ := Q2 hSw; go_simp; first | done | rfl)
  try simp only [layAH]
  refine wpAnyH_take (i := 4) (oi := _) (v := ?vc114) rfl (by kernel_rfl) (by kernel_rfl) (by kernel_rfl) (fun _ _ _ h => h) (Or.inl ⟨by rfl, ?hyc114⟩) (by assumption) ?restc114
  case hyc114 => (intro w hSw; (try dsimp only at hSw); go_simp; first | done | rfl)
  try simp only [layAH]
  refine wpAnyH_take (i := 5) (oi := _) (v := ?vc115) rfl (by kernel_rfl) (by kernel_rfl) (by kernel_rfl) (fun _ _ _ h => h) (Or.inl ⟨by rfl, ?hyc115⟩) (by assumption) ?restc115
  case hyc115 => (intro w hSw; (try dsimp only at hSw); obtain ⟨c0, c1, c2, c3, c4⟩ := Q2 hSw; go_simp; first | done | rfl)
  try simp only [layAH]
  refine wpAnyH_take (i := 7) (oi := _) (v := ?vc117) rfl (by kernel_rfl) (by kernel_rfl) (by kernel_rfl) (fun _ _ _ h => h) (Or.inl ⟨by rfl, ?hyc117⟩) (by assumption) ?restc117
  case hyc117 => (intro w hSw; (try dsimp only at hSw); go_simp; first | done | rfl)
  try simp only [layAH]
  refine wpAnyH_take (i := 8) (oi := _) (v := ?vc118) rfl (by kernel_rfl) (by kernel_rfl) (by kernel_rfl) (fun _ _ _ h => h) (Or.inl ⟨by rfl, ?hyc118⟩) (by assumption) ?restc118
  case hyc118 => (intro w hSw; (try dsimp only at hSw); obtain ⟨c0, c1, c2, c3, c4⟩ := Q2 hSw; go_simp; first | done | rfl)
  try simp only [layAH]
  refine wpAnyH_take (i := 9) (oi := _) (v := ?vc119) rfl (by kernel_rfl) (by kernel_rfl) (by kernel_rfl) (fun _ _ _ h => h) (Or.inl ⟨by rfl, ?hyc119⟩) (by assumption) ?restc119
  case hyc119 => (intro w hSw; (try dsimp only at hSw); go_simp; first | done | rfl)
  try simp only [layAH]
  refine wpAnyH_take (i := 10) (oi := _) (v := ?vc1110) rfl (by kernel_rfl) (by kernel_rfl) (by kernel_rfl) (fun _ _ _ h => h) (Or.inl ⟨by rfl, ?hyc1110⟩) (by assumption) ?restc1110
  case hyc1110 => (intro w hSw; (try dsimp only at hSw); obtain ⟨c0, c1, c2, c3, c4⟩ := Q2 hSw; go_simp; first | done | rfl)
  try simp only [layAH]
  refine wpAnyH_take (i := 11) (oi := _) (v := ?vc1111) rfl (by kernel_rfl) (by kernel_rfl) (by kernel_rfl) (fun _ _ _ h => h) (Or.inl ⟨by rfl, ?hyc1111⟩) (by assumption) ?restc1111
  case hyc1111 => (intro w hSw; (try dsimp only at hSw); go_simp; first | done | rfl)
  try simp only [layAH]
  refine wpAnyH_take (i := 12) (oi := _) (v := ?vc1112) rfl (by kernel_rfl) (by kernel_rfl) (by kernel_rfl) (fun _ _ _ h => h) (Or.inl ⟨by rfl, ?hyc1112⟩) (by assumption) ?restc1112
  case hyc1112 => (intro w hSw; (try dsimp only at hSw); obtain ⟨c0, c1, c2, c3, c4⟩ := Q2 hSw; go_simp; first | done | rfl)
  try simp only [layAH]
  refine wpAnyH_ready (rs := [6]) (by kernel_rfl) (by simp) ?_
  refine AllReadyH.cons (o := _) rfl (fun K hK => ?_) AllReadyH.nil
  simp only [layGH]
  go_simp
  obtain ⟨c0, c1, c2, c3, c4⟩ := Q2 hHeld
  refine (RW _).mono ?_
  rintro e w10 ⟨rfl, hbq⟩
  have k12b := blkT (show (World.drew w9).heap[g12]? = _ from k12n) hbq
  have k13b := blkT (show (World.drew w9).heap[g13]? = _ from k13n) hbq
  refine hK.out _ _ (by first | exact HST | exact hbS (by assumption) hn6 hbq) (fun hHeld => ?_)
  clear hK K
  try simp only [layAH]
  refine wpAnyH_ready (rs := [13]) (by kernel_rfl) (by simp) ?_
  refine AllReadyH.cons (o := _) rfl (fun K hK => ?_) AllReadyH.nil
  simp only [layGH]
  go_simp
  refine (RT _).mono ?_
  rintro e w11 ⟨rfl, hbq⟩
  have k12c := blkT k12b hbq
  have k13c := blkT k13b hbq
  obtain ⟨q0, q1, q2, q3⟩ := cel2 k12c
  refine hK.out _ _ (by first | exact HST | exact hbS (by assumption) hn6 hbq) (fun hHeld => ?_)
  clear hK K
  try simp only [layAH]
  refine wpAnyH_ready (rs := [14]) (by kernel_rfl) (by simp) ?_
  refine AllReadyH.cons (o := _) rfl (fun K hK => ?_) AllReadyH.nil
  simp only [layGH]
  go_simp
  obtain ⟨s3, s4⟩ := set2 k12c (.int .i64 u1) (.int .i64 u2)
  have HST : Below g12 w9 _ := hHeld.grown s4 (Nat.le_trans hn6 hHeld.size) (fun j e => by cases e; exact Nat.le_refl _)
  have k13d := (s4.block _ (blkSz k13c) (by intro e; injection e with e; omega)).trans k13c
  generalize (w11.setCell ⟨g12, 0, none⟩ (.int .i64 u1)).setCell ⟨g12, 1, none⟩ (.int .i64 u2) = w12 at s3 s4 HST k13d ⊢
  clear q0 q1 q2 q3
  obtain ⟨q0, q1, q2, q3⟩ := cel2 k13d
  refine hK.out _ _ (by first | exact HST | exact hbS (by assumption) hn6 hbq) (fun hHeld => ?_)
  clear hK K
  try simp only [layAH]
  refine wpAnyH_ready (rs := [15]) (by kernel_rfl) (by simp) ?_
  refine AllReadyH.cons (o := _) rfl (fun K hK => ?_) AllReadyH.nil
  simp only [layGH]
  go_simp
  obtain ⟨s5, s6⟩ := set2 k13d (.int .i64 v1) (.int .i64 v2)
  have HST : Below g12 w9 _ := hHeld.grown s6 (Nat.le_trans hn6 hHeld.size) (fun j e => by cases e; exact Nat.le_of_lt i13)
  have k12e := (s6.block _ (blkSz s3) (by intro e; injection e with e; omega)).trans s3
  generalize (w12.setCell ⟨g13, 0, none⟩ (.int .i64 v1)).setCell ⟨g13, 1, none⟩ (.int .i64 v2) = w13 at s5 s6 HST k12e ⊢
  refine hK.out _ _ (by first | exact HST | exact hbS (by assumption) hn6 hbq) (fun hHeld => ?_)
  clear hK K
  try simp only [layAH]
  refine wpAnyH_done (by kernel_rfl) ?_ _
  have BB := B1.trans (hHeld.mono (by omega))
  have k3nf := (hHeld.block _ (by omega)).trans k3n
  have k5nf := (hHeld.block _ (by omega)).trans k5n
  have k7nf := (hHeld.block _ (by omega)).trans k7n
  have s1f := (hHeld.block _ i12).trans s1
  clear HST hHeld Q2 k12b k13b k12c k13c k13d
  obtain ⟨m0, n0, -, -⟩ := cel2 k3nf
  obtain ⟨m1, n1, -, -⟩ := cel2 s1f
  obtain ⟨m2, n2, -, -⟩ := cel2 k5nf
  obtain ⟨m3, n3, -, -⟩ := cel2 k12e
  obtain ⟨m4, n4, -, -⟩ := cel2 k7nf
  obtain ⟨m5, n5, -, -⟩ := cel2 s5
  have f1 := fun w => eqRat h1 h2 h1 h2 true (by simp) w
  have f2 := fun w => eqRat u1 u2 u1 u2 true (by simp) w
  have f3 := fun w => eqSq6 v1 v2 v1 v2 true (by simp) w
  have hgA := guardRat
  have hgB := guardSq6
  clear c0 c1 c2 c3 c4 k3nf s1f k5nf k12e k7nf s5
  go_wp2_with fail
  refine (awake6 _ (hT.below (tw hb1 BB))).mono ?_
  rintro e w20 ⟨rfl, hb⟩
  go_wp2
  go_ret
  exact ⟨rfl, tw (tw hb1 BB) hb⟩
end Go.Proofs.YtmjamjpgnbopmaaGreatDoor

/- The law HangSizes: the way 10. -/
namespace Go.Proofs.YtmjamjpgnbopmaaGreatDoor
open Go.RowKit

set_option maxHeartbeats 16000000 in
set_option maxRecDepth 100000 in
theorem lawSizes10 (a b r bar m h1 h2 EH u1 u2 v1 v2 E2 O1 : Int) (w : World) (hT : Tab w)
    (HH : ∀ w, Calls Tryz.prog 23 #[.int .i64 r, .int .i64 bar, .int .i64 m] w fun e w' => e = .returned (.tuple #[.agg #[.int .i64 h1, .int .i64 h2], .int .i64 EH]) ∧ Below w.heap.size w w')
    (HWd : ∀ w, Calls Tryz.prog 24 #[.agg #[.int .i64 a, .int .i64 b], .int .i64 bar, .int .i64 m] w fun e w' => e = .returned (.tuple #[.agg #[.int .i64 u1, .int .i64 u2], .int .i64 E2]) ∧ Below w.heap.size w w')
    (HHt : ∀ w, Calls Tryz.prog 25 #[.agg #[.int .i64 a, .int .i64 b], .int .i64 bar, .int .i64 m] w fun e w' => e = .returned (.tuple #[.agg #[.int .i64 v1, .int .i64 v2], .int .i64 E2]) ∧ Below w.heap.size w w')
    (hf1 : fstE [rngH r 1 60000, netE2 bar m] = O1) (hf2 : fstE [ratH a b, netE2 bar m] = E2)
    (hO : O1 = 0) (RH : ∀ w, Calls Tryz.prog 29 #[.int .i64 r, .int .i64 bar, .int .i64 m] w fun e w' => e = .returned (.tuple #[.agg #[.int .i64 h1, .int .i64 h2], .int .i64 EH]) ∧ Below w.heap.size w w')
    (hE2 : E2 ≠ 0) (hu : u1 = 0 ∧ u2 = 0 ∧ v1 = 0 ∧ v2 = 0) :
    Calls Tryz.prog 4 #[.agg #[.int .i64 a, .int .i64 b, .int .i64 r, .int .i64 bar, .int .i64 m]] w fun e w' => e = .returned (.bool true) ∧ Below w.heap.size w w' := by
  have HU := Lib.hid hu
  have hq2 : (E2 == 0) = false := by rw [beq_eq_false_iff_ne]; exact hE2
  clear hu
  have HF1 := Lib.hid hf1
  have HF2 := Lib.hid hf2
  clear hf1 hf2
  obtain ⟨w1, hw1, k1, hb1, hz1⟩ := boxS w (.cells #[.int .i64 a, .int .i64 b, .int .i64 r, .int .i64 bar, .int .i64 m] 37)
  have Q : ∀ {X : World}, Below w1.heap.size w1 X → X.cell? ⟨w.heap.size, 0, none⟩ = some (.int .i64 a) ∧ X.cell? ⟨w.heap.size, 1, none⟩ = some (.int .i64 b) ∧ X.cell? ⟨w.heap.size, 2, none⟩ = some (.int .i64 r) ∧ X.cell? ⟨w.heap.size, 3, none⟩ = some (.int .i64 bar) ∧ X.cell? ⟨w.heap.size, 4, none⟩ = some (.int .i64 m) := fun h => cel5 (blkT k1 h)
  have B1 := Below.refl w1.heap.size w1
  obtain ⟨c0, c1, c2, c3, c4⟩ := Q B1
  go_enter Tryz.func4, Tryz.ntmps4
  go_wp2_with fail
  refine (HH _).mono ?_
  rintro e w2 ⟨rfl, hb⟩
  obtain ⟨vw2, hvw2, k3, hb', -⟩ := boxS w2 (.cells #[.int .i64 h1, .int .i64 h2] 23)
  replace B1 := tw (tw B1 hb) hb'
  clear hb hb' c0 c1 c2 c3 c4
  obtain ⟨c0, c1, c2, c3, c4⟩ := Q B1
  go_wp2_with fail
  refine (HWd _).mono ?_
  rintro e w3 ⟨rfl, hb⟩
  obtain ⟨vw3, hvw3, k5, hb', -⟩ := boxS w3 (.cells #[.int .i64 u1, .int .i64 u2] 23)
  replace k3 := blkT (blkT k3 hb) hb'
  replace B1 := tw (tw B1 hb) hb'
  clear hb hb' c0 c1 c2 c3 c4
  obtain ⟨c0, c1, c2, c3, c4⟩ := Q B1
  go_wp2_with fail
  refine (HHt _).mono ?_
  rintro e w4 ⟨rfl, hb⟩
  obtain ⟨vw4, hvw4, k7, hb', -⟩ := boxS w4 (.cells #[.int .i64 v1, .int .i64 v2] 25)
  replace k3 := blkT (blkT k3 hb) hb'
  replace k5 := blkT (blkT k5 hb) hb'
  replace B1 := tw (tw B1 hb) hb'
  clear hb hb' c0 c1 c2 c3 c4
  obtain ⟨c0, c1, c2, c3, c4⟩ := Q B1
  have z0 := Nat.lt_of_lt_of_le hz1 B1.size
  go_wp2_with fail
  go_region_held3 (fun X => X.cell? ⟨w.heap.size, 0, none⟩ = some (.int .i64 a) ∧ X.cell? ⟨w.heap.size, 1, none⟩ = some (.int .i64 b) ∧ X.cell? ⟨w.heap.size, 2, none⟩ = some (.int .i64 r) ∧ X.cell? ⟨w.heap.size, 3, none⟩ = some (.int .i64 bar) ∧ X.cell? ⟨w.heap.size, 4, none⟩ = some (.int .i64 m) ∧ X.heap[w2.heap.size]? = some (.cells #[.int .i64 h1, .int .i64 h2] 23 (0, 0)) ∧ X.heap[w3.heap.size]? = some (.cells #[.int .i64 u1, .int .i64 u2] 23 (0, 0)) ∧ X.heap[w4.heap.size]? = some (.cells #[.int .i64 v1, .int .i64 v2] 25 (0, 0)) ∧ Below w1.heap.size w1 X ∧ w.heap.size < X.heap.size)
    (first | exact ⟨c0, c1, c2, c3, c4, k3, k5, k7, B1, z0⟩ | exact ⟨c0, c1, c2, c3, c4, k3, k5, k7, below_drew B1, z0⟩ | exact keepZ (by assumption) (by assumption) | exact keepZ (by assumption) ((Below.refl _ _).alloc (Nat.le_refl _) _) | assumption | exact keepZ (by assumption) (below_drew (Below.refl _ _)) | go_keep)
    (first
      | (go_at_call 27; refine (rfCheckRange _ _ _ _).mono ?_; rintro e w' ⟨rfl, rfl⟩)
      | (go_at_call 28; refine (rfCheckNetting _ _ _).mono ?_; rintro e w' ⟨rfl, hb⟩)
      | (go_at_call 26; refine (rfFirst2 _ _ _ _ 3 _ (by exact newBlk _ _)).mono ?_; rintro e w' ⟨rfl, rfl⟩))
  rename_i hH
  obtain ⟨c0, c1, c2, c3, c4, k3, k5, k7, B1, z0⟩ := hH
  rw [HF1.out]
  go_wp2_with fail
  go_region_held3 (fun X => X.cell? ⟨w.heap.size, 0, none⟩ = some (.int .i64 a) ∧ X.cell? ⟨w.heap.size, 1, none⟩ = some (.int .i64 b) ∧ X.cell? ⟨w.heap.size, 2, none⟩ = some (.int .i64 r) ∧ X.cell? ⟨w.heap.size, 3, none⟩ = some (.int .i64 bar) ∧ X.cell? ⟨w.heap.size, 4, none⟩ = some (.int .i64 m) ∧ X.heap[w2.heap.size]? = some (.cells #[.int .i64 h1, .int .i64 h2] 23 (0, 0)) ∧ X.heap[w3.heap.size]? = some (.cells #[.int .i64 u1, .int .i64 u2] 23 (0, 0)) ∧ X.heap[w4.heap.size]? = some (.cells #[.int .i64 v1, .int .i64 v2] 25 (0, 0)) ∧ Below w1.heap.size w1 X ∧ w.heap.size < X.heap.size)
    (first | exact ⟨c0, c1, c2, c3, c4, k3, k5, k7, B1, z0⟩ | exact ⟨c0, c1, c2, c3, c4, k3, k5, k7, below_drew B1, z0⟩ | exact keepZ (by assumption) (by assumption) | exact keepZ (by assumption) ((Below.refl _ _).alloc (Nat.le_refl _) _) | assumption | exact keepZ (by assumption) (below_drew (Below.refl _ _)) | go_keep)
    (first
      | (go_at_call 16; refine (rfCheckRatio _ _ _).mono ?_; rintro e w' ⟨rfl, hb⟩)
      | (go_at_call 28; refine (rfCheckNetting _ _ _).mono ?_; rintro e w' ⟨rfl, hb⟩)
      | (go_at_call 26; refine (rfFirst2 _ _ _ _ 3 _ (by exact newBlk _ _)).mono ?_; rintro e w' ⟨rfl, rfl⟩))
  rename_i hH
  obtain ⟨c0, c1, c2, c3, c4, k3, k5, k7, B1, z0⟩ := hH
  rw [HF2.out]
  have D0 := B1.size
  have D3 := blkSz k3
  have D5 := blkSz k5
  have D7 := blkSz k7
  obtain ⟨g11, x5, hg11, hx5, k11, hb, y11⟩ := boxB B1 (.cells #[.int .i64 0, .int .i64 0] 23)
  obtain ⟨g12, x6, hg12, hx6, k12, hb', y12⟩ := boxB (Below.refl x5.heap.size x5) (.cells #[.int .i64 0, .int .i64 0] 23)
  obtain ⟨g13, x7, hg13, hx7, k13, hb'', y13⟩ := boxB (Below.refl x6.heap.size x6) (.cells #[.int .i64 0, .int .i64 0] 24)
  replace B1 := tw (tw (tw B1 hb) hb') hb''
  clear c0 c1 c2 c3 c4
  obtain ⟨c0, c1, c2, c3, c4⟩ := Q B1
  replace k3 := blkT (blkT (blkT k3 hb) hb') hb''
  replace k5 := blkT (blkT (blkT k5 hb) hb') hb''
  replace k7 := blkT (blkT (blkT k7 hb) hb') hb''
  replace k11 := blkT (blkT k11 hb') hb''
  replace k12 := blkT k12 hb''
  have i12 : g11 < g12 := by have := hb'.size; omega
  have i13 : g12 < g13 := by have := hb''.size; omega
  have i0 : w1.heap.size ≤ g11 := by rw [← hg11]; exact D0
  have i3 : w2.heap.size < g11 := by rw [← hg11]; exact D3
  have i5 : w3.heap.size < g11 := by rw [← hg11]; exact D5
  have i7 : w4.heap.size < g11 := by rw [← hg11]; exact D7
  clear hb hb' hb'' y11 y12 y13 z0
  have zz := hz1
  go_wp2_with fail
  refine (RH _).mono ?_
  rintro e w8 ⟨rfl, hb⟩
  replace B1 := tw B1 hb
  replace k3 := blkT k3 hb
  replace k5 := blkT k5 hb
  replace k7 := blkT k7 hb
  replace k11 := blkT k11 hb
  replace k12 := blkT k12 hb
  replace k13 := blkT k13 hb
  clear hb c0 c1 c2 c3 c4
  obtain ⟨q0, q1, q2, q3⟩ := cel2 k11
  obtain ⟨s1, s2⟩ := set2 k11 (.int .i64 h1) (.int .i64 h2)
  have l3 := blkSz k3
  have k3n := (s2.block _ (blkSz k3) (by intro e; injection e with e; omega)).trans k3
  have k5n := (s2.block _ (blkSz k5) (by intro e; injection e with e; omega)).trans k5
  have k7n := (s2.block _ (blkSz k7) (by intro e; injection e with e; omega)).trans k7
  have k12n := (s2.block _ (blkSz k12) (by intro e; injection e with e; omega)).trans k12
  have k13n := (s2.block _ (blkSz k13) (by intro e; injection e with e; omega)).trans k13
  replace B1 := B1.grown s2 B1.size (fun j e => by cases e; exact i0)
  clear k3 k5 k7 k11 k12 k13
  obtain ⟨c0, c1, c2, c3, c4⟩ := Q B1
  have BB := B1
  obtain ⟨m0, n0, -, -⟩ := cel2 k3n
  obtain ⟨m1, n1, -, -⟩ := cel2 s1
  obtain ⟨m2, n2, -, -⟩ := cel2 k5n
  obtain ⟨m3, n3, -, -⟩ := cel2 k12n
  obtain ⟨m4, n4, -, -⟩ := cel2 k7n
  obtain ⟨m5, n5, -, -⟩ := cel2 k13n
  have f1 := fun w => eqRat h1 h2 h1 h2 true (by simp) w
  have f2 := fun w => eqRat u1 u2 0 0 true (by simp [HU.out.1, HU.out.2.1]) w
  have f3 := fun w => eqSq6 v1 v2 0 0 true (by simp [HU.out.2.2.1, HU.out.2.2.2]) w
  have hgA := guardRat
  have hgB := guardSq6
  clear c0 c1 c2 c3 c4 k3n s1 k5n k12n k7n k13n
  go_wp2_with fail
  refine (awake6 _ (hT.below (tw hb1 BB))).mono ?_
  rintro e w20 ⟨rfl, hb⟩
  go_wp2
  go_ret
  exact ⟨rfl, tw (tw hb1 BB) hb⟩
end Go.Proofs.YtmjamjpgnbopmaaGreatDoor

/- The law HangSizes: the way 01. -/
namespace Go.Proofs.YtmjamjpgnbopmaaGreatDoor
open Go.RowKit

set_option maxHeartbeats 16000000 in
set_option maxRecDepth 100000 in
theorem lawSizes01 (a b r bar m h1 h2 EH u1 u2 v1 v2 E2 O1 : Int) (w : World) (hT : Tab w)
    (HH : ∀ w, Calls Tryz.prog 23 #[.int .i64 r, .int .i64 bar, .int .i64 m] w fun e w' => e = .returned (.tuple #[.agg #[.int .i64 h1, .int .i64 h2], .int .i64 EH]) ∧ Below w.heap.size w w')
    (HWd : ∀ w, Calls Tryz.prog 24 #[.agg #[.int .i64 a, .int .i64 b], .int .i64 bar, .int .i64 m] w fun e w' => e = .returned (.tuple #[.agg #[.int .i64 u1, .int .i64 u2], .int .i64 E2]) ∧ Below w.heap.size w w')
    (HHt : ∀ w, Calls Tryz.prog 25 #[.agg #[.int .i64 a, .int .i64 b], .int .i64 bar, .int .i64 m] w fun e w' => e = .returned (.tuple #[.agg #[.int .i64 v1, .int .i64 v2], .int .i64 E2]) ∧ Below w.heap.size w w')
    (hf1 : fstE [rngH r 1 60000, netE2 bar m] = O1) (hf2 : fstE [ratH a b, netE2 bar m] = E2)
    (hO : O1 ≠ 0) (hh : h1 = 0 ∧ h2 = 0 ∧ EH = O1)
    (hE2 : E2 = 0) (RW : ∀ w, Calls Tryz.prog 30 #[.agg #[.int .i64 a, .int .i64 b], .int .i64 bar, .int .i64 m] w fun e w' => e = .returned (.agg #[.int .i64 u1, .int .i64 u2]) ∧ Below w.heap.size w w')
    (RT : ∀ w, Calls Tryz.prog 31 #[.agg #[.int .i64 a, .int .i64 b], .int .i64 bar, .int .i64 m] w fun e w' => e = .returned (.agg #[.int .i64 v1, .int .i64 v2]) ∧ Below w.heap.size w w') :
    Calls Tryz.prog 4 #[.agg #[.int .i64 a, .int .i64 b, .int .i64 r, .int .i64 bar, .int .i64 m]] w fun e w' => e = .returned (.bool true) ∧ Below w.heap.size w w' := by
  obtain ⟨ha1, ha2, hEH⟩ := hh
  subst hEH
  have HA1 := Lib.hid ha1
  have HA2 := Lib.hid ha2
  have hq1 : (EH == 0) = false := by rw [beq_eq_false_iff_ne]; exact hO
  clear ha1 ha2
  have HF1 := Lib.hid hf1
  have HF2 := Lib.hid hf2
  clear hf1 hf2
  obtain ⟨w1, hw1, k1, hb1, hz1⟩ := boxS w (.cells #[.int .i64 a, .int .i64 b, .int .i64 r, .int .i64 bar, .int .i64 m] 37)
  have Q : ∀ {X : World}, Below w1.heap.size w1 X → X.cell? ⟨w.heap.size, 0, none⟩ = some (.int .i64 a) ∧ X.cell? ⟨w.heap.size, 1, none⟩ = some (.int .i64 b) ∧ X.cell? ⟨w.heap.size, 2, none⟩ = some (.int .i64 r) ∧ X.cell? ⟨w.heap.size, 3, none⟩ = some (.int .i64 bar) ∧ X.cell? ⟨w.heap.size, 4, none⟩ = some (.int .i64 m) := fun h => cel5 (blkT k1 h)
  have B1 := Below.refl w1.heap.size w1
  obtain ⟨c0, c1, c2, c3, c4⟩ := Q B1
  go_enter Tryz.func4, Tryz.ntmps4
  go_wp2_with fail
  refine (HH _).mono ?_
  rintro e w2 ⟨rfl, hb⟩
  obtain ⟨vw2, hvw2, k3, hb', -⟩ := boxS w2 (.cells #[.int .i64 h1, .int .i64 h2] 23)
  replace B1 := tw (tw B1 hb) hb'
  clear hb hb' c0 c1 c2 c3 c4
  obtain ⟨c0, c1, c2, c3, c4⟩ := Q B1
  go_wp2_with fail
  refine (HWd _).mono ?_
  rintro e w3 ⟨rfl, hb⟩
  obtain ⟨vw3, hvw3, k5, hb', -⟩ := boxS w3 (.cells #[.int .i64 u1, .int .i64 u2] 23)
  replace k3 := blkT (blkT k3 hb) hb'
  replace B1 := tw (tw B1 hb) hb'
  clear hb hb' c0 c1 c2 c3 c4
  obtain ⟨c0, c1, c2, c3, c4⟩ := Q B1
  go_wp2_with fail
  refine (HHt _).mono ?_
  rintro e w4 ⟨rfl, hb⟩
  obtain ⟨vw4, hvw4, k7, hb', -⟩ := boxS w4 (.cells #[.int .i64 v1, .int .i64 v2] 25)
  replace k3 := blkT (blkT k3 hb) hb'
  replace k5 := blkT (blkT k5 hb) hb'
  replace B1 := tw (tw B1 hb) hb'
  clear hb hb' c0 c1 c2 c3 c4
  obtain ⟨c0, c1, c2, c3, c4⟩ := Q B1
  have z0 := Nat.lt_of_lt_of_le hz1 B1.size
  go_wp2_with fail
  go_region_held3 (fun X => X.cell? ⟨w.heap.size, 0, none⟩ = some (.int .i64 a) ∧ X.cell? ⟨w.heap.size, 1, none⟩ = some (.int .i64 b) ∧ X.cell? ⟨w.heap.size, 2, none⟩ = some (.int .i64 r) ∧ X.cell? ⟨w.heap.size, 3, none⟩ = some (.int .i64 bar) ∧ X.cell? ⟨w.heap.size, 4, none⟩ = some (.int .i64 m) ∧ X.heap[w2.heap.size]? = some (.cells #[.int .i64 h1, .int .i64 h2] 23 (0, 0)) ∧ X.heap[w3.heap.size]? = some (.cells #[.int .i64 u1, .int .i64 u2] 23 (0, 0)) ∧ X.heap[w4.heap.size]? = some (.cells #[.int .i64 v1, .int .i64 v2] 25 (0, 0)) ∧ Below w1.heap.size w1 X ∧ w.heap.size < X.heap.size)
    (first | exact ⟨c0, c1, c2, c3, c4, k3, k5, k7, B1, z0⟩ | exact ⟨c0, c1, c2, c3, c4, k3, k5, k7, below_drew B1, z0⟩ | exact keepZ (by assumption) (by assumption) | exact keepZ (by assumption) ((Below.refl _ _).alloc (Nat.le_refl _) _) | assumption | exact keepZ (by assumption) (below_drew (Below.refl _ _)) | go_keep)
    (first
      | (go_at_call 27; refine (rfCheckRange _ _ _ _).mono ?_; rintro e w' ⟨rfl, rfl⟩)
      | (go_at_call 28; refine (rfCheckNetting _ _ _).mono ?_; rintro e w' ⟨rfl, hb⟩)
      | (go_at_call 26; refine (rfFirst2 _ _ _ _ 3 _ (by exact newBlk _ _)).mono ?_; rintro e w' ⟨rfl, rfl⟩))
  rename_i hH
  obtain ⟨c0, c1, c2, c3, c4, k3, k5, k7, B1, z0⟩ := hH
  rw [HF1.out]
  go_wp2_with fail
  go_region_held3 (fun X => X.cell? ⟨w.heap.size, 0, none⟩ = some (.int .i64 a) ∧ X.cell? ⟨w.heap.size, 1, none⟩ = some (.int .i64 b) ∧ X.cell? ⟨w.heap.size, 2, none⟩ = some (.int .i64 r) ∧ X.cell? ⟨w.heap.size, 3, none⟩ = some (.int .i64 bar) ∧ X.cell? ⟨w.heap.size, 4, none⟩ = some (.int .i64 m) ∧ X.heap[w2.heap.size]? = some (.cells #[.int .i64 h1, .int .i64 h2] 23 (0, 0)) ∧ X.heap[w3.heap.size]? = some (.cells #[.int .i64 u1, .int .i64 u2] 23 (0, 0)) ∧ X.heap[w4.heap.size]? = some (.cells #[.int .i64 v1, .int .i64 v2] 25 (0, 0)) ∧ Below w1.heap.size w1 X ∧ w.heap.size < X.heap.size)
    (first | exact ⟨c0, c1, c2, c3, c4, k3, k5, k7, B1, z0⟩ | exact ⟨c0, c1, c2, c3, c4, k3, k5, k7, below_drew B1, z0⟩ | exact keepZ (by assumption) (by assumption) | exact keepZ (by assumption) ((Below.refl _ _).alloc (Nat.le_refl _) _) | assumption | exact keepZ (by assumption) (below_drew (Below.refl _ _)) | go_keep)
    (first
      | (go_at_call 16; refine (rfCheckRatio _ _ _).mono ?_; rintro e w' ⟨rfl, hb⟩)
      | (go_at_call 28; refine (rfCheckNetting _ _ _).mono ?_; rintro e w' ⟨rfl, hb⟩)
      | (go_at_call 26; refine (rfFirst2 _ _ _ _ 3 _ (by exact newBlk _ _)).mono ?_; rintro e w' ⟨rfl, rfl⟩))
  rename_i hH
  obtain ⟨c0, c1, c2, c3, c4, k3, k5, k7, B1, z0⟩ := hH
  rw [HF2.out]
  have D0 := B1.size
  have D3 := blkSz k3
  have D5 := blkSz k5
  have D7 := blkSz k7
  obtain ⟨g11, x5, hg11, hx5, k11, hb, y11⟩ := boxB B1 (.cells #[.int .i64 0, .int .i64 0] 23)
  obtain ⟨g12, x6, hg12, hx6, k12, hb', y12⟩ := boxB (Below.refl x5.heap.size x5) (.cells #[.int .i64 0, .int .i64 0] 23)
  obtain ⟨g13, x7, hg13, hx7, k13, hb'', y13⟩ := boxB (Below.refl x6.heap.size x6) (.cells #[.int .i64 0, .int .i64 0] 24)
  replace B1 := tw (tw (tw B1 hb) hb') hb''
  clear c0 c1 c2 c3 c4
  obtain ⟨c0, c1, c2, c3, c4⟩ := Q B1
  replace k3 := blkT (blkT (blkT k3 hb) hb') hb''
  replace k5 := blkT (blkT (blkT k5 hb) hb') hb''
  replace k7 := blkT (blkT (blkT k7 hb) hb') hb''
  replace k11 := blkT (blkT k11 hb') hb''
  replace k12 := blkT k12 hb''
  have i12 : g11 < g12 := by have := hb'.size; omega
  have i13 : g12 < g13 := by have := hb''.size; omega
  have i0 : w1.heap.size ≤ g11 := by rw [← hg11]; exact D0
  have i3 : w2.heap.size < g11 := by rw [← hg11]; exact D3
  have i5 : w3.heap.size < g11 := by rw [← hg11]; exact D5
  have i7 : w4.heap.size < g11 := by rw [← hg11]; exact D7
  clear hb hb' hb'' y11 y12 y13 z0
  have zz := hz1
  go_wp2_with fail
  have k3n := k3
  have k5n := k5
  have k7n := k7
  have k12n := k12
  have k13n := k13
  have s1 := k11
  have hn6 : g12 ≤ x7.heap.size := Nat.le_of_lt (blkSz k12n)
  have zz2 : w.heap.size < g12 := by omega
  have Q2 : ∀ {X : World}, Below g12 x7 X → X.cell? ⟨w.heap.size, 0, none⟩ = some (.int .i64 a) ∧ X.cell? ⟨w.heap.size, 1, none⟩ = some (.int .i64 b) ∧ X.cell? ⟨w.heap.size, 2, none⟩ = some (.int .i64 r) ∧ X.cell? ⟨w.heap.size, 3, none⟩ = some (.int .i64 bar) ∧ X.cell? ⟨w.heap.size, 4, none⟩ = some (.int .i64 m) := fun h => ⟨(h.cell (p := ⟨_, 0, none⟩) zz2).trans c0, (h.cell (p := ⟨_, 1, none⟩) zz2).trans c1, (h.cell (p := ⟨_, 2, none⟩) zz2).trans c2, (h.cell (p := ⟨_, 3, none⟩) zz2).trans c3, (h.cell (p := ⟨_, 4, none⟩) zz2).trans c4⟩
  refine wp_region_held_drew (S := (fun X => Below g12 x7 X)) (by kernel_rfl) ?_ (fun hHeld => ?_)
  · exact below_drew (Below.refl _ _)
  refine wpAnyH_take (i := 0) (oi := _) (v := ?vc010) rfl (by kernel_rfl) (by kernel_rfl) (by kernel_rfl) (fun _ _ _ h => h) (Or.inl ⟨by rfl, ?hyc010⟩) (by assumption) ?restc010
  case hyc010 => (intro w hSw; (try dsimp only at hSw); go_simp; first | done | rfl)
  try simp only [layAH]
  refine wpAnyH_take (i := 1) (oi := _) (v := ?vc011) rfl (by kernel_rfl) (by kernel_rfl) (by kernel_rfl) (fun _ _ _ h => h) (Or.inl ⟨by rfl, ?hyc011⟩) (by assumption) ?restc011
  case hyc011 => (intro w hSw; (try dsimp only at hSw); obtain ⟨c0, c1, c2, c3, c4⟩ := Q2 hSw; go_simp; first | done | rfl)
  try simp only [layAH]
  refine wpAnyH_take (i := 2) (oi := _) (v := ?vc012) rfl (by kernel_rfl) (by kernel_rfl) (by kernel_rfl) (fun _ _ _ h => h) (Or.inl ⟨by rfl, ?hyc012⟩) (by assumption) ?restc012
  case hyc012 => (intro w hSw; (try dsimp only at hSw); go_simp; first | done | rfl)
  try simp only [layAH]
  refine wpAnyH_take (i := 3) (oi := _) (v := ?vc013) rfl (by kernel_rfl) (by kernel_rfl) (by kernel_rfl) (fun _ _ _ h => h) (Or.inl ⟨by rfl, ?hyc013⟩) (by assumption) ?restc013
  case hyc013 => (intro w hSw; (try dsimp only at hSw); obtain ⟨c0, c1, c2, c3, c4⟩ := Q2 hSw; go_simp; first | done | rfl)
  try simp only [layAH]
  refine wpAnyH_take (i := 4) (oi := _) (v := ?vc014) rfl (by kernel_rfl) (by kernel_rfl) (by kernel_rfl) (fun _ _ _ h => h) (Or.inl ⟨by rfl, ?hyc014⟩) (by assumption) ?restc014
  case hyc014 => (intro w hSw; (try dsimp only at hSw); go_simp; first | done | rfl)
  try simp only [layAH]
  refine wpAnyH_take (i := 5) (oi := _) (v := ?vc015) rfl (by kernel_rfl) (by kernel_rfl) (by kernel_rfl) (fun _ _ _ h => h) (Or.inl ⟨by rfl, ?hyc015⟩) (by assumption) ?restc015
  case hyc015 => (intro w hSw; (try dsimp only at hSw); obtain ⟨c0, c1, c2, c3, c4⟩ := Q2 hSw; go_simp; first | done | rfl)
  try simp only [layAH]
  refine wpAnyH_take (i := 7) (oi := _) (v := ?vc017) rfl (by kernel_rfl) (by kernel_rfl) (by kernel_rfl) (fun _ _ _ h => h) (Or.inl ⟨by rfl, ?hyc017⟩) (by assumption) ?restc017
  case hyc017 => (intro w hSw; (try dsimp only at hSw); go_simp; first | done | rfl)
  try simp only [layAH]
  refine wpAnyH_take (i := 8) (oi := _) (v := ?vc018) rfl (by kernel_rfl) (by kernel_rfl) (by kernel_rfl) (fun _ _ _ h => h) (Or.inl ⟨by rfl, ?hyc018⟩) (by assumption) ?restc018
  case hyc018 => (intro w hSw; (try dsimp only at hSw); obtain ⟨c0, c1, c2, c3, c4⟩ := Q2 hSw; go_simp; first | done | rfl)
  try simp only [layAH]
  refine wpAnyH_take (i := 9) (oi := _) (v := ?vc019) rfl (by kernel_rfl) (by kernel_rfl) (by kernel_rfl) (fun _ _ _ h => h) (Or.inl ⟨by rfl, ?hyc019⟩) (by assumption) ?restc019
  case hyc019 => (intro w hSw; (try dsimp only at hSw); go_simp; first | done | rfl)
  try simp only [layAH]
  refine wpAnyH_take (i := 10) (oi := _) (v := ?vc0110) rfl (by kernel_rfl) (by kernel_rfl) (by kernel_rfl) (fun _ _ _ h => h) (Or.inl ⟨by rfl, ?hyc0110⟩) (by assumption) ?restc0110
  case hyc0110 => (intro w hSw; (try dsimp only at hSw); obtain ⟨c0, c1, c2, c3, c4⟩ := Q2 hSw; go_simp; first | done | rfl)
  try simp only [layAH]
  refine wpAnyH_take (i := 11) (oi := _) (v := ?vc0111) rfl (by kernel_rfl) (by kernel_rfl) (by kernel_rfl) (fun _ _ _ h => h) (Or.inl ⟨by rfl, ?hyc0111⟩) (by assumption) ?restc0111
  case hyc0111 => (intro w hSw; (try dsimp only at hSw); go_simp; first | done | rfl)
  try simp only [layAH]
  refine wpAnyH_take (i := 12) (oi := _) (v := ?vc0112) rfl (by kernel_rfl) (by kernel_rfl) (by kernel_rfl) (fun _ _ _ h => h) (Or.inl ⟨by rfl, ?hyc0112⟩) (by assumption) ?restc0112
  case hyc0112 => (intro w hSw; (try dsimp only at hSw); obtain ⟨c0, c1, c2, c3, c4⟩ := Q2 hSw; go_simp; first | done | rfl)
  try simp only [layAH]
  refine wpAnyH_ready (rs := [6]) (by kernel_rfl) (by simp) ?_
  refine AllReadyH.cons (o := _) rfl (fun K hK => ?_) AllReadyH.nil
  simp only [layGH]
  go_simp
  obtain ⟨c0, c1, c2, c3, c4⟩ := Q2 hHeld
  refine (RW _).mono ?_
  rintro e w10 ⟨rfl, hbq⟩
  have k12b := blkT (show (World.drew x7).heap[g12]? = _ from k12n) hbq
  have k13b := blkT (show (World.drew x7).heap[g13]? = _ from k13n) hbq
  refine hK.out _ _ (by first | exact HST | exact hbS (by assumption) hn6 hbq) (fun hHeld => ?_)
  clear hK K
  try simp only [layAH]
  refine wpAnyH_ready (rs := [13]) (by kernel_rfl) (by simp) ?_
  refine AllReadyH.cons (o := _) rfl (fun K hK => ?_) AllReadyH.nil
  simp only [layGH]
  go_simp
  refine (RT _).mono ?_
  rintro e w11 ⟨rfl, hbq⟩
  have k12c := blkT k12b hbq
  have k13c := blkT k13b hbq
  obtain ⟨q0, q1, q2, q3⟩ := cel2 k12c
  refine hK.out _ _ (by first | exact HST | exact hbS (by assumption) hn6 hbq) (fun hHeld => ?_)
  clear hK K
  try simp only [layAH]
  refine wpAnyH_ready (rs := [14]) (by kernel_rfl) (by simp) ?_
  refine AllReadyH.cons (o := _) rfl (fun K hK => ?_) AllReadyH.nil
  simp only [layGH]
  go_simp
  obtain ⟨s3, s4⟩ := set2 k12c (.int .i64 u1) (.int .i64 u2)
  have HST : Below g12 x7 _ := hHeld.grown s4 (Nat.le_trans hn6 hHeld.size) (fun j e => by cases e; exact Nat.le_refl _)
  have k13d := (s4.block _ (blkSz k13c) (by intro e; injection e with e; omega)).trans k13c
  generalize (w11.setCell ⟨g12, 0, none⟩ (.int .i64 u1)).setCell ⟨g12, 1, none⟩ (.int .i64 u2) = w12 at s3 s4 HST k13d ⊢
  clear q0 q1 q2 q3
  obtain ⟨q0, q1, q2, q3⟩ := cel2 k13d
  refine hK.out _ _ (by first | exact HST | exact hbS (by assumption) hn6 hbq) (fun hHeld => ?_)
  clear hK K
  try simp only [layAH]
  refine wpAnyH_ready (rs := [15]) (by kernel_rfl) (by simp) ?_
  refine AllReadyH.cons (o := _) rfl (fun K hK => ?_) AllReadyH.nil
  simp only [layGH]
  go_simp
  obtain ⟨s5, s6⟩ := set2 k13d (.int .i64 v1) (.int .i64 v2)
  have HST : Below g12 x7 _ := hHeld.grown s6 (Nat.le_trans hn6 hHeld.size) (fun j e => by cases e; exact Nat.le_of_lt i13)
  have k12e := (s6.block _ (blkSz s3) (by intro e; injection e with e; omega)).trans s3
  generalize (w12.setCell ⟨g13, 0, none⟩ (.int .i64 v1)).setCell ⟨g13, 1, none⟩ (.int .i64 v2) = w13 at s5 s6 HST k12e ⊢
  refine hK.out _ _ (by first | exact HST | exact hbS (by assumption) hn6 hbq) (fun hHeld => ?_)
  clear hK K
  try simp only [layAH]
  refine wpAnyH_done (by kernel_rfl) ?_ _
  have BB := B1.trans (hHeld.mono (by omega))
  have k3nf := (hHeld.block _ (by omega)).trans k3n
  have k5nf := (hHeld.block _ (by omega)).trans k5n
  have k7nf := (hHeld.block _ (by omega)).trans k7n
  have s1f := (hHeld.block _ i12).trans s1
  clear HST hHeld Q2 k12b k13b k12c k13c k13d
  obtain ⟨m0, n0, -, -⟩ := cel2 k3nf
  obtain ⟨m1, n1, -, -⟩ := cel2 s1f
  obtain ⟨m2, n2, -, -⟩ := cel2 k5nf
  obtain ⟨m3, n3, -, -⟩ := cel2 k12e
  obtain ⟨m4, n4, -, -⟩ := cel2 k7nf
  obtain ⟨m5, n5, -, -⟩ := cel2 s5
  have f1 := fun w => eqRat h1 h2 0 0 true (by simp [HA1.out, HA2.out]) w
  have f2 := fun w => eqRat u1 u2 u1 u2 true (by simp) w
  have f3 := fun w => eqSq6 v1 v2 v1 v2 true (by simp) w
  have hgA := guardRat
  have hgB := guardSq6
  clear c0 c1 c2 c3 c4 k3nf s1f k5nf k12e k7nf s5
  go_wp2_with fail
  refine (awake6 _ (hT.below (tw hb1 BB))).mono ?_
  rintro e w20 ⟨rfl, hb⟩
  go_wp2
  go_ret
  exact ⟨rfl, tw (tw hb1 BB) hb⟩
end Go.Proofs.YtmjamjpgnbopmaaGreatDoor

/- The law HangSizes: the way 00. -/
namespace Go.Proofs.YtmjamjpgnbopmaaGreatDoor
open Go.RowKit

set_option maxHeartbeats 16000000 in
set_option maxRecDepth 100000 in
theorem lawSizes00 (a b r bar m h1 h2 EH u1 u2 v1 v2 E2 O1 : Int) (w : World) (hT : Tab w)
    (HH : ∀ w, Calls Tryz.prog 23 #[.int .i64 r, .int .i64 bar, .int .i64 m] w fun e w' => e = .returned (.tuple #[.agg #[.int .i64 h1, .int .i64 h2], .int .i64 EH]) ∧ Below w.heap.size w w')
    (HWd : ∀ w, Calls Tryz.prog 24 #[.agg #[.int .i64 a, .int .i64 b], .int .i64 bar, .int .i64 m] w fun e w' => e = .returned (.tuple #[.agg #[.int .i64 u1, .int .i64 u2], .int .i64 E2]) ∧ Below w.heap.size w w')
    (HHt : ∀ w, Calls Tryz.prog 25 #[.agg #[.int .i64 a, .int .i64 b], .int .i64 bar, .int .i64 m] w fun e w' => e = .returned (.tuple #[.agg #[.int .i64 v1, .int .i64 v2], .int .i64 E2]) ∧ Below w.heap.size w w')
    (hf1 : fstE [rngH r 1 60000, netE2 bar m] = O1) (hf2 : fstE [ratH a b, netE2 bar m] = E2)
    (hO : O1 ≠ 0) (hh : h1 = 0 ∧ h2 = 0 ∧ EH = O1)
    (hE2 : E2 ≠ 0) (hu : u1 = 0 ∧ u2 = 0 ∧ v1 = 0 ∧ v2 = 0) :
    Calls Tryz.prog 4 #[.agg #[.int .i64 a, .int .i64 b, .int .i64 r, .int .i64 bar, .int .i64 m]] w fun e w' => e = .returned (.bool true) ∧ Below w.heap.size w w' := by
  obtain ⟨ha1, ha2, hEH⟩ := hh
  subst hEH
  have HA1 := Lib.hid ha1
  have HA2 := Lib.hid ha2
  have hq1 : (EH == 0) = false := by rw [beq_eq_false_iff_ne]; exact hO
  clear ha1 ha2
  have HU := Lib.hid hu
  have hq2 : (E2 == 0) = false := by rw [beq_eq_false_iff_ne]; exact hE2
  clear hu
  have HF1 := Lib.hid hf1
  have HF2 := Lib.hid hf2
  clear hf1 hf2
  obtain ⟨w1, hw1, k1, hb1, hz1⟩ := boxS w (.cells #[.int .i64 a, .int .i64 b, .int .i64 r, .int .i64 bar, .int .i64 m] 37)
  have Q : ∀ {X : World}, Below w1.heap.size w1 X → X.cell? ⟨w.heap.size, 0, none⟩ = some (.int .i64 a) ∧ X.cell? ⟨w.heap.size, 1, none⟩ = some (.int .i64 b) ∧ X.cell? ⟨w.heap.size, 2, none⟩ = some (.int .i64 r) ∧ X.cell? ⟨w.heap.size, 3, none⟩ = some (.int .i64 bar) ∧ X.cell? ⟨w.heap.size, 4, none⟩ = some (.int .i64 m) := fun h => cel5 (blkT k1 h)
  have B1 := Below.refl w1.heap.size w1
  obtain ⟨c0, c1, c2, c3, c4⟩ := Q B1
  go_enter Tryz.func4, Tryz.ntmps4
  go_wp2_with fail
  refine (HH _).mono ?_
  rintro e w2 ⟨rfl, hb⟩
  obtain ⟨vw2, hvw2, k3, hb', -⟩ := boxS w2 (.cells #[.int .i64 h1, .int .i64 h2] 23)
  replace B1 := tw (tw B1 hb) hb'
  clear hb hb' c0 c1 c2 c3 c4
  obtain ⟨c0, c1, c2, c3, c4⟩ := Q B1
  go_wp2_with fail
  refine (HWd _).mono ?_
  rintro e w3 ⟨rfl, hb⟩
  obtain ⟨vw3, hvw3, k5, hb', -⟩ := boxS w3 (.cells #[.int .i64 u1, .int .i64 u2] 23)
  replace k3 := blkT (blkT k3 hb) hb'
  replace B1 := tw (tw B1 hb) hb'
  clear hb hb' c0 c1 c2 c3 c4
  obtain ⟨c0, c1, c2, c3, c4⟩ := Q B1
  go_wp2_with fail
  refine (HHt _).mono ?_
  rintro e w4 ⟨rfl, hb⟩
  obtain ⟨vw4, hvw4, k7, hb', -⟩ := boxS w4 (.cells #[.int .i64 v1, .int .i64 v2] 25)
  replace k3 := blkT (blkT k3 hb) hb'
  replace k5 := blkT (blkT k5 hb) hb'
  replace B1 := tw (tw B1 hb) hb'
  clear hb hb' c0 c1 c2 c3 c4
  obtain ⟨c0, c1, c2, c3, c4⟩ := Q B1
  have z0 := Nat.lt_of_lt_of_le hz1 B1.size
  go_wp2_with fail
  go_region_held3 (fun X => X.cell? ⟨w.heap.size, 0, none⟩ = some (.int .i64 a) ∧ X.cell? ⟨w.heap.size, 1, none⟩ = some (.int .i64 b) ∧ X.cell? ⟨w.heap.size, 2, none⟩ = some (.int .i64 r) ∧ X.cell? ⟨w.heap.size, 3, none⟩ = some (.int .i64 bar) ∧ X.cell? ⟨w.heap.size, 4, none⟩ = some (.int .i64 m) ∧ X.heap[w2.heap.size]? = some (.cells #[.int .i64 h1, .int .i64 h2] 23 (0, 0)) ∧ X.heap[w3.heap.size]? = some (.cells #[.int .i64 u1, .int .i64 u2] 23 (0, 0)) ∧ X.heap[w4.heap.size]? = some (.cells #[.int .i64 v1, .int .i64 v2] 25 (0, 0)) ∧ Below w1.heap.size w1 X ∧ w.heap.size < X.heap.size)
    (first | exact ⟨c0, c1, c2, c3, c4, k3, k5, k7, B1, z0⟩ | exact ⟨c0, c1, c2, c3, c4, k3, k5, k7, below_drew B1, z0⟩ | exact keepZ (by assumption) (by assumption) | exact keepZ (by assumption) ((Below.refl _ _).alloc (Nat.le_refl _) _) | assumption | exact keepZ (by assumption) (below_drew (Below.refl _ _)) | go_keep)
    (first
      | (go_at_call 27; refine (rfCheckRange _ _ _ _).mono ?_; rintro e w' ⟨rfl, rfl⟩)
      | (go_at_call 28; refine (rfCheckNetting _ _ _).mono ?_; rintro e w' ⟨rfl, hb⟩)
      | (go_at_call 26; refine (rfFirst2 _ _ _ _ 3 _ (by exact newBlk _ _)).mono ?_; rintro e w' ⟨rfl, rfl⟩))
  rename_i hH
  obtain ⟨c0, c1, c2, c3, c4, k3, k5, k7, B1, z0⟩ := hH
  rw [HF1.out]
  go_wp2_with fail
  go_region_held3 (fun X => X.cell? ⟨w.heap.size, 0, none⟩ = some (.int .i64 a) ∧ X.cell? ⟨w.heap.size, 1, none⟩ = some (.int .i64 b) ∧ X.cell? ⟨w.heap.size, 2, none⟩ = some (.int .i64 r) ∧ X.cell? ⟨w.heap.size, 3, none⟩ = some (.int .i64 bar) ∧ X.cell? ⟨w.heap.size, 4, none⟩ = some (.int .i64 m) ∧ X.heap[w2.heap.size]? = some (.cells #[.int .i64 h1, .int .i64 h2] 23 (0, 0)) ∧ X.heap[w3.heap.size]? = some (.cells #[.int .i64 u1, .int .i64 u2] 23 (0, 0)) ∧ X.heap[w4.heap.size]? = some (.cells #[.int .i64 v1, .int .i64 v2] 25 (0, 0)) ∧ Below w1.heap.size w1 X ∧ w.heap.size < X.heap.size)
    (first | exact ⟨c0, c1, c2, c3, c4, k3, k5, k7, B1, z0⟩ | exact ⟨c0, c1, c2, c3, c4, k3, k5, k7, below_drew B1, z0⟩ | exact keepZ (by assumption) (by assumption) | exact keepZ (by assumption) ((Below.refl _ _).alloc (Nat.le_refl _) _) | assumption | exact keepZ (by assumption) (below_drew (Below.refl _ _)) | go_keep)
    (first
      | (go_at_call 16; refine (rfCheckRatio _ _ _).mono ?_; rintro e w' ⟨rfl, hb⟩)
      | (go_at_call 28; refine (rfCheckNetting _ _ _).mono ?_; rintro e w' ⟨rfl, hb⟩)
      | (go_at_call 26; refine (rfFirst2 _ _ _ _ 3 _ (by exact newBlk _ _)).mono ?_; rintro e w' ⟨rfl, rfl⟩))
  rename_i hH
  obtain ⟨c0, c1, c2, c3, c4, k3, k5, k7, B1, z0⟩ := hH
  rw [HF2.out]
  have D0 := B1.size
  have D3 := blkSz k3
  have D5 := blkSz k5
  have D7 := blkSz k7
  obtain ⟨g11, x5, hg11, hx5, k11, hb, y11⟩ := boxB B1 (.cells #[.int .i64 0, .int .i64 0] 23)
  obtain ⟨g12, x6, hg12, hx6, k12, hb', y12⟩ := boxB (Below.refl x5.heap.size x5) (.cells #[.int .i64 0, .int .i64 0] 23)
  obtain ⟨g13, x7, hg13, hx7, k13, hb'', y13⟩ := boxB (Below.refl x6.heap.size x6) (.cells #[.int .i64 0, .int .i64 0] 24)
  replace B1 := tw (tw (tw B1 hb) hb') hb''
  clear c0 c1 c2 c3 c4
  obtain ⟨c0, c1, c2, c3, c4⟩ := Q B1
  replace k3 := blkT (blkT (blkT k3 hb) hb') hb''
  replace k5 := blkT (blkT (blkT k5 hb) hb') hb''
  replace k7 := blkT (blkT (blkT k7 hb) hb') hb''
  replace k11 := blkT (blkT k11 hb') hb''
  replace k12 := blkT k12 hb''
  have i12 : g11 < g12 := by have := hb'.size; omega
  have i13 : g12 < g13 := by have := hb''.size; omega
  have i0 : w1.heap.size ≤ g11 := by rw [← hg11]; exact D0
  have i3 : w2.heap.size < g11 := by rw [← hg11]; exact D3
  have i5 : w3.heap.size < g11 := by rw [← hg11]; exact D5
  have i7 : w4.heap.size < g11 := by rw [← hg11]; exact D7
  clear hb hb' hb'' y11 y12 y13 z0
  have zz := hz1
  have k3n := k3
  have k5n := k5
  have k7n := k7
  have k12n := k12
  have k13n := k13
  have s1 := k11
  have BB := B1
  obtain ⟨m0, n0, -, -⟩ := cel2 k3n
  obtain ⟨m1, n1, -, -⟩ := cel2 s1
  obtain ⟨m2, n2, -, -⟩ := cel2 k5n
  obtain ⟨m3, n3, -, -⟩ := cel2 k12n
  obtain ⟨m4, n4, -, -⟩ := cel2 k7n
  obtain ⟨m5, n5, -, -⟩ := cel2 k13n
  have f1 := fun w => eqRat h1 h2 0 0 true (by simp [HA1.out, HA2.out]) w
  have f2 := fun w => eqRat u1 u2 0 0 true (by simp [HU.out.1, HU.out.2.1]) w
  have f3 := fun w => eqSq6 v1 v2 0 0 true (by simp [HU.out.2.2.1, HU.out.2.2.2]) w
  have hgA := guardRat
  have hgB := guardSq6
  clear c0 c1 c2 c3 c4 k3n s1 k5n k12n k7n k13n
  go_wp2_with fail
  refine (awake6 _ (hT.below (tw hb1 BB))).mono ?_
  rintro e w20 ⟨rfl, hb⟩
  go_wp2
  go_ret
  exact ⟨rfl, tw (tw hb1 BB) hb⟩
end Go.Proofs.YtmjamjpgnbopmaaGreatDoor

/- The law HangSizes. -/
namespace Go.Proofs.YtmjamjpgnbopmaaGreatDoor
open Go.RowKit

theorem lawHangSizes (a b r bar m : Int) (w : World) (hT : Tab w) :
    Calls Tryz.prog 4 #[.agg #[.int .i64 a, .int .i64 b, .int .i64 r, .int .i64 bar, .int .i64 m]] w fun e w' => e = .returned (.bool true) ∧ Below w.heap.size w w' := by
  have HH := fun w => hgHanging r bar m w
  have HW := fun w => hgWidth a b bar m w
  have HT := fun w => hgHeight a b bar m w
  have nest : ∀ x y z : Int, fstE [x, fstE [y, z]] = fstE [x, y, z] := fun x y z => by
    simp only [fstE]
    repeat' split
    all_goals first | rfl | omega
  have q1 : fstE [rngH r 1 60000, netE2 bar m] = fstE [rngH r 1 60000, rngH bar 1 100, rngH m 1 300] := nest _ _ _
  have q2 : fstE [ratH a b, netE2 bar m] = hunH a b bar m := nest _ _ _
  by_cases g1 : fstE [rngH r 1 60000, netE2 bar m] = 0
  · have g1' := g1
    rw [q1] at g1'
    obtain ⟨r1, r2, r3⟩ := fst3_zero g1'
    have b1 := rngH_zero r1
    have b2 := rngH_zero r2
    have b3 := rngH_zero r3
    have hh : hanH r bar m = hanR r.toNat bar.toNat m.toNat := by rw [hanH, if_pos g1', hanR]
    obtain ⟨R, rfl⟩ : ∃ x : Nat, r = (x : Int) := ⟨r.toNat, by omega⟩
    obtain ⟨B, rfl⟩ : ∃ x : Nat, bar = (x : Int) := ⟨bar.toNat, by omega⟩
    obtain ⟨M, rfl⟩ : ∃ x : Nat, m = (x : Int) := ⟨m.toNat, by omega⟩
    rw [hh] at HH
    simp only [Int.toNat_natCast] at HH HW HT
    have RH := fun w => rfHanging R B M w (by omega) (by omega) (by omega) (by omega) (by omega)
    by_cases g2 : fstE [ratH a b, netE2 (B : Int) (M : Int)] = 0
    · have g2' := g2
      rw [q2] at g2'
      obtain ⟨t1, t2, t3⟩ := fst3_zero g2'
      obtain ⟨P, D, rfl, rfl, p1, p2, p3, p4⟩ := ratH_zero t1
      simp only [g2', oz0, Int.toNat_natCast] at HW HT
      exact lawSizes11 _ _ _ _ _ _ _ _ _ _ _ _ 0 _ w hT HH HW HT g1 g2 rfl RH rfl (fun w => rfWidth P D B M w p1 p2 p3 (by omega) (by omega)) (fun w => rfHeight P D B M w p1 p2 p3 (by omega) (by omega))
    · have g2' := g2
      rw [q2] at g2'
      simp only [ozE g2'] at HW HT
      exact lawSizes10 _ _ _ _ _ _ _ _ _ _ _ _ _ _ w hT HH HW HT g1 q2 rfl RH g2' ⟨rfl, rfl, rfl, rfl⟩
  · have g1' := g1
    rw [q1] at g1'
    have hh : hanH r bar m = fstE [rngH r 1 60000, rngH bar 1 100, rngH m 1 300] := by rw [hanH, if_neg g1']
    rw [hh] at HH
    simp only [ozE g1'] at HH
    by_cases g2 : fstE [ratH a b, netE2 bar m] = 0
    · have g2' := g2
      rw [q2] at g2'
      obtain ⟨t1, t2, t3⟩ := fst3_zero g2'
      have b2 := rngH_zero t2
      have b3 := rngH_zero t3
      obtain ⟨P, D, rfl, rfl, p1, p2, p3, p4⟩ := ratH_zero t1
      obtain ⟨B, rfl⟩ : ∃ x : Nat, bar = (x : Int) := ⟨bar.toNat, by omega⟩
      obtain ⟨M, rfl⟩ : ∃ x : Nat, m = (x : Int) := ⟨m.toNat, by omega⟩
      simp only [g2', oz0, Int.toNat_natCast] at HW HT
      exact lawSizes01 _ _ _ _ _ _ _ _ _ _ _ _ 0 _ w hT HH HW HT q1 g2 g1' ⟨rfl, rfl, rfl⟩ rfl (fun w => rfWidth P D B M w p1 p2 p3 (by omega) (by omega)) (fun w => rfHeight P D B M w p1 p2 p3 (by omega) (by omega))
    · have g2' := g2
      rw [q2] at g2'
      simp only [ozE g2'] at HW HT
      exact lawSizes00 _ _ _ _ _ _ _ _ _ _ _ _ _ _ w hT HH HW HT q1 q2 g1' ⟨rfl, rfl, rfl⟩ g2' ⟨rfl, rfl, rfl, rfl⟩
end Go.Proofs.YtmjamjpgnbopmaaGreatDoor

/- The netting of chapter 6's statements as an argument. -/
namespace Go.Proofs.YtmjamjpgnbopmaaGreatDoor
open Go.ChangeShapes Go.WideShapes Go.ChangeAt Go.WideMaps Go.WideElems Go.RowKit

set_option maxRecDepth 100000 in
theorem open_netting6 {w : World} {r : Reach} {b0 : Nat} {v : Value} (h : Value.okWide Tryz.prog w r b0 37 v) : ∃ a b c d e, v = .agg #[.int .i64 a, .int .i64 b, .int .i64 c, .int .i64 d, .int .i64 e] := by
  have hS : Tryz.prog.underlying 37 = some (.struct (Tryz.prog.fieldsOf 37)) := by kernel_rfl
  have hC : Tryz.prog.cellsOf 37 = 5 := by kernel_rfl
  simp only [Value.okWide, hS] at h
  obtain ⟨cs, rfl, hsz, hr⟩ := h
  rw [hC] at hsz
  obtain ⟨ts, hts, -, hrow⟩ := hr
  have ht : Tryz.prog.cellTypes Tryz.prog.depth 37 = some [3, 3, 3, 3, 3] := by kernel_rfl
  rw [ht] at hts
  cases hts
  obtain ⟨l⟩ := cs
  match l, hsz with
  | [c0, c1, c2, c3, c4], _ =>
    obtain ⟨u0, hu0, h0⟩ := hrow 0 c0 rfl
    obtain ⟨u1, hu1, h1⟩ := hrow 1 c1 rfl
    obtain ⟨u2, hu2, h2⟩ := hrow 2 c2 rfl
    obtain ⟨u3, hu3, h3⟩ := hrow 3 c3 rfl
    obtain ⟨u4, hu4, h4⟩ := hrow 4 c4 rfl
    simp at hu0 hu1 hu2 hu3 hu4
    subst hu0 hu1 hu2 hu3 hu4
    obtain ⟨a, rfl, -⟩ := cell_intT Tryz.underlying3 h0
    obtain ⟨b, rfl, -⟩ := cell_intT Tryz.underlying3 h1
    obtain ⟨c, rfl, -⟩ := cell_intT Tryz.underlying3 h2
    obtain ⟨d, rfl, -⟩ := cell_intT Tryz.underlying3 h3
    obtain ⟨e, rfl, -⟩ := cell_intT Tryz.underlying3 h4
    exact ⟨a, b, c, d, e, rfl⟩
end Go.Proofs.YtmjamjpgnbopmaaGreatDoor

namespace Go.Proofs.YtmjamjpgnbopmaaGreatDoor
open Go.ChangeShapes Go.WideShapes Go.ChangeAt Go.WideMaps Go.WideElems Go.RowKit

set_option maxRecDepth 100000 in
theorem sizes_lifted (os : Os) (started : os.Started) (H : Type) (enc : TypeId × Value → H) :
    ReturnsInHanded {} Tryz.checked os 4 .any (fun w args => (Rows.hangSizesSpec.pre enc Tryz.prog Tryz.f4 [] false w args ∧ laidMetH Tryz.prog haLaid w) ∧ sizedMet enc Tryz.prog Tryz.f4 (OpenSpec.ofChange Rows.hangSizesSpec) false w args)
      (Rows.hangSizesSpec.post enc Tryz.prog Tryz.f4 false true false false) := by
  refine returnsInHanded_of_change_and (C := Tryz.checked) (X := fun w _ => laidMetH Tryz.prog haLaid w) (fun _ _ _ hh h => h.of_heap hh) Tryz.ownT started (by kernel_rfl) Tryz.func4
    (ChangeSpec.witness_shaped (enc := enc) (C := Tryz.checked) (os := os) (X := fun w _ => laidMetH Tryz.prog haLaid w) false (World.laidAll Tryz.prog os haLaid) #[.agg #[.int .i64 0, .int .i64 0, .int .i64 0, .int .i64 0, .int .i64 0]] 8 (World.laidAll_os _ _ _) (World.shaped_of_ZipB (by kernel_rfl) (by kernel_rfl)) (by kernel_rfl) (by kernel_rfl) (by kernel_rfl) (door_met os _)) ?_
  intro W base args ds gs before hval0 hW _ _ hL _
  have hval : ∀ (j : Nat) t v, Tryz.f4.params[j]? = some t → args[j]? = some v → Value.okWide Tryz.prog W .any base t v := hval0
  have hW' := hW
  obtain ⟨p, q, hA0, hV, rfl, hfz, hnd⟩ := hW
  have hA : DataW.TrodAll enc Tryz.prog W 0 (fun _ => true) true Tryz.f4.params.toList args.toList ds p := hA0
  rw [Tryz.params4] at hA hval
  obtain ⟨v0, d0, rfl, rfl, h0⟩ := trodAll_one hA
  obtain ⟨rfl, rfl⟩ := trodVars_none hV
  clear hA0 hval0
  simp only [List.append_nil] at hW'
  have hlt : ∀ x ∈ p, x.block < W.heap.size := fun x hx => by simpa using hW'.lt x hx
  obtain ⟨z00, z01, z02, z03, z04, rfl⟩ := open_netting6 (hval 0 37 v0 rfl rfl)
  have harg0 : ∀ (W' : World), Below W.heap.size W W' → DataW.Trod enc Tryz.prog W' 0 (fun b => decide (b < W.heap.size)) true 37 (.agg #[.int .i64 z00, .int .i64 z01, .int .i64 z02, .int .i64 z03, .int .i64 z04]) d0 p :=
    fun W' hn => Below.trod Tryz.laidOutT (by kernel_rfl) (of_decide_eq_true (by kernel_rfl)) h0 hn (fun x hx => hlt x (hx))
  refine (lawHangSizes z00 z01 z02 z03 z04 W (tab_met hL)).mono fun e W' ⟨he, hb⟩ => ?_
  subst he
  refine ⟨_, rfl, _, _, _, [], p, [], hW', ?_, trodAll_mk1 (harg0 W' hb), rfl, hb.frame _, fun h => by cases h⟩
  exact trodAll_mk1 (shut_bool Tryz.underlying4 true)
set_option maxHeartbeats 8000000 in
theorem sizes_joined : joinedFacts Tryz.prog 4 Tryz.f4 Rows.hangSizesSpec Rows.hangSizesRow = true := by
  unfold joinedFacts
  simp only [Bool.and_eq_true]
  and_intros
  all_goals (as_aux_lemma => kernel_rfl)
theorem sizes_holds : Rows.HangSizesSaid :=
  OpenClaim.holds_of_wide 4 Tryz.f4 rfl rfl rfl rfl rfl rfl rfl ⟨rfl, rfl, rfl, rfl, rfl⟩ rfl rfl rfl rfl rfl (by kernel_rfl) Tryz.func4 sizes_joined
    (of_decide_eq_true (by kernel_rfl)) (by unfold Func.isWrapper; first | (rw [if_pos (by decide +kernel)]; kernel_rfl) | (rw [if_neg (by decide +kernel)]; exact ⟨rfl, rfl⟩))
    (fun os started H enc _ => sizes_lifted os started H enc)
theorem sizes_card : Rows.HangSizesCardSaid :=
  Claim7.holds_tied_plain_at .later [] [.data] true (true, "bb9c8a1f3b87a99a73053614bf73ec5a74d01f458fba8a9eee33de806b476934") false
    sizes_holds (fun _ h => by cases h) (by kernel_rfl) (fun _ h => by cases h) hangSizes_row_tie rfl ⟨rfl, rfl⟩ (by kernel_rfl) rfl
    (fun f fn hf hfn => by
      obtain rfl : f = 4 := Option.some.inj ((show Tryz.prog.funcNamed "codend/codendlaw06.HangSizes" = some 4 by kernel_rfl).symm.trans hf) |>.symm
      obtain rfl : fn = Tryz.f4 := (Option.some.inj (Tryz.func4.symm.trans hfn)).symm
      exact ⟨by kernel_rfl, fun j t ht => by
        rw [Tryz.params4] at ht
        have hm : t ∈ [37] := by simpa using Array.mem_of_getElem? ht
        have hall : ([37].all fun u => !Tryz.prog.wantsStandIn u) = true := by kernel_rfl
        exact (show Tryz.prog.wantsStandIn t = false by simpa using List.all_eq_true.1 hall t hm)⟩)
    (by kernel_rfl)
#print axioms sizes_card
end Go.Proofs.YtmjamjpgnbopmaaGreatDoor
