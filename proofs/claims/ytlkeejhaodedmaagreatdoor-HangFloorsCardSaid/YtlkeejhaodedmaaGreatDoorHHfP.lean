/- HangFloors: roots with decimals are the greatest below the square, and have the order of the squares, for all squares. -/
import Derived.Test.YtlkeejhaodedmaaGreatDoorH4
import Derived.Deep.DeepCutAuto
import Derived.BigQuiet
/- The law HangWeights. -/
namespace Go.Proofs.YtlkeejhaodedmaaGreatDoor
open Go.RowKit

set_option maxHeartbeats 400000 in
theorem rfCheckRange (n lo hi : Int) (w : World) :
    Calls Tryz.prog 27 #[.int .i64 n, .int .i64 lo, .int .i64 hi] w fun e w' => e = .returned (.int .i64 (rngH n lo hi)) ∧ w = w' := by
  unfold rngH
  by_cases h1 : n < lo
  · go_enter Tryz.func27, Tryz.ntmps27
    go_wp2
    go_ret
    simp
  · by_cases h2 : hi < n
    all_goals
      go_enter Tryz.func27, Tryz.ntmps27
      go_wp2
      go_ret
      simp <;> omega
set_option maxHeartbeats 400000 in
theorem rfFirst (b c : Nat) (es : List Int) (w : World) (hn : es.length ≤ 100) (hc : ∀ i (h : i < es.length), w.cell? ⟨b, i, none⟩ = some (.int .i64 es[i])) :
    Calls Tryz.prog 26 #[.slice (some ⟨b, 0, none⟩) es.length c] w fun e w' => e = .returned (.int .i64 (fstE es)) ∧ w = w' := by
  have HC := Lib.hid hc
  have hn' : (es.length : Int) ≤ 100 := by omega
  clear hc
  go_enter Tryz.func26, Tryz.ntmps26
  go_wp2_with fail
  go_loop [3] (fun i => ∃ k : Nat, k ≤ es.length ∧ i = .int .i64 k ∧ fstE es = fstE (es.drop k)) (fun i => es.length - (intOf i).toNat)
  case atStart => exact ⟨0, Nat.zero_le _, rfl, rfl⟩
  case round =>
    obtain ⟨k, hk, rfl, he⟩ := hrel
    have HE := Lib.hid he
    clear he
    by_cases hlt : k < es.length
    · have hcell := HC.out k hlt
      by_cases hz : es[k] = 0
      · have HF := Lib.hid (show fstE (es.drop k) = fstE (es.drop (k + 1)) by
          rw [List.drop_eq_getElem_cons hlt]
          simp only [fstE, hz, if_true])
        rw [hz] at hcell
        clear hz
        go_wp2
        go_round
        case rel => exact ⟨k + 1, by omega, by go_num, HE.out.trans HF.out⟩
        case measure => simp [intOf]; omega
      · have HF := Lib.hid (show fstE (es.drop k) = es[k] by
          rw [List.drop_eq_getElem_cons hlt]
          simp only [fstE, if_neg hz])
        have hz1 : (es[k] != 0) = true := by rw [bne_iff_ne]; exact hz
        clear hz
        go_wp2
        go_ret
        exact ⟨ret_i (HE.out.trans HF.out).symm, rfl⟩
    · obtain rfl : k = es.length := by omega
      have HF := Lib.hid (show fstE (es.drop es.length) = 0 by rw [List.drop_length]; rfl)
      go_wp2
      go_ret
      exact ⟨ret_i (HE.out.trans HF.out).symm, rfl⟩
theorem rfFirst2 (g d : Nat) (a b : Int) (t : TypeId) (w : World) (h : w.heap[g]? = some (.cells #[.int .i64 a, .int .i64 b] t (0, 0))) :
    Calls Tryz.prog 26 #[.slice (some ⟨g, 0, none⟩) 2 d] w fun e w' => e = .returned (.int .i64 (fstE [a, b])) ∧ w = w' :=
  rfFirst g d [a, b] w (by simp) (errs2 h)
theorem rfFirst4 (g d : Nat) (a b c e' : Int) (t : TypeId) (w : World) (h : w.heap[g]? = some (.cells #[.int .i64 a, .int .i64 b, .int .i64 c, .int .i64 e'] t (0, 0))) :
    Calls Tryz.prog 26 #[.slice (some ⟨g, 0, none⟩) 4 d] w fun e w' => e = .returned (.int .i64 (fstE [a, b, c, e'])) ∧ w = w' :=
  rfFirst g d [a, b, c, e'] w (by simp) (errs4 h)
set_option maxHeartbeats 1000000 in
set_option maxRecDepth 100000 in
theorem rfCheckCounts (b k r a : Int) (w : World) :
    Calls Tryz.prog 57 #[.int .i64 b, .int .i64 k, .int .i64 r, .int .i64 a] w fun e w' => e = .returned (.int .i64 (lenE b k r a)) ∧ Below w.heap.size w w' := by
  have HE := Lib.hid (show fstE [rngH b 0 100000, rngH k 0 100000, rngH r 1 100, rngH a 0 100] = lenE b k r a from rfl)
  generalize lenE b k r a = E at HE ⊢
  go_enter Tryz.func57, Tryz.ntmps57
  go_wp2_with fail
  refine (rfCheckRange _ _ _ _).mono ?_
  rintro e w2 ⟨rfl, rfl⟩
  go_wp2_with fail
  refine (rfCheckRange _ _ _ _).mono ?_
  rintro e w2 ⟨rfl, rfl⟩
  go_wp2_with fail
  refine (rfCheckRange _ _ _ _).mono ?_
  rintro e w2 ⟨rfl, rfl⟩
  go_wp2_with fail
  refine (rfCheckRange _ _ _ _).mono ?_
  rintro e w2 ⟨rfl, rfl⟩
  go_wp2_with fail
  refine (rfFirst4 _ _ _ _ _ _ 3 _ (by exact newBlk _ _)).mono ?_
  rintro e w2 ⟨rfl, rfl⟩
  rw [HE.out]
  go_wp2
  go_ret
  exact ⟨rfl, (Below.refl _ _).alloc (Nat.le_refl _) _⟩
set_option maxHeartbeats 400000 in
theorem rfLength (b k r a : Nat) (w : World) (hb : b ≤ 100000) (hk : k ≤ 100000) (hr : r ≤ 100) (ha : a ≤ 100) :
    Calls Tryz.prog 58 #[.int .i64 b, .int .i64 k, .int .i64 r, .int .i64 a] w fun e w' => e = .returned (.int .i64 (lenN b k r a : Nat)) ∧ w = w' := by
  obtain ⟨b10, b11⟩ := mulB hb hr
  obtain ⟨b20, b21⟩ := mulB hk ha
  have HE := Lib.hid (show (b : Int) * r + (k : Int) * a = (lenN b k r a : Nat) by unfold lenN; push_cast; rfl)
  have w1 : IntKind.i64.wrap ((b : Int) * r) = (b : Int) * r := wr64 (by omega) (by omega)
  have w2 : IntKind.i64.wrap ((k : Int) * a) = (k : Int) * a := wr64 (by omega) (by omega)
  have w3 : IntKind.i64.wrap ((b : Int) * r + (k : Int) * a) = (b : Int) * r + (k : Int) * a := wr64 (by omega) (by omega)
  go_enter Tryz.func58, Tryz.ntmps58
  go_wp2
  go_ret
  exact ⟨ret_i HE.out, rfl⟩
set_option maxHeartbeats 1000000 in
theorem rfWeight (l t : Nat) (w : World) (hl : l ≤ 2000000000) (ht : t ≤ 100000) :
    Calls Tryz.prog 59 #[.int .i64 l, .int .i64 t] w fun e w' => e = .returned (.tuple #[.int .i64 (if 999999999 < weiN l t then 0 else (weiN l t : Nat)), .int .i64 (if 999999999 < weiN l t then 4 else 0)]) ∧ w = w' := by
  obtain ⟨b10, b11⟩ := mulB hl ht
  have HE := Lib.hid (show ((l : Int) * t).tdiv 1000 = (weiN l t : Nat) by rw [mulI]; exact divN _ 1000)
  have w1 : IntKind.i64.wrap ((l : Int) * t) = (l : Int) * t := wr64 (by omega) (by omega)
  have hwl : weiN l t ≤ 200000000000 := by
    have := Nat.mul_le_mul hl ht
    unfold weiN
    omega
  have HQ := HE.out
  by_cases hn : 999999999 < weiN l t
  · rw [if_pos hn, if_pos hn]
    generalize weiN l t = n at HE hwl hn HQ
    have w2 : IntKind.i64.wrap (((l : Int) * t).tdiv 1000) = ((l : Int) * t).tdiv 1000 := by rw [HE.out]; exact wr64 (by omega) (by omega)
    have hni : (999999999 : Int) < ((l : Int) * t).tdiv 1000 := by rw [HE.out]; omega
    clear hn HQ
    go_enter Tryz.func59, Tryz.ntmps59
    go_wp2
    go_ret2
    exact ⟨rfl, rfl⟩
  · rw [if_neg hn, if_neg hn]
    generalize weiN l t = n at HE hwl hn HQ ⊢
    have w2 : IntKind.i64.wrap (((l : Int) * t).tdiv 1000) = ((l : Int) * t).tdiv 1000 := by rw [HE.out]; exact wr64 (by omega) (by omega)
    have hni : ¬ (999999999 : Int) < ((l : Int) * t).tdiv 1000 := by rw [HE.out]; omega
    clear hn HQ
    go_enter Tryz.func59, Tryz.ntmps59
    go_wp2
    go_ret2
    exact ⟨by first | rfl | (rw [← HE.out]; rfl), rfl⟩
set_option maxHeartbeats 8000000 in
set_option maxRecDepth 100000 in
theorem lawWeightsW (n0 n1 n2 n3 l t X E1 Y E2 : Int) (w : World) (hT : Tab w)
    (HL : ∀ w, Calls Tryz.prog 55 #[.int .i64 n0, .int .i64 n1, .int .i64 n2, .int .i64 n3] w fun e w' => e = .returned (.tuple #[.int .i64 X, .int .i64 E1]) ∧ Below w.heap.size w w')
    (HW : ∀ w, Calls Tryz.prog 56 #[.int .i64 l, .int .i64 t] w fun e w' => e = .returned (.tuple #[.int .i64 Y, .int .i64 E2]) ∧ Below w.heap.size w w')
    (HC : ∀ w, Calls Tryz.prog 57 #[.int .i64 n0, .int .i64 n1, .int .i64 n2, .int .i64 n3] w fun e w' => e = .returned (.int .i64 E1) ∧ Below w.heap.size w w')
    (h1 : E1 = 0 → ∀ w, Calls Tryz.prog 58 #[.int .i64 n0, .int .i64 n1, .int .i64 n2, .int .i64 n3] w fun e w' => e = .returned (.int .i64 X) ∧ w = w') (h1' : E1 ≠ 0 → X = 0)
    (h2 : weiE0 l t = 0 → ∀ w, Calls Tryz.prog 59 #[.int .i64 l, .int .i64 t] w fun e w' => e = .returned (.tuple #[.int .i64 Y, .int .i64 E2]) ∧ w = w') (h2' : weiE0 l t ≠ 0 → Y = 0 ∧ E2 = weiE0 l t) :
    Calls Tryz.prog 8 #[.agg #[.int .i64 n0, .int .i64 n1, .int .i64 n2, .int .i64 n3], .int .i64 l, .int .i64 t] w fun e w' => e = .returned (.bool true) ∧ Below w.heap.size w w' := by
  obtain ⟨w1, hw1, k1, B, hz1⟩ := boxS w (.cells #[.int .i64 n0, .int .i64 n1, .int .i64 n2, .int .i64 n3] 88)
  obtain ⟨a0, a1, a2, a3, -, -, -, -⟩ := cel4 k1
  have HF := Lib.hid (show fstE [rngH l 0 999999999, rngH t 1 100000] = weiE0 l t from rfl)
  by_cases g1 : E1 = 0 <;> by_cases g2 : weiE0 l t = 0
  · have HRL := h1 g1
    have HRW := h2 g2
    subst g1
    rw [g2] at HF
    clear h1 h2 h1' h2' g2
    go_enter Tryz.func8, Tryz.ntmps8
    go_wp2_with fail
    refine (HL _).mono ?_
    rintro e w2 ⟨rfl, hb⟩
    replace B := B.trans (hb.mono B.size)
    obtain ⟨c0, c1, c2, c3, -, -, -, -⟩ := cel4 (blkT k1 hb)
    have k2 := blkT k1 hb
    clear hb
    go_wp2_with fail
    refine (HW _).mono ?_
    rintro e w3 ⟨rfl, hb⟩
    replace B := B.trans (hb.mono B.size)
    replace k2 := blkT k2 hb
    obtain ⟨d0, d1, d2, d3, -, -, -, -⟩ := cel4 k2
    clear hb c0 c1 c2 c3
    go_wp2_with fail
    refine (HC _).mono ?_
    rintro e w4 ⟨rfl, hb⟩
    replace B := B.trans (hb.mono B.size)
    replace k2 := blkT k2 hb
    clear hb d0 d1 d2 d3
    go_wp2_with fail
    refine (rfCheckRange _ _ _ _).mono ?_
    rintro e w5 ⟨rfl, rfl⟩
    go_wp2_with fail
    refine (rfCheckRange _ _ _ _).mono ?_
    rintro e w5 ⟨rfl, rfl⟩
    obtain ⟨w5, hw5, k5, hb, hz⟩ := boxS w4 (.cells #[.int .i64 (rngH l 0 999999999), .int .i64 (rngH t 1 100000)] 3)
    replace B := B.trans (hb.mono B.size)
    replace k2 := blkT k2 hb
    obtain ⟨d0, d1, d2, d3, -, -, -, -⟩ := cel4 k2
    clear hb hz
    go_wp2_with fail
    refine (rfFirst2 _ _ _ _ 3 _ k5).mono ?_
    rintro e w6 ⟨rfl, rfl⟩
    rw [HF.out]
    clear k5
    go_wp2_with fail
    refine (HRL _).mono ?_
    rintro e w6 ⟨rfl, rfl⟩
    go_wp2_with fail
    refine (HRW _).mono ?_
    rintro e w6 ⟨rfl, rfl⟩
    go_wp2_with fail
    refine (awake6 _ (hT.below B)).mono ?_
    rintro e w7 ⟨rfl, hb⟩
    replace B := B.trans (hb.mono B.size)
    go_wp2
    go_ret
    exact ⟨rfl, B⟩
  · have HRL := h1 g1
    obtain ⟨rfl, rfl⟩ := h2' g2
    subst g1
    generalize weiE0 l t = E at HF HW g2
    have hne := nzH g2
    clear h1 h2 h1' h2' g2
    go_enter Tryz.func8, Tryz.ntmps8
    go_wp2_with fail
    refine (HL _).mono ?_
    rintro e w2 ⟨rfl, hb⟩
    replace B := B.trans (hb.mono B.size)
    obtain ⟨c0, c1, c2, c3, -, -, -, -⟩ := cel4 (blkT k1 hb)
    have k2 := blkT k1 hb
    clear hb
    go_wp2_with fail
    refine (HW _).mono ?_
    rintro e w3 ⟨rfl, hb⟩
    replace B := B.trans (hb.mono B.size)
    replace k2 := blkT k2 hb
    obtain ⟨d0, d1, d2, d3, -, -, -, -⟩ := cel4 k2
    clear hb c0 c1 c2 c3
    go_wp2_with fail
    refine (HC _).mono ?_
    rintro e w4 ⟨rfl, hb⟩
    replace B := B.trans (hb.mono B.size)
    replace k2 := blkT k2 hb
    clear hb d0 d1 d2 d3
    go_wp2_with fail
    refine (rfCheckRange _ _ _ _).mono ?_
    rintro e w5 ⟨rfl, rfl⟩
    go_wp2_with fail
    refine (rfCheckRange _ _ _ _).mono ?_
    rintro e w5 ⟨rfl, rfl⟩
    obtain ⟨w5, hw5, k5, hb, hz⟩ := boxS w4 (.cells #[.int .i64 (rngH l 0 999999999), .int .i64 (rngH t 1 100000)] 3)
    replace B := B.trans (hb.mono B.size)
    replace k2 := blkT k2 hb
    obtain ⟨d0, d1, d2, d3, -, -, -, -⟩ := cel4 k2
    clear hb hz
    go_wp2_with fail
    refine (rfFirst2 _ _ _ _ 3 _ k5).mono ?_
    rintro e w6 ⟨rfl, rfl⟩
    rw [HF.out]
    clear k5
    go_wp2_with fail
    refine (HRL _).mono ?_
    rintro e w6 ⟨rfl, rfl⟩
    go_wp2_with fail
    refine (awake6 _ (hT.below B)).mono ?_
    rintro e w7 ⟨rfl, hb⟩
    replace B := B.trans (hb.mono B.size)
    go_wp2
    go_ret
    exact ⟨rfl, B⟩
  · have HRW := h2 g2
    obtain rfl := h1' g1
    have hne := nzH g1
    rw [g2] at HF
    clear h1 h2 h1' h2' g1 g2
    go_enter Tryz.func8, Tryz.ntmps8
    go_wp2_with fail
    refine (HL _).mono ?_
    rintro e w2 ⟨rfl, hb⟩
    replace B := B.trans (hb.mono B.size)
    obtain ⟨c0, c1, c2, c3, -, -, -, -⟩ := cel4 (blkT k1 hb)
    have k2 := blkT k1 hb
    clear hb
    go_wp2_with fail
    refine (HW _).mono ?_
    rintro e w3 ⟨rfl, hb⟩
    replace B := B.trans (hb.mono B.size)
    replace k2 := blkT k2 hb
    obtain ⟨d0, d1, d2, d3, -, -, -, -⟩ := cel4 k2
    clear hb c0 c1 c2 c3
    go_wp2_with fail
    refine (HC _).mono ?_
    rintro e w4 ⟨rfl, hb⟩
    replace B := B.trans (hb.mono B.size)
    replace k2 := blkT k2 hb
    clear hb d0 d1 d2 d3
    go_wp2_with fail
    refine (rfCheckRange _ _ _ _).mono ?_
    rintro e w5 ⟨rfl, rfl⟩
    go_wp2_with fail
    refine (rfCheckRange _ _ _ _).mono ?_
    rintro e w5 ⟨rfl, rfl⟩
    obtain ⟨w5, hw5, k5, hb, hz⟩ := boxS w4 (.cells #[.int .i64 (rngH l 0 999999999), .int .i64 (rngH t 1 100000)] 3)
    replace B := B.trans (hb.mono B.size)
    replace k2 := blkT k2 hb
    obtain ⟨d0, d1, d2, d3, -, -, -, -⟩ := cel4 k2
    clear hb hz
    go_wp2_with fail
    refine (rfFirst2 _ _ _ _ 3 _ k5).mono ?_
    rintro e w6 ⟨rfl, rfl⟩
    rw [HF.out]
    clear k5
    go_wp2_with fail
    refine (HRW _).mono ?_
    rintro e w6 ⟨rfl, rfl⟩
    go_wp2_with fail
    refine (awake6 _ (hT.below B)).mono ?_
    rintro e w7 ⟨rfl, hb⟩
    replace B := B.trans (hb.mono B.size)
    go_wp2
    go_ret
    exact ⟨rfl, B⟩
  · obtain rfl := h1' g1
    obtain ⟨rfl, rfl⟩ := h2' g2
    have hne := nzH g1
    generalize weiE0 l t = E at HF HW g2
    have hne2 := nzH g2
    clear h1 h2 h1' h2' g1 g2
    go_enter Tryz.func8, Tryz.ntmps8
    go_wp2_with fail
    refine (HL _).mono ?_
    rintro e w2 ⟨rfl, hb⟩
    replace B := B.trans (hb.mono B.size)
    obtain ⟨c0, c1, c2, c3, -, -, -, -⟩ := cel4 (blkT k1 hb)
    have k2 := blkT k1 hb
    clear hb
    go_wp2_with fail
    refine (HW _).mono ?_
    rintro e w3 ⟨rfl, hb⟩
    replace B := B.trans (hb.mono B.size)
    replace k2 := blkT k2 hb
    obtain ⟨d0, d1, d2, d3, -, -, -, -⟩ := cel4 k2
    clear hb c0 c1 c2 c3
    go_wp2_with fail
    refine (HC _).mono ?_
    rintro e w4 ⟨rfl, hb⟩
    replace B := B.trans (hb.mono B.size)
    replace k2 := blkT k2 hb
    clear hb d0 d1 d2 d3
    go_wp2_with fail
    refine (rfCheckRange _ _ _ _).mono ?_
    rintro e w5 ⟨rfl, rfl⟩
    go_wp2_with fail
    refine (rfCheckRange _ _ _ _).mono ?_
    rintro e w5 ⟨rfl, rfl⟩
    obtain ⟨w5, hw5, k5, hb, hz⟩ := boxS w4 (.cells #[.int .i64 (rngH l 0 999999999), .int .i64 (rngH t 1 100000)] 3)
    replace B := B.trans (hb.mono B.size)
    replace k2 := blkT k2 hb
    obtain ⟨d0, d1, d2, d3, -, -, -, -⟩ := cel4 k2
    clear hb hz
    go_wp2_with fail
    refine (rfFirst2 _ _ _ _ 3 _ k5).mono ?_
    rintro e w6 ⟨rfl, rfl⟩
    rw [HF.out]
    clear k5
    go_wp2_with fail
    refine (awake6 _ (hT.below B)).mono ?_
    rintro e w7 ⟨rfl, hb⟩
    replace B := B.trans (hb.mono B.size)
    go_wp2
    go_ret
    exact ⟨rfl, B⟩
theorem lawHangWeights (n0 n1 n2 n3 l t : Int) (w : World) (hT : Tab w) :
    Calls Tryz.prog 8 #[.agg #[.int .i64 n0, .int .i64 n1, .int .i64 n2, .int .i64 n3], .int .i64 l, .int .i64 t] w fun e w' => e = .returned (.bool true) ∧ Below w.heap.size w w' := by
  refine lawWeightsW n0 n1 n2 n3 l t _ _ _ _ w hT (fun w => hgLength n0 n1 n2 n3 w) (fun w => hgWeight l t w) (fun w => rfCheckCounts n0 n1 n2 n3 w) ?_ (fun h => ozE h _) ?_ (fun h => ?_)
  · intro h w
    obtain ⟨r1, r2, r3, r4⟩ := fst4_zero h
    have g1 := rngH_zero r1
    have g2 := rngH_zero r2
    have g3 := rngH_zero r3
    have g4 := rngH_zero r4
    rw [h, oz0]
    obtain ⟨b, rfl⟩ : ∃ x : Nat, n0 = (x : Int) := ⟨n0.toNat, by omega⟩
    obtain ⟨k, rfl⟩ : ∃ x : Nat, n1 = (x : Int) := ⟨n1.toNat, by omega⟩
    obtain ⟨r, rfl⟩ : ∃ x : Nat, n2 = (x : Int) := ⟨n2.toNat, by omega⟩
    obtain ⟨a, rfl⟩ : ∃ x : Nat, n3 = (x : Int) := ⟨n3.toNat, by omega⟩
    simp only [Int.toNat_natCast]
    exact rfLength b k r a w (by omega) (by omega) (by omega) (by omega)
  · intro h w
    obtain ⟨r1, r2⟩ := fst2_zero h
    have g1 := rngH_zero r1
    have g2 := rngH_zero r2
    obtain ⟨L, rfl⟩ : ∃ x : Nat, l = (x : Int) := ⟨l.toNat, by omega⟩
    obtain ⟨T, rfl⟩ : ∃ x : Nat, t = (x : Int) := ⟨t.toNat, by omega⟩
    have hW := rfWeight L T w (by omega) (by omega)
    have e : weiE (L : Int) (T : Int) = if 999999999 < weiN L T then 4 else 0 := by rw [weiE, if_pos h, Int.toNat_natCast, Int.toNat_natCast]
    rw [e, Int.toNat_natCast, Int.toNat_natCast]
    by_cases hn : 999999999 < weiN L T
    · rw [if_pos hn] at hW ⊢
      rw [if_pos hn] at hW
      rw [ozE (by decide)]
      exact hW
    · rw [if_neg hn] at hW ⊢
      rw [if_neg hn] at hW
      rw [oz0]
      exact hW
  · have e : weiE l t = weiE0 l t := by rw [weiE, if_neg h]
    rw [e]
    exact ⟨ozE h _, rfl⟩
end Go.Proofs.YtlkeejhaodedmaaGreatDoor

/- The reference's ratios and squares. -/
namespace Go.Proofs.YtlkeejhaodedmaaGreatDoor
open Go.RowKit

set_option maxHeartbeats 1000000 in
theorem rfDivisor (b : Nat) : ∀ (a : Nat) (w : World), a ≤ 9000000000000000000 → b ≤ 9000000000000000000 →
    Calls Tryz.prog 66 #[.int .i64 a, .int .i64 b] w fun e w' => e = .returned (.int .i64 (a.gcd b : Nat)) ∧ Below w.heap.size w w' := by
  induction b using Nat.strongRecOn with
  | _ b ih =>
    intro a w ha hb
    by_cases hz : b = 0
    · subst hz
      rw [Nat.gcd_zero_right]
      clear ih
      go_enter Tryz.func66, Tryz.ntmps66
      go_wp2
      go_ret
      exact ⟨rfl, Below.refl _ _⟩
    · have hz0 : ((b : Int) == 0) = false := by rw [beq_eq_false_iff_ne]; omega
      have hz1 : ¬ (b : Int) = 0 := by omega
      have hm := modN a b
      have hlt : a % b < b := Nat.mod_lt _ (by omega)
      have HI := fun w => ih (a % b) hlt b w hb (by omega)
      have e : b.gcd (a % b) = a.gcd b := by rw [Nat.gcd_comm a b, Nat.gcd_rec b a, Nat.gcd_comm]
      rw [e] at HI
      clear e ih
      generalize a.gcd b = g at HI ⊢
      generalize a % b = r at hm hlt HI
      have hw1 : IntKind.i64.wrap (r : Int) = (r : Int) := wr64 (by omega) (by omega)
      go_enter Tryz.func66, Tryz.ntmps66
      go_wp2_with fail
      refine (HI _).mono ?_
      rintro e w1 ⟨rfl, hb1⟩
      go_wp2
      go_ret
      exact ⟨rfl, hb1⟩
set_option maxHeartbeats 1000000 in
theorem rfSquare (a b : Nat) (w : World) (ha : a ≤ 9000000000000000000) (hb : b ≤ 9000000000000000000) (h : 0 < b) :
    Calls Tryz.prog 71 #[.int .i64 a, .int .i64 b] w fun e w' => e = .returned (.agg #[.int .i64 (qn a b), .int .i64 (qd a b)]) ∧ Below w.heap.size w w' := by
  unfold qn qd
  obtain ⟨g, hg⟩ : ∃ g, a.gcd b = g := ⟨_, rfl⟩
  have hg0 : 0 < g := by rw [← hg]; exact Nat.gcd_pos_of_pos_right _ h
  have hz1 : ¬ (g : Int) = 0 := by omega
  have hz0 : ((g : Int) != 0) = true := by rw [bne_iff_ne]; omega
  have h1 := divN a g
  have h2 := divN b g
  have h3 : a / g ≤ a := Nat.div_le_self _ _
  have h4 : b / g ≤ b := Nat.div_le_self _ _
  rw [hg]
  have HG := Lib.hid hg
  obtain ⟨u, hu⟩ : ∃ u, a / g = u := ⟨_, rfl⟩
  obtain ⟨v, hv⟩ : ∃ v, b / g = v := ⟨_, rfl⟩
  rw [hu] at h1 h3 ⊢
  rw [hv] at h2 h4 ⊢
  have hw1 : IntKind.i64.wrap (u : Int) = (u : Int) := wr64 (by omega) (by omega)
  have hw2 : IntKind.i64.wrap (v : Int) = (v : Int) := wr64 (by omega) (by omega)
  clear hu hv hg
  obtain ⟨w0, hw0, hB, hb0, hz⟩ := boxS w (.cells #[.int .i64 0, .int .i64 0] 24)
  have hg1 : ¬ g = 0 := by omega
  go_enter Tryz.func71, Tryz.ntmps71
  go_wp2_with fail
  refine (rfDivisor b a _ ha hb).mono ?_
  rintro e w1 ⟨rfl, hb1⟩
  rw [HG.out]
  have hB1 := blkT hB hb1
  have hbw := tw hb0 hb1
  obtain ⟨p0, p1, p2, p3⟩ := cel2 hB1
  obtain ⟨s1, s2⟩ := set2 hB1 (.int .i64 u) (.int .i64 v)
  obtain ⟨t0, t1, -, -⟩ := cel2 s1
  have hbf := hbw.grown s2 hbw.size (fun j e => by cases e; exact Nat.le_refl _)
  clear hB hb1 hB1 hbw hb0 hw0
  go_wp2_with fail
  go_region
  go_wp2
  exact bodyPost_ret (v := .agg #[.int .i64 u, .int .i64 v]) (by simp [results, Tryz.results71, go_sem, t0, t1]) rfl ⟨rfl, below_drew hbf⟩
theorem ratH_cases (n d : Int) : (¬ (1 ≤ n ∧ n ≤ 30 ∧ 1 ≤ d ∧ d ≤ 30) ∧ ratH n d = 3) ∨ ((1 ≤ n ∧ n ≤ 30 ∧ 1 ≤ d ∧ d ≤ 30) ∧ d < n ∧ ratH n d = 11) ∨ ((1 ≤ n ∧ n ≤ 30 ∧ 1 ≤ d ∧ d ≤ 30) ∧ n ≤ d ∧ n.toNat.gcd d.toNat ≠ 1 ∧ ratH n d = 1) ∨ ((1 ≤ n ∧ n ≤ 30 ∧ 1 ≤ d ∧ d ≤ 30) ∧ n ≤ d ∧ n.toNat.gcd d.toNat = 1 ∧ ratH n d = 0) := by
  unfold ratH
  simp only [fstE, rngH]
  repeat' split
  all_goals first | omega | (rename_i h; simp_all; omega) | simp_all
end Go.Proofs.YtlkeejhaodedmaaGreatDoor

/- The reference's checks, vertical ratios and fullness. -/
namespace Go.Proofs.YtlkeejhaodedmaaGreatDoor
open Go.RowKit

theorem sqH_cases (n d : Int) : (¬ (0 ≤ n ∧ n ≤ 4000000000000 ∧ 1 ≤ d ∧ d ≤ 810000) ∧ sqH n d = 3) ∨ ((0 ≤ n ∧ n ≤ 4000000000000 ∧ 1 ≤ d ∧ d ≤ 810000) ∧ n.toNat.gcd d.toNat ≠ 1 ∧ sqH n d = 1) ∨ ((0 ≤ n ∧ n ≤ 4000000000000 ∧ 1 ≤ d ∧ d ≤ 810000) ∧ n.toNat.gcd d.toNat = 1 ∧ sqH n d = 0) := by
  unfold sqH
  simp only [fstE, rngH]
  repeat' split
  all_goals first | omega | (rename_i h; simp_all; omega) | simp_all
set_option maxHeartbeats 2000000 in
set_option maxRecDepth 100000 in
theorem rfCheckRatio (a b : Int) (w : World) :
    Calls Tryz.prog 16 #[.agg #[.int .i64 a, .int .i64 b]] w fun e w' => e = .returned (.int .i64 (ratH a b)) ∧ Below w.heap.size w w' := by
  obtain ⟨w1, hw1, k1, hb1, hz1⟩ := boxS w (.cells #[.int .i64 a, .int .i64 b] 23)
  obtain ⟨c0, c1, -, -⟩ := cel2 k1
  clear k1
  by_cases g1 : a < 1
  · have hE : ratH a b = 3 := by have hc := ratH_cases a b; omega
    rw [hE]
    clear hE
    go_enter Tryz.func16, Tryz.ntmps16
    go_wp2
    go_ret
    exact ⟨rfl, hb1⟩
  by_cases g2 : 30 < a
  · have hE : ratH a b = 3 := by have hc := ratH_cases a b; omega
    rw [hE]
    clear hE
    go_enter Tryz.func16, Tryz.ntmps16
    go_wp2
    go_ret
    exact ⟨rfl, hb1⟩
  by_cases g3 : b < 1
  · have hE : ratH a b = 3 := by have hc := ratH_cases a b; omega
    rw [hE]
    clear hE
    go_enter Tryz.func16, Tryz.ntmps16
    go_wp2
    go_ret
    exact ⟨rfl, hb1⟩
  by_cases g4 : 30 < b
  · have hE : ratH a b = 3 := by have hc := ratH_cases a b; omega
    rw [hE]
    clear hE
    go_enter Tryz.func16, Tryz.ntmps16
    go_wp2
    go_ret
    exact ⟨rfl, hb1⟩
  by_cases g5 : b < a
  · have hE : ratH a b = 11 := by have hc := ratH_cases a b; omega
    rw [hE]
    clear hE
    go_enter Tryz.func16, Tryz.ntmps16
    go_wp2
    go_ret
    exact ⟨rfl, hb1⟩
  obtain ⟨P, rfl⟩ : ∃ P : Nat, a = (P : Int) := ⟨a.toNat, by omega⟩
  obtain ⟨D, rfl⟩ : ∃ D : Nat, b = (D : Int) := ⟨b.toNat, by omega⟩
  have HD := fun w => rfDivisor D P w (by omega) (by omega)
  have hc := ratH_cases (P : Int) (D : Int)
  rw [Int.toNat_natCast, Int.toNat_natCast] at hc
  obtain ⟨E, hE⟩ : ∃ E, ratH (P : Int) (D : Int) = E := ⟨_, rfl⟩
  rw [hE] at hc ⊢
  generalize P.gcd D = g at HD hc
  by_cases hg : g = 1
  · obtain rfl : E = 0 := by omega
    have hz : ((g : Int) != 1) = false := by rw [hg]; rfl
    clear hc hE hg
    go_enter Tryz.func16, Tryz.ntmps16
    go_wp2_with fail
    refine (HD _).mono ?_
    rintro e w3 ⟨rfl, hb3⟩
    go_wp2
    go_ret
    exact ⟨rfl, tw hb1 hb3⟩
  · obtain rfl : E = 1 := by omega
    have hz : ((g : Int) != 1) = true := by rw [bne_iff_ne]; omega
    clear hc hE hg
    go_enter Tryz.func16, Tryz.ntmps16
    go_wp2_with fail
    refine (HD _).mono ?_
    rintro e w3 ⟨rfl, hb3⟩
    go_wp2
    go_ret
    exact ⟨rfl, tw hb1 hb3⟩
set_option maxHeartbeats 2000000 in
set_option maxRecDepth 100000 in
theorem rfCheckSquare (a b : Int) (w : World) :
    Calls Tryz.prog 21 #[.agg #[.int .i64 a, .int .i64 b]] w fun e w' => e = .returned (.int .i64 (sqH a b)) ∧ Below w.heap.size w w' := by
  obtain ⟨w1, hw1, k1, hb1, hz1⟩ := boxS w (.cells #[.int .i64 a, .int .i64 b] 24)
  obtain ⟨c0, c1, -, -⟩ := cel2 k1
  clear k1
  by_cases g1 : a < 0
  · have hE : sqH a b = 3 := by have hc := sqH_cases a b; omega
    rw [hE]
    clear hE
    go_enter Tryz.func21, Tryz.ntmps21
    go_wp2
    go_ret
    exact ⟨rfl, hb1⟩
  by_cases g2 : 4000000000000 < a
  · have hE : sqH a b = 3 := by have hc := sqH_cases a b; omega
    rw [hE]
    clear hE
    go_enter Tryz.func21, Tryz.ntmps21
    go_wp2
    go_ret
    exact ⟨rfl, hb1⟩
  by_cases g3 : b < 1
  · have hE : sqH a b = 3 := by have hc := sqH_cases a b; omega
    rw [hE]
    clear hE
    go_enter Tryz.func21, Tryz.ntmps21
    go_wp2
    go_ret
    exact ⟨rfl, hb1⟩
  by_cases g4 : 810000 < b
  · have hE : sqH a b = 3 := by have hc := sqH_cases a b; omega
    rw [hE]
    clear hE
    go_enter Tryz.func21, Tryz.ntmps21
    go_wp2
    go_ret
    exact ⟨rfl, hb1⟩
  obtain ⟨P, rfl⟩ : ∃ P : Nat, a = (P : Int) := ⟨a.toNat, by omega⟩
  obtain ⟨D, rfl⟩ : ∃ D : Nat, b = (D : Int) := ⟨b.toNat, by omega⟩
  have HD := fun w => rfDivisor D P w (by omega) (by omega)
  have hc := sqH_cases (P : Int) (D : Int)
  rw [Int.toNat_natCast, Int.toNat_natCast] at hc
  obtain ⟨E, hE⟩ : ∃ E, sqH (P : Int) (D : Int) = E := ⟨_, rfl⟩
  rw [hE] at hc ⊢
  generalize P.gcd D = g at HD hc
  by_cases hg : g = 1
  · obtain rfl : E = 0 := by omega
    have hz : ((g : Int) != 1) = false := by rw [hg]; rfl
    clear hc hE hg
    go_enter Tryz.func21, Tryz.ntmps21
    go_wp2_with fail
    refine (HD _).mono ?_
    rintro e w3 ⟨rfl, hb3⟩
    go_wp2
    go_ret
    exact ⟨rfl, tw hb1 hb3⟩
  · obtain rfl : E = 1 := by omega
    have hz : ((g : Int) != 1) = true := by rw [bne_iff_ne]; omega
    clear hc hE hg
    go_enter Tryz.func21, Tryz.ntmps21
    go_wp2_with fail
    refine (HD _).mono ?_
    rintro e w3 ⟨rfl, hb3⟩
    go_wp2
    go_ret
    exact ⟨rfl, tw hb1 hb3⟩
set_option maxHeartbeats 1000000 in
set_option maxRecDepth 100000 in
theorem rfSecondary (P D : Nat) (w : World) (h1 : 1 ≤ P) (hP : P ≤ D) (hD : D ≤ 30) :
    Calls Tryz.prog 17 #[.agg #[.int .i64 P, .int .i64 D]] w fun e w' => e = .returned (.agg #[.int .i64 (qn (upN 1 P D) (D * D)), .int .i64 (qd (upN 1 P D) (D * D))]) ∧ Below w.heap.size w w' := by
  have hDD : 0 < D * D := Nat.mul_pos (by omega) (by omega)
  have hDD2 : D * D ≤ 30 * 30 := Nat.mul_le_mul hD hD
  have hU : upN 1 P D ≤ 900 := by unfold upN; omega
  have HQ := fun w => rfSquare (upN 1 P D) (D * D) w (by omega) (by omega) hDD
  have HU := Lib.hid (show (D : Int) * (D : Int) - (P : Int) * (P : Int) = (upN 1 P D : Nat) by rw [sqSub hP]; unfold upN; rw [Nat.one_mul])
  have HDD := Lib.hid (mulI D D)
  have b2 := mulB hD hD
  have b3 := mulB (Nat.le_trans hP hD) (Nat.le_trans hP hD)
  have b5 : 0 ≤ (D : Int) * (D : Int) - (P : Int) * (P : Int) ∧ (D : Int) * (D : Int) - (P : Int) * (P : Int) ≤ 900 := by rw [HU.out]; omega
  obtain ⟨b20, b21⟩ := b2
  obtain ⟨b30, b31⟩ := b3
  obtain ⟨b50, b51⟩ := b5
  clear hU hDD hDD2
  generalize upN 1 P D = U at HQ HU ⊢
  generalize hE : D * D = E at HQ HDD ⊢
  generalize qn U E = u at HQ ⊢
  generalize qd U E = v at HQ ⊢
  clear hE
  obtain ⟨w1, hw1, k1, hb1, hz1⟩ := boxS w (.cells #[.int .i64 P, .int .i64 D] 23)
  obtain ⟨w2, hw2, k2, hb2, hz2⟩ := boxS w1 (.cells #[.int .i64 0, .int .i64 0] 24)
  obtain ⟨p0, p1, -, -⟩ := cel2 (blkT k1 hb2)
  go_enter Tryz.func17, Tryz.ntmps17
  go_wp2_with fail
  rw [HU.out, HDD.out]
  refine (HQ _).mono ?_
  rintro e w3 ⟨rfl, hb3⟩
  have k3 := blkT k2 hb3
  obtain ⟨q0, q1, q2, q3⟩ := cel2 k3
  obtain ⟨s1, s2⟩ := set2 k3 (.int .i64 u) (.int .i64 v)
  obtain ⟨t0, t1, -, -⟩ := cel2 s1
  have hbw := tw (tw hb1 hb2) hb3
  have hbf := hbw.grown s2 hbw.size (fun j e => by cases e; exact hb1.size)
  go_wp2
  exact bodyPost_ret (v := .agg #[.int .i64 u, .int .i64 v]) (by simp [results, Tryz.results17, go_sem, t0, t1]) rfl ⟨rfl, hbf⟩
set_option maxHeartbeats 1000000 in
set_option maxRecDepth 100000 in
theorem rfFullness (P D : Nat) (w : World) (h1 : 1 ≤ P) (hP : P ≤ D) (hD : D ≤ 30) :
    Calls Tryz.prog 18 #[.agg #[.int .i64 P, .int .i64 D]] w fun e w' => e = .returned (.agg #[.int .i64 (qn (fuN P D) (D * D * (D * D))), .int .i64 (qd (fuN P D) (D * D * (D * D)))]) ∧ Below w.heap.size w w' := by
  have hU := fuN_le hP hD
  have hDD : 0 < D * D := Nat.mul_pos (by omega) (by omega)
  have hDD2 : D * D ≤ 30 * 30 := Nat.mul_le_mul hD hD
  have hD4 : D * D * (D * D) ≤ 900 * 900 := Nat.mul_le_mul hDD2 hDD2
  have HQ := fun w => rfSquare (fuN P D) (D * D * (D * D)) w (by omega) (by omega) (Nat.mul_pos hDD hDD)
  have HU := Lib.hid (fuNI hP)
  have HD4 := Lib.hid (show (D : Int) * (D : Int) * ((D : Int) * (D : Int)) = ((D * D * (D * D) : Nat) : Int) by push_cast; rfl)
  have b2 := mulB hD hD
  have b3 := mulB (Nat.le_trans hP hD) (Nat.le_trans hP hD)
  have b5 : 0 ≤ 4 * ((P : Int) * (P : Int)) * ((D : Int) * (D : Int) - (P : Int) * (P : Int)) ∧ 4 * ((P : Int) * (P : Int)) * ((D : Int) * (D : Int) - (P : Int) * (P : Int)) ≤ 3240000 := by rw [HU.out]; omega
  have b6 : 0 ≤ (D : Int) * (D : Int) * ((D : Int) * (D : Int)) ∧ (D : Int) * (D : Int) * ((D : Int) * (D : Int)) ≤ 810000 := by rw [HD4.out]; omega
  obtain ⟨b20, b21⟩ := b2
  obtain ⟨b30, b31⟩ := b3
  obtain ⟨b50, b51⟩ := b5
  obtain ⟨b60, b61⟩ := b6
  have w1' : IntKind.i64.wrap ((P : Int) * (P : Int)) = (P : Int) * (P : Int) := wr64 (by omega) (by omega)
  have w2' : IntKind.i64.wrap ((D : Int) * (D : Int)) = (D : Int) * (D : Int) := wr64 (by omega) (by omega)
  clear hU hDD hDD2 hD4
  generalize fuN P D = U at HQ HU ⊢
  generalize hE : D * D * (D * D) = E at HQ HD4 ⊢
  generalize qn U E = u at HQ ⊢
  generalize qd U E = v at HQ ⊢
  clear hE
  obtain ⟨w1, hw1, k1, hb1, hz1⟩ := boxS w (.cells #[.int .i64 P, .int .i64 D] 23)
  obtain ⟨w2, hw2, k2, hb2, hz2⟩ := boxS w1 (.cells #[.int .i64 0, .int .i64 0] 24)
  obtain ⟨p0, p1, -, -⟩ := cel2 (blkT k1 hb2)
  go_enter Tryz.func18, Tryz.ntmps18
  go_wp2_with fail
  go_quiet (fail)
  have hb2n := below_drewN hb2 nq
  have k2n : (w2.drewN nq).heap[w1.heap.size]? = some (.cells #[.int .i64 0, .int .i64 0] 24 (0, 0)) := k2
  generalize World.drewN w2 nq = w2' at *
  go_wp2_with fail
  rw [HU.out, HD4.out]
  refine (HQ _).mono ?_
  rintro e w3 ⟨rfl, hb3⟩
  have k3 := blkT k2n hb3
  obtain ⟨q0, q1, q2, q3⟩ := cel2 k3
  obtain ⟨s1, s2⟩ := set2 k3 (.int .i64 u) (.int .i64 v)
  obtain ⟨t0, t1, -, -⟩ := cel2 s1
  have hbw := tw (tw hb1 hb2n) hb3
  have hbf := hbw.grown s2 hbw.size (fun j e => by cases e; exact hb1.size)
  go_wp2
  exact bodyPost_ret (v := .agg #[.int .i64 u, .int .i64 v]) (by simp [results, Tryz.results18, go_sem, t0, t1]) rfl ⟨rfl, hbf⟩
end Go.Proofs.YtlkeejhaodedmaaGreatDoor

/- The reference's sizes. -/
namespace Go.Proofs.YtlkeejhaodedmaaGreatDoor
open Go.RowKit

set_option maxHeartbeats 1000000 in
theorem rfRatio (a b : Nat) (w : World) (ha : a ≤ 9000000000000000000) (hb : b ≤ 9000000000000000000) (h : 0 < b) :
    Calls Tryz.prog 81 #[.int .i64 a, .int .i64 b] w fun e w' => e = .returned (.agg #[.int .i64 (qn a b), .int .i64 (qd a b)]) ∧ Below w.heap.size w w' := by
  unfold qn qd
  obtain ⟨g, hg⟩ : ∃ g, a.gcd b = g := ⟨_, rfl⟩
  have hg0 : 0 < g := by rw [← hg]; exact Nat.gcd_pos_of_pos_right _ h
  have hz1 : ¬ (g : Int) = 0 := by omega
  have hz0 : ((g : Int) != 0) = true := by rw [bne_iff_ne]; omega
  have h1 := divN a g
  have h2 := divN b g
  have h3 : a / g ≤ a := Nat.div_le_self _ _
  have h4 : b / g ≤ b := Nat.div_le_self _ _
  rw [hg]
  have HG := Lib.hid hg
  obtain ⟨u, hu⟩ : ∃ u, a / g = u := ⟨_, rfl⟩
  obtain ⟨v, hv⟩ : ∃ v, b / g = v := ⟨_, rfl⟩
  rw [hu] at h1 h3 ⊢
  rw [hv] at h2 h4 ⊢
  have hw1 : IntKind.i64.wrap (u : Int) = (u : Int) := wr64 (by omega) (by omega)
  have hw2 : IntKind.i64.wrap (v : Int) = (v : Int) := wr64 (by omega) (by omega)
  clear hu hv hg
  obtain ⟨w0, hw0, hB, hb0, hz⟩ := boxS w (.cells #[.int .i64 0, .int .i64 0] 23)
  have hg1 : ¬ g = 0 := by omega
  go_enter Tryz.func81, Tryz.ntmps81
  go_wp2_with fail
  refine (rfDivisor b a _ ha hb).mono ?_
  rintro e w1 ⟨rfl, hb1⟩
  rw [HG.out]
  have hB1 := blkT hB hb1
  have hbw := tw hb0 hb1
  obtain ⟨p0, p1, p2, p3⟩ := cel2 hB1
  obtain ⟨s1, s2⟩ := set2 hB1 (.int .i64 u) (.int .i64 v)
  obtain ⟨t0, t1, -, -⟩ := cel2 s1
  have hbf := hbw.grown s2 hbw.size (fun j e => by cases e; exact Nat.le_refl _)
  clear hB hb1 hB1 hbw hb0 hw0
  go_wp2_with fail
  go_region
  go_wp2
  exact bodyPost_ret (v := .agg #[.int .i64 u, .int .i64 v]) (by simp [results, Tryz.results81, go_sem, t0, t1]) rfl ⟨rfl, below_drew hbf⟩
def netE2 (b m : Int) : Int := fstE [rngH b 1 100, rngH m 1 300]
set_option maxHeartbeats 1000000 in
theorem rfCheckNetting (b m : Int) (w : World) :
    Calls Tryz.prog 28 #[.int .i64 b, .int .i64 m] w fun e w' => e = .returned (.int .i64 (netE2 b m)) ∧ Below w.heap.size w w' := by
  have HE := Lib.hid (show fstE [rngH b 1 100, rngH m 1 300] = netE2 b m from rfl)
  generalize netE2 b m = E at HE ⊢
  go_enter Tryz.func28, Tryz.ntmps28
  go_wp2_with fail
  refine (rfCheckRange _ _ _ _).mono ?_
  rintro e w2 ⟨rfl, rfl⟩
  go_wp2_with fail
  refine (rfCheckRange _ _ _ _).mono ?_
  rintro e w2 ⟨rfl, rfl⟩
  go_wp2_with fail
  refine (rfFirst2 _ _ _ _ 3 _ (by exact newBlk _ _)).mono ?_
  rintro e w2 ⟨rfl, rfl⟩
  rw [HE.out]
  go_wp2
  go_ret
  exact ⟨rfl, (Below.refl _ _).alloc (Nat.le_refl _) _⟩
theorem spanI (b m : Nat) : 2 * (b : Int) * (m : Int) = ((2 * b * m : Nat) : Int) := by push_cast; rfl
theorem span_le {b m : Nat} (hb : b ≤ 100) (hm : m ≤ 300) : 2 * b * m ≤ 60000 := Nat.le_trans (Nat.mul_le_mul (Nat.mul_le_mul (Nat.le_refl 2) hb) hm) (by decide)
set_option maxHeartbeats 1000000 in
set_option maxRecDepth 100000 in
theorem rfWidth (P D b m : Nat) (w : World) (h1 : 1 ≤ P) (hP : P ≤ D) (hD : D ≤ 30) (hb : b ≤ 100) (hm : m ≤ 300) :
    Calls Tryz.prog 30 #[.agg #[.int .i64 P, .int .i64 D], .int .i64 b, .int .i64 m] w fun e w' => e = .returned (.agg #[.int .i64 (qn (2 * b * m * P) D : Nat), .int .i64 (qd (2 * b * m * P) D : Nat)]) ∧ Below w.heap.size w w' := by
  have hs := span_le hb hm
  have hsP : 2 * b * m * P ≤ 60000 * 30 := Nat.mul_le_mul hs (Nat.le_trans hP hD)
  have HQ := fun w => rfRatio (2 * b * m * P) D w (by omega) (by omega) (by omega)
  have h3 := spanI b m
  have wa : IntKind.i64.wrap (2 * (b : Int)) = 2 * (b : Int) := wr64 (by omega) (by omega)
  have wb : IntKind.i64.wrap (2 * (b : Int) * (m : Int)) = 2 * (b : Int) * (m : Int) := by rw [h3]; exact wr64 (by omega) (by omega)
  have h4 : 2 * (b : Int) * (m : Int) * (P : Int) = ((2 * b * m * P : Nat) : Int) := by push_cast; rfl
  have wc : IntKind.i64.wrap (2 * (b : Int) * (m : Int) * (P : Int)) = 2 * (b : Int) * (m : Int) * (P : Int) := by rw [h4]; exact wr64 (by omega) (by omega)
  have HU := Lib.hid h4
  clear h3 h4
  generalize 2 * b * m * P = U at HQ HU hsP ⊢
  generalize qn U D = u at HQ ⊢
  generalize qd U D = v at HQ ⊢
  obtain ⟨w1, hw1, k1, hb1, hz1⟩ := boxS w (.cells #[.int .i64 P, .int .i64 D] 23)
  obtain ⟨w2, hw2, k2, hb2, hz2⟩ := boxS w1 (.cells #[.int .i64 0, .int .i64 0] 23)
  obtain ⟨p0, p1, -, -⟩ := cel2 (blkT k1 hb2)
  go_enter Tryz.func30, Tryz.ntmps30
  go_wp2_with fail
  rw [HU.out]
  refine (HQ _).mono ?_
  rintro e w3 ⟨rfl, hb3⟩
  have k3 := blkT k2 hb3
  obtain ⟨q0, q1, q2, q3⟩ := cel2 k3
  obtain ⟨s1, s2⟩ := set2 k3 (.int .i64 u) (.int .i64 v)
  obtain ⟨t0, t1, -, -⟩ := cel2 s1
  have hbw := tw (tw hb1 hb2) hb3
  have hbf := hbw.grown s2 hbw.size (fun j e => by cases e; exact hb1.size)
  go_wp2
  exact bodyPost_ret (v := .agg #[.int .i64 u, .int .i64 v]) (by simp [results, Tryz.results30, go_sem, t0, t1]) rfl ⟨rfl, hbf⟩
set_option maxHeartbeats 1000000 in
set_option maxRecDepth 100000 in
theorem rfHeight (P D b m : Nat) (w : World) (h1 : 1 ≤ P) (hP : P ≤ D) (hD : D ≤ 30) (hb : b ≤ 100) (hm : m ≤ 300) :
    Calls Tryz.prog 31 #[.agg #[.int .i64 P, .int .i64 D], .int .i64 b, .int .i64 m] w fun e w' => e = .returned (.agg #[.int .i64 (qn (upN (2 * b * m) P D) (D * D) : Nat), .int .i64 (qd (upN (2 * b * m) P D) (D * D) : Nat)]) ∧ Below w.heap.size w w' := by
  have hs := span_le hb hm
  have h3 := spanI b m
  have wa0 : IntKind.i64.wrap (2 * (b : Int)) = 2 * (b : Int) := wr64 (by omega) (by omega)
  have HS := Lib.hid h3
  have wb0 : IntKind.i64.wrap (2 * (b : Int) * (m : Int)) = ((2 * b * m : Nat) : Int) := by rw [h3]; exact wr64 (by omega) (by omega)
  clear h3
  generalize 2 * b * m = L at hs HS wb0 ⊢
  have hU := upN_le (P := P) hs hD
  have hDD : 0 < D * D := Nat.mul_pos (by omega) (by omega)
  have hDD2 : D * D ≤ 30 * 30 := Nat.mul_le_mul hD hD
  have HQ := fun w => rfSquare (upN L P D) (D * D) w (by omega) (by omega) hDD
  have HU := Lib.hid (upNI (L := L) hP)
  have HDD := Lib.hid (mulI D D)
  have b1 := mulB hs hs
  have b2 := mulB hD hD
  have b3 := mulB (Nat.le_trans hP hD) (Nat.le_trans hP hD)
  have b4 := sqSub hP
  have b5 : 0 ≤ (L : Int) * (L : Int) * ((D : Int) * (D : Int) - (P : Int) * (P : Int)) ∧ (L : Int) * (L : Int) * ((D : Int) * (D : Int) - (P : Int) * (P : Int)) ≤ 3240000000000 := by rw [HU.out]; omega
  obtain ⟨b10, b11⟩ := b1
  obtain ⟨b20, b21⟩ := b2
  obtain ⟨b30, b31⟩ := b3
  obtain ⟨b50, b51⟩ := b5
  clear b4 hU hDD hDD2
  generalize upN L P D = U at HQ HU ⊢
  generalize hE : D * D = E at HQ HDD ⊢
  generalize qn U E = u at HQ ⊢
  generalize qd U E = v at HQ ⊢
  clear hE
  obtain ⟨w1, hw1, k1, hb1, hz1⟩ := boxS w (.cells #[.int .i64 P, .int .i64 D] 23)
  obtain ⟨w2, hw2, k2, hb2, hz2⟩ := boxS w1 (.cells #[.int .i64 0, .int .i64 0] 24)
  obtain ⟨p0, p1, -, -⟩ := cel2 (blkT k1 hb2)
  go_enter Tryz.func31, Tryz.ntmps31
  go_wp2_with fail
  rw [HU.out, HDD.out]
  refine (HQ _).mono ?_
  rintro e w3 ⟨rfl, hb3⟩
  have k3 := blkT k2 hb3
  obtain ⟨q0, q1, q2, q3⟩ := cel2 k3
  obtain ⟨s1, s2⟩ := set2 k3 (.int .i64 u) (.int .i64 v)
  obtain ⟨t0, t1, -, -⟩ := cel2 s1
  have hbw := tw (tw hb1 hb2) hb3
  have hbf := hbw.grown s2 hbw.size (fun j e => by cases e; exact hb1.size)
  go_wp2
  exact bodyPost_ret (v := .agg #[.int .i64 u, .int .i64 v]) (by simp [results, Tryz.results31, go_sem, t0, t1]) rfl ⟨rfl, hbf⟩
end Go.Proofs.YtlkeejhaodedmaaGreatDoor

/- The reference's Compare, Root and Fullest. -/
namespace Go.Proofs.YtlkeejhaodedmaaGreatDoor
open Go.RowKit

set_option maxHeartbeats 1000000 in
set_option maxRecDepth 100000 in
theorem rfCompare (a b c d : Nat) (w : World) (ha : a ≤ 4000000000000) (hb : b ≤ 810000) (hc : c ≤ 4000000000000) (hd : d ≤ 810000) :
    Calls Tryz.prog 35 #[.agg #[.int .i64 a, .int .i64 b], .agg #[.int .i64 c, .int .i64 d]] w fun e w' => e = .returned (.int .i64 (cmpH ((a : Int) * d) ((c : Int) * b))) ∧ Below w.heap.size w w' := by
  have b1 := mulB ha hd
  have b2 := mulB hc hb
  obtain ⟨b10, b11⟩ := b1
  obtain ⟨b20, b21⟩ := b2
  obtain ⟨w1, hw1, k1, hb1, hz1⟩ := boxS w (.cells #[.int .i64 a, .int .i64 b] 24)
  obtain ⟨w2, hw2, k2, hb2, hz2⟩ := boxS w1 (.cells #[.int .i64 c, .int .i64 d] 24)
  obtain ⟨c0, c1, -, -⟩ := cel2 (blkT k1 hb2)
  obtain ⟨d0, d1, -, -⟩ := cel2 k2
  unfold cmpH
  have hB := tw hb1 hb2
  have wx : IntKind.i64.wrap ((a : Int) * (d : Int)) = (a : Int) * (d : Int) := wr64 (by omega) (by omega)
  have wy : IntKind.i64.wrap ((c : Int) * (b : Int)) = (c : Int) * (b : Int) := wr64 (by omega) (by omega)
  by_cases h1 : (a : Int) * d < (c : Int) * b
  · rw [if_pos h1]
    go_enter Tryz.func35, Tryz.ntmps35
    go_wp2_with fail
    go_region
    go_wp2_with fail
    go_ret
    exact ⟨rfl, below_drew hB⟩
  · rw [if_neg h1]
    by_cases h2 : (c : Int) * b < (a : Int) * d
    · rw [if_pos h2]
      go_enter Tryz.func35, Tryz.ntmps35
      go_wp2_with fail
      go_region
      go_wp2_with fail
      go_ret
      exact ⟨rfl, below_drew hB⟩
    · rw [if_neg h2]
      go_enter Tryz.func35, Tryz.ntmps35
      go_wp2_with fail
      go_region
      go_wp2_with fail
      go_ret
      exact ⟨rfl, below_drew hB⟩
theorem tenK_pow {K : Nat} (h : K ≤ 2) : tenK (K : Int) = 10 ^ K := by
  have : K = 0 ∨ K = 1 ∨ K = 2 := by omega
  rcases this with rfl | rfl | rfl <;> rfl
theorem pow_le {j : Nat} (h : j ≤ 2) : 10 ^ j ≤ 100 := by
  have : j = 0 ∨ j = 1 ∨ j = 2 := by omega
  rcases this with rfl | rfl | rfl <;> decide
theorem pow_pos' (j : Nat) : 1 ≤ 10 ^ j := Nat.pos_of_ne_zero (by simp)
set_option maxHeartbeats 4000000 in
set_option maxRecDepth 100000 in
theorem rfRootN (a b K T r u v : Nat) (w : World) (ha : a ≤ 4000000000000) (hb0 : 1 ≤ b) (hb9 : b ≤ 810000) (hk : K ≤ 2) (hT : 10 ^ K = T) (hU : ∀ r', IsRt (a * T * T / b) r' → r' = r)
    (HR : ∀ w, Calls Tryz.prog 81 #[.int .i64 r, .int .i64 T] w fun e w' => e = .returned (.agg #[.int .i64 u, .int .i64 v]) ∧ Below w.heap.size w w') :
    Calls Tryz.prog 36 #[.agg #[.int .i64 a, .int .i64 b], .int .i64 K] w fun e w' => e = .returned (.agg #[.int .i64 u, .int .i64 v]) ∧ Below w.heap.size w w' := by
  have t1 : T ≤ 100 := by rw [← hT]; exact pow_le hk
  have m1 : a * T ≤ 4000000000000 * 100 := Nat.mul_le_mul ha t1
  have m2 : a * T * T ≤ 4000000000000 * 100 * 100 := Nat.mul_le_mul m1 t1
  have m3 : a * T * T / b ≤ 4000000000000 * 100 * 100 := Nat.le_trans (Nat.div_le_self _ _) m2
  have hn : ((a : Int) * (T : Int) * (T : Int)).tdiv (b : Int) = ((a * T * T / b : Nat) : Int) := by rw [← divN]; push_cast; rfl
  have i1 : (a : Int) * (T : Int) = ((a * T : Nat) : Int) := by push_cast; rfl
  have i2 : (a : Int) * (T : Int) * (T : Int) = ((a * T * T : Nat) : Int) := by push_cast; rfl
  have w1 : IntKind.i64.wrap ((a : Int) * (T : Int)) = (a : Int) * (T : Int) := by rw [i1]; exact wr64 (by omega) (by omega)
  have w2 : IntKind.i64.wrap ((a : Int) * (T : Int) * (T : Int)) = (a : Int) * (T : Int) * (T : Int) := by rw [i2]; exact wr64 (by omega) (by omega)
  have hN0 : 0 * 0 ≤ a * T * T / b ∧ a * T * T / b < 1000000000 * 1000000000 := ⟨Nat.zero_le _, Nat.lt_of_le_of_lt m3 (by decide)⟩
  generalize a * T * T / b = N at hU m3 hn hN0
  have HU := Lib.hid hU
  have HT := Lib.hid hT
  have hb1 : ¬ (b : Int) = 0 := by omega
  have hb2 : ((b : Int) != 0) = true := by rw [bne_iff_ne]; omega
  have w3 : IntKind.i64.wrap (N : Int) = (N : Int) := wr64 (by omega) (by omega)
  clear i1 i2 m1 m2 hU hT
  obtain ⟨w1', hw1, k1, hb1', hz1⟩ := boxS w (.cells #[.int .i64 a, .int .i64 b] 24)
  obtain ⟨w2', hw2, k2, hb2', hz2⟩ := boxS w1' (.cells #[.int .i64 0, .int .i64 0] 23)
  obtain ⟨c0, c1, -, -⟩ := cel2 (blkT k1 hb2')
  go_enter Tryz.func36, Tryz.ntmps36
  go_wp2_with fail
  go_loopg [5, 6] K (fun g t i wi => ∃ j : Nat, j ≤ K ∧ g = K - j ∧ t = .int .i64 (10 ^ j : Nat) ∧ i = .int .i64 j ∧ w2' = wi)
  case atStart => exact ⟨0, Nat.zero_le _, by omega, rfl, rfl, rfl⟩
  case round =>
    obtain ⟨j, hj, hg, rfl, rfl, rfl⟩ := hrel
    by_cases hlt : j < K
    · have p1 := pow_le (show j ≤ 2 by omega)
      have HP := Lib.hid (show 10 ^ j * 10 = 10 ^ (j + 1) from (Nat.pow_succ ..).symm)
      generalize 10 ^ j = x at p1 HP
      have hl : (j : Int) < (K : Int) := by omega
      have wx : IntKind.i64.wrap ((x : Int) * 10) = (x : Int) * 10 := wr64 (by omega) (by omega)
      go_wp2_with fail
      go_roundg (K - (j + 1))
      case measure => omega
      case rel => exact ⟨j + 1, by omega, rfl, by rw [← HP.out]; push_cast; rfl, by go_num, rfl⟩
    · obtain rfl : j = K := by omega
      rw [HT.out]
      have hl : ¬ (j : Int) < (j : Int) := by omega
      go_wp2_with fail
      go_loopg [7, 8] 1000000000 (fun g lo hi wi => ∃ x y : Nat, x < y ∧ y ≤ 1000000000 ∧ y ≤ g + x ∧ x * x ≤ N ∧ N < y * y ∧ lo = .int .i64 x ∧ hi = .int .i64 y ∧ w2' = wi)
      case atStart => exact ⟨0, 1000000000, by decide, by decide, by omega, hN0.1, hN0.2, rfl, rfl, rfl⟩
      case round =>
        obtain ⟨x, y, h1, h2, h3, h4, h5, rfl, rfl, rfl⟩ := hrel
        have wd : IntKind.i64.wrap ((y : Int) - (x : Int)) = (y : Int) - (x : Int) := wr64 (by omega) (by omega)
        by_cases hone : x + 1 = y
        · subst hone
          obtain rfl : x = r := HU.out x ⟨h4, h5⟩
          have hc : ¬ (1 : Int) < ((x + 1 : Nat) : Int) - (x : Int) := by omega
          clear h4 h5
          go_wp2_with fail
          refine (HR _).mono ?_
          rintro e w3 ⟨rfl, hb3⟩
          have k3 := blkT k2 hb3
          obtain ⟨q0, q1, q2, q3⟩ := cel2 k3
          obtain ⟨s1, s2⟩ := set2 k3 (.int .i64 u) (.int .i64 v)
          obtain ⟨t0, t1, -, -⟩ := cel2 s1
          have hbw := tw (tw hb1' hb2') hb3
          have hbf := hbw.grown s2 hbw.size (fun j e => by cases e; exact hb1'.size)
          go_wp2
          exact bodyPost_ret (v := .agg #[.int .i64 u, .int .i64 v]) (by simp [results, Tryz.results36, go_sem, t0, t1]) rfl ⟨rfl, hbf⟩
        · have hc : (1 : Int) < (y : Int) - (x : Int) := by omega
          have ws : IntKind.i64.wrap ((x : Int) + (y : Int)) = (x : Int) + (y : Int) := wr64 (by omega) (by omega)
          have hm : ((x : Int) + (y : Int)).tdiv 2 = (((x + y) / 2 : Nat) : Int) := by rw [← divN]; push_cast; rfl
          have hm1 : x < (x + y) / 2 ∧ (x + y) / 2 < y := by omega
          obtain ⟨hm2, hm3⟩ := hm1
          generalize (x + y) / 2 = m at hm hm2 hm3
          have wm : IntKind.i64.wrap (m : Int) = (m : Int) := wr64 (by omega) (by omega)
          have b1 := mulB (show m ≤ 1000000000 by omega) (show m ≤ 1000000000 by omega)
          obtain ⟨b10, b11⟩ := b1
          have wmm : IntKind.i64.wrap ((m : Int) * (m : Int)) = (m : Int) * (m : Int) := wr64 (by omega) (by omega)
          have emm : ((m * m : Nat) : Int) = (m : Int) * (m : Int) := by push_cast; rfl
          by_cases hle : m * m ≤ N
          · have hl : (m : Int) * (m : Int) ≤ (N : Int) := by omega
            have HLE := Lib.hid hle
            have H5 := Lib.hid h5
            clear hle h4 h5 emm
            go_wp2_with fail
            go_roundg (y - m)
            case measure => omega
            case rel => exact ⟨m, y, hm3, h2, by omega, HLE.out, H5.out, rfl, rfl, rfl⟩
          · have hl : ¬ (m : Int) * (m : Int) ≤ (N : Int) := by omega
            have HLE := Lib.hid (show N < m * m by omega)
            have H4 := Lib.hid h4
            clear hle h4 h5 emm
            go_wp2_with fail
            go_roundg (m - x)
            case measure => omega
            case rel => exact ⟨x, m, hm2, by omega, by omega, H4.out, HLE.out, rfl, rfl, rfl⟩
theorem rfRoot (a b : Nat) (k : Int) (w : World) (ha : a ≤ 4000000000000) (hb0 : 1 ≤ b) (hb9 : b ≤ 810000) (hk0 : 0 ≤ k) (hk : k ≤ 2) :
    Calls Tryz.prog 36 #[.agg #[.int .i64 a, .int .i64 b], .int .i64 k] w fun e w' => e = .returned (.agg #[.int .i64 (qn (rtQ a b k) (tenK k) : Nat), .int .i64 (qd (rtQ a b k) (tenK k) : Nat)]) ∧ Below w.heap.size w w' := by
  obtain ⟨K, rfl⟩ : ∃ K : Nat, k = (K : Int) := ⟨k.toNat, by omega⟩
  have hK : K ≤ 2 := by omega
  have t1 := pow_le hK
  have t2 := pow_pos' K
  unfold rtQ
  rw [tenK_pow hK]
  simp only [Int.toNat_natCast]
  have m1 : a * 10 ^ K ≤ 4000000000000 * 100 := Nat.mul_le_mul ha t1
  have m2 : a * 10 ^ K * 10 ^ K ≤ 4000000000000 * 100 * 100 := Nat.mul_le_mul m1 t1
  have m3 : a * 10 ^ K * 10 ^ K / b ≤ 4000000000000 * 100 * 100 := Nat.le_trans (Nat.div_le_self _ _) m2
  have hrl : isq (a * 10 ^ K * 10 ^ K / b) ≤ 1000000000 := isq_le_of (Nat.lt_of_le_of_lt m3 (by decide))
  exact rfRootN a b K _ _ _ _ w ha hb0 hb9 hK rfl (fun r' h => (isq_eq h).symm) (fun w => rfRatio _ _ w (by omega) (by omega) (by omega))
end Go.Proofs.YtlkeejhaodedmaaGreatDoor

/- Roots and decimals: plain mathematics. -/
namespace Go.Proofs.YtlkeejhaodedmaaGreatDoor
open Go.RowKit

theorem IsRt.mono {n m r s : Nat} (h : IsRt n r) (k : IsRt m s) (hn : n ≤ m) : r ≤ s := by
  rcases Nat.lt_or_ge s r with h' | h'
  · have := Nat.mul_le_mul (show s + 1 ≤ r by omega) (show s + 1 ≤ r by omega)
    have := h.1
    have := k.2
    omega
  · exact h'
theorem IsRt.ten {n m r s : Nat} (h : IsRt n r) (k : IsRt m s) (h1 : 100 * n ≤ m) (h2 : m < 100 * (n + 1)) : 10 * r ≤ s ∧ s < 10 * (r + 1) := by
  obtain ⟨a1, a2⟩ := h
  obtain ⟨b1, b2⟩ := k
  constructor
  · rcases Nat.lt_or_ge s (10 * r) with h' | h'
    · have := Nat.mul_le_mul (show s + 1 ≤ 10 * r by omega) (show s + 1 ≤ 10 * r by omega)
      have e : 10 * r * (10 * r) = 100 * (r * r) := by grind
      omega
    · exact h'
  · rcases Nat.lt_or_ge s (10 * (r + 1)) with h' | h'
    · exact h'
    · have := Nat.mul_le_mul h' h'
      have e : 10 * (r + 1) * (10 * (r + 1)) = 100 * ((r + 1) * (r + 1)) := by grind
      omega
theorem dec_step {a b : Nat} (t : Nat) (hb : 0 < b) : 100 * (a * t * t / b) ≤ a * (t * 10) * (t * 10) / b ∧ a * (t * 10) * (t * 10) / b < 100 * (a * t * t / b + 1) := by
  have e : a * (t * 10) * (t * 10) = 100 * (a * t * t) := by grind
  rw [e]
  generalize a * t * t = x
  constructor
  · rw [Nat.le_div_iff_mul_le hb, Nat.mul_assoc]
    exact Nat.mul_le_mul (Nat.le_refl _) (Nat.div_mul_le_self _ _)
  · rw [Nat.div_lt_iff_lt_mul hb, Nat.mul_assoc]
    refine Nat.mul_lt_mul_of_pos_left ?_ (by decide)
    have e1 := Nat.div_add_mod x b
    have := Nat.mod_lt x hb
    rw [Nat.mul_comm] at e1
    rw [Nat.add_mul]
    omega
theorem cross_le {a b c d : Nat} (t : Nat) (hb : 0 < b) (hd : 0 < d) (h : a * d ≤ c * b) : a * t * t / b ≤ c * t * t / d := by
  rw [Nat.le_div_iff_mul_le hd]
  have h1 : a * t * t / b * d * b ≤ c * t * t * b := by
    have h2 := Nat.div_mul_le_self (a * t * t) b
    have h3 : a * t * t / b * d * b = a * t * t / b * b * d := by grind
    have h4 : a * t * t * d ≤ c * t * t * b := by
      have e1 : a * t * t * d = a * d * (t * t) := by grind
      have e2 : c * t * t * b = c * b * (t * t) := by grind
      rw [e1, e2]
      exact Nat.mul_le_mul h (Nat.le_refl _)
    rw [h3]
    exact Nat.le_trans (Nat.mul_le_mul h2 (Nat.le_refl _)) h4
  exact Nat.le_of_mul_le_mul_right h1 hb
theorem qd_all {a b : Nat} (h : 0 < b) : b % qd a b = 0 ∧ 0 < qd a b ∧ qn a b * (b / qd a b) = a ∧ (qn a b).gcd (qd a b) = 1 ∧ qn a b ≤ a ∧ qd a b ≤ b ∧ b / qd a b ≤ b := by
  have hg : 0 < a.gcd b := Nat.gcd_pos_of_pos_right _ h
  obtain ⟨x, hx⟩ := Nat.gcd_dvd_left a b
  obtain ⟨y, hy⟩ := Nat.gcd_dvd_right a b
  have e1 : qn a b = x := by unfold qn; rw [Nat.div_eq_iff_eq_mul_right hg (Nat.gcd_dvd_left a b)]; exact hx
  have e2 : qd a b = y := by unfold qd; rw [Nat.div_eq_iff_eq_mul_right hg (Nat.gcd_dvd_right a b)]; exact hy
  have hy0 : 0 < y := by
    rcases Nat.eq_zero_or_pos y with h0 | h0
    · rw [h0, Nat.mul_zero] at hy; omega
    · exact h0
  have e3 : b / y = a.gcd b := by rw [Nat.div_eq_iff_eq_mul_left hy0 ⟨_, by rw [Nat.mul_comm]; exact hy⟩]; exact hy
  refine ⟨?_, by rw [e2]; exact hy0, ?_, ?_, by unfold qn; exact Nat.div_le_self _ _, by unfold qd; exact Nat.div_le_self _ _, Nat.div_le_self _ _⟩
  · rw [e2]; exact Nat.mod_eq_zero_of_dvd ⟨_, by rw [Nat.mul_comm]; exact hy⟩
  · rw [e1, e2, e3, Nat.mul_comm]; exact hx.symm
  · unfold qn qd; exact Nat.gcd_div_gcd_div_gcd_of_pos_right h
end Go.Proofs.YtlkeejhaodedmaaGreatDoor

/- The reference's Fullest. -/
namespace Go.Proofs.YtlkeejhaodedmaaGreatDoor
open Go.RowKit

def fN (b : Nat × Nat) : Nat := qn (fuN b.1 b.2) (b.2 * b.2 * (b.2 * b.2))
def fD (b : Nat × Nat) : Nat := qd (fuN b.1 b.2) (b.2 * b.2 * (b.2 * b.2))
def cmpF (n d : Nat) (b : Nat × Nat) : Int := cmpH ((fN (n, d) : Nat) * (fD b : Nat)) ((fN b : Nat) * (fD (n, d) : Nat))
def stepB (b : Nat × Nat) (n d : Nat) : Nat × Nat :=
  if n.gcd d = 1 then
    if 0 < cmpF n d b then (n, d) else if cmpF n d b = 0 ∧ n * b.2 < b.1 * d then (n, d) else b
  else b
def rowB (b : Nat × Nat) (d : Nat) : Nat → Nat × Nat
  | 0 => b
  | n + 1 => stepB (rowB b d n) (n + 1) d
def allB : Nat → Nat × Nat
  | 0 => (1, 1)
  | d + 1 => rowB (allB d) (d + 1) (d + 1)
def okAll (p : Nat) : Bool := allB p == ((bst p).n, (bst p).d)
theorem okAll_all : ∀ k : Fin 30, okAll (k.val + 1) = true := by decide +kernel
theorem allB_bst {p : Nat} (h1 : 1 ≤ p) (h2 : p ≤ 30) : allB p = ((bst p).n, (bst p).d) := by
  have h := okAll_all ⟨p - 1, by omega⟩
  simp only [okAll] at h
  rw [show p - 1 + 1 = p by omega] at h
  exact eq_of_beq h
def OkB (b : Nat × Nat) : Prop := 1 ≤ b.1 ∧ b.1 ≤ b.2 ∧ b.2 ≤ 30
theorem stepB_ok {b : Nat × Nat} {n d : Nat} (h : OkB b) (h1 : 1 ≤ n) (h2 : n ≤ d) (h3 : d ≤ 30) : OkB (stepB b n d) := by
  unfold stepB
  repeat' split
  all_goals first | exact h | exact ⟨h1, h2, h3⟩
theorem fN_le {b : Nat × Nat} (h : OkB b) : fN b ≤ 4000000000000 := by
  unfold fN
  have := fuN_le h.2.1 h.2.2
  exact Nat.le_trans (Nat.div_le_self _ _) (Nat.le_trans this (by decide))
theorem fD_le {b : Nat × Nat} (h : OkB b) : fD b ≤ 810000 := by
  unfold fD
  have h2 : b.2 * b.2 ≤ 30 * 30 := Nat.mul_le_mul h.2.2 h.2.2
  exact Nat.le_trans (Nat.div_le_self _ _) (Nat.le_trans (Nat.mul_le_mul h2 h2) (by decide))
theorem rfFul {b : Nat × Nat} (h : OkB b) (w : World) :
    Calls Tryz.prog 18 #[.agg #[.int .i64 b.1, .int .i64 b.2]] w fun e w' => e = .returned (.agg #[.int .i64 (fN b), .int .i64 (fD b)]) ∧ Below w.heap.size w w' :=
  rfFullness b.1 b.2 w h.1 h.2.1 h.2.2
theorem rfFul2 (x y : Nat) (w : World) (h : OkB (x, y)) :
    Calls Tryz.prog 18 #[.agg #[.int .i64 x, .int .i64 y]] w fun e w' => e = .returned (.agg #[.int .i64 (fN (x, y)), .int .i64 (fD (x, y))]) ∧ Below w.heap.size w w' := rfFul h w
theorem rfCmpF {b : Nat × Nat} {n d : Nat} (h : OkB b) (h' : OkB (n, d)) (w : World) :
    Calls Tryz.prog 35 #[.agg #[.int .i64 (fN (n, d)), .int .i64 (fD (n, d))], .agg #[.int .i64 (fN b), .int .i64 (fD b)]] w fun e w' => e = .returned (.int .i64 (cmpF n d b)) ∧ Below w.heap.size w w' :=
  rfCompare _ _ _ _ w (fN_le h') (fD_le h') (fN_le h) (fD_le h)
set_option maxHeartbeats 4000000 in
set_option maxRecDepth 100000 in
theorem rfFullestN (p : Nat) (w : World) (h2 : p ≤ 30) :
    Calls Tryz.prog 37 #[.int .i64 p] w fun e w' => e = .returned (.agg #[.int .i64 ((allB p).1 : Nat), .int .i64 ((allB p).2 : Nat)]) ∧ Below w.heap.size w w' := by
  obtain ⟨w1, hw1, k1, hb1, hz1⟩ := boxS w (.cells #[.int .i64 0, .int .i64 0] 23)
  obtain ⟨w2, hw2, k2, hb2, hz2⟩ := boxS w1 (.cells #[.int .i64 0, .int .i64 0] 23)
  obtain ⟨q0, q1, q2, q3⟩ := cel2 k2
  obtain ⟨s1, s2⟩ := set2 k2 (.int .i64 1) (.int .i64 1)
  have kz := (s2.block _ (blkSz (blkT k1 hb2)) (by intro e; injection e with e; omega)).trans (blkT k1 hb2)
  have hbw := tw hb1 hb2
  have hbf := hbw.grown s2 hbw.size (fun j e => by cases e; exact hb1.size)
  go_enter Tryz.func37, Tryz.ntmps37
  go_wp2_with fail
  go_loopg [4] p (fun g d wi => ∃ D : Nat, D ≤ p ∧ g + D = p ∧ d = .int .i64 ((D + 1 : Nat) : Int) ∧ OkB (allB D) ∧ wi.heap[w1.heap.size]? = some (.cells #[.int .i64 (allB D).1, .int .i64 (allB D).2] 23 (0, 0)) ∧ wi.heap[w.heap.size]? = some (.cells #[.int .i64 0, .int .i64 0] 23 (0, 0)) ∧ Below w.heap.size w wi)
  case atStart => exact ⟨0, Nat.zero_le _, by omega, rfl, ⟨by decide, by decide, by decide⟩, s1, kz, hbf⟩
  case round =>
    clear q0 q1 q2 q3 s1 s2 kz hbf hbw k1 k2
    obtain ⟨D, hD, hg, rfl, hok, kb, kz, hb⟩ := hrel
    by_cases hlt : D < p
    · have hl : ((D + 1 : Nat) : Int) ≤ (p : Int) := by omega
      have hokD : ∀ N, N ≤ D + 1 → OkB (rowB (allB D) (D + 1) N) := by
        intro N
        induction N with
        | zero => exact fun _ => hok
        | succ N ih => exact fun hN => stepB_ok (ih (by omega)) (by omega) hN (by omega)
      have HOK := Lib.hid hokD
      have HAB := Lib.hid (show allB (D + 1) = rowB (allB D) (D + 1) (D + 1) from rfl)
      have HR0 := Lib.hid (show rowB (allB D) (D + 1) 0 = allB D from rfl)
      have HRS := Lib.hid (fun N => show rowB (allB D) (D + 1) (N + 1) = stepB (rowB (allB D) (D + 1) N) (N + 1) (D + 1) from rfl)
      generalize allB D = a0 at *
      generalize hd1 : D + 1 = d1 at *
      have HD1 := Lib.hid hd1
      have wD : IntKind.i64.wrap (d1 : Int) = (d1 : Int) := wr64 (by omega) (by omega)
      clear hd1 hokD hok
      go_wp2_with fail
      go_loopg [5] d1 (fun g n wi => ∃ N : Nat, N ≤ d1 ∧ g + N = d1 ∧ n = .int .i64 ((N + 1 : Nat) : Int) ∧ wi.heap[w1.heap.size]? = some (.cells #[.int .i64 (rowB a0 d1 N).1, .int .i64 (rowB a0 d1 N).2] 23 (0, 0)) ∧ wi.heap[w.heap.size]? = some (.cells #[.int .i64 0, .int .i64 0] 23 (0, 0)) ∧ Below w.heap.size w wi)
      case atStart => exact ⟨0, Nat.zero_le _, by omega, rfl, by rw [HR0.out]; exact kb, kz, hb⟩
      case round =>
        clear kb kz hb
        obtain ⟨N, hN, hg2, rfl, kb, kz, hb⟩ := hrel
        by_cases hNd : N < d1
        · have hl2 : ((N + 1 : Nat) : Int) ≤ (d1 : Int) := by omega
          have ho1 := HOK.out N (by omega)
          obtain ⟨n1, hn1⟩ : ∃ x, N + 1 = x := ⟨_, rfl⟩
          obtain ⟨b0, hb0⟩ : ∃ x, rowB a0 d1 N = x := ⟨_, rfl⟩
          have HS1 := Lib.hid (show rowB a0 d1 n1 = stepB b0 n1 d1 by rw [← hn1, ← hb0]; exact HRS.out N)
          rw [hb0] at kb ho1
          rw [hn1] at hl2 ⊢
          have HN1 := Lib.hid hn1
          have l1 : 1 ≤ n1 ∧ n1 ≤ d1 ∧ d1 ≤ 30 := by have := HD1.out; omega
          obtain ⟨l1, l2, l3⟩ := l1
          clear hn1 hb0
          go_wp2_with fail
          refine (rfDivisor d1 n1 _ (by omega) (by omega)).mono ?_
          rintro e w3 ⟨rfl, hb3⟩
          obtain ⟨gg, hgg⟩ : ∃ x, n1.gcd d1 = x := ⟨_, rfl⟩
          rw [hgg]
          have HG := Lib.hid hgg
          clear hgg
          replace kb := blkT kb hb3
          replace kz := blkT kz hb3
          replace hb := tw hb hb3
          have wn : IntKind.i64.wrap ((n1 : Int) + 1) = (n1 : Int) + 1 := wr64 (by omega) (by omega)
          by_cases hone : gg = 1
          · subst hone
            obtain ⟨w4, hw4, k4, hb4, hz4⟩ := boxS w3 (.cells #[.int .i64 0, .int .i64 0] 23)
            obtain ⟨q0, q1, q2, q3⟩ := cel2 k4
            obtain ⟨s1, s2⟩ := set2 k4 (.int .i64 n1) (.int .i64 d1)
            have z3 : w.heap.size ≤ w3.heap.size := hb.size
            have z31 := blkSz kb
            have z30 := blkSz kz
            have kb5 := (s2.block _ (blkSz (blkT kb hb4)) (by intro e; injection e with e; omega)).trans (blkT kb hb4)
            have kz5 := (s2.block _ (blkSz (blkT kz hb4)) (by intro e; injection e with e; omega)).trans (blkT kz hb4)
            have hb5 := (tw hb hb4).grown s2 (tw hb hb4).size (fun j e => by cases e; exact z3)
            obtain ⟨P0, D0⟩ := b0
            have HO1 := Lib.hid (show OkB (n1, d1) from ⟨l1, l2, l3⟩)
            have HO2 := Lib.hid ho1
            have HC := fun w => rfCmpF (n := n1) (d := d1) ho1 ⟨l1, l2, l3⟩ w
            simp only at kb5
            have HS2 := Lib.hid HS1.out
            rw [stepB, if_pos HG.out] at HS2
            obtain ⟨o1, o2, o3⟩ := ho1
            simp only at o1 o2 o3 HS2
            have m1 := mulB (show n1 ≤ 30 by omega) o3
            have m2 := mulB (show P0 ≤ 30 by omega) l3
            obtain ⟨m10, m11⟩ := m1
            obtain ⟨m20, m21⟩ := m2
            have wm1 : IntKind.i64.wrap ((n1 : Int) * (D0 : Int)) = (n1 : Int) * (D0 : Int) := wr64 (by omega) (by omega)
            have wm2 : IntKind.i64.wrap ((P0 : Int) * (d1 : Int)) = (P0 : Int) * (d1 : Int) := wr64 (by omega) (by omega)
            generalize cmpF n1 d1 (P0, D0) = c at HC HS2
            clear kb kz hb k4 hb3 HS1
            go_wp2_with fail
            generalize (w4.setCell ⟨w3.heap.size, 0, none⟩ (.int .i64 n1)).setCell ⟨w3.heap.size, 1, none⟩ (.int .i64 d1) = w5 at s1 s2 kb5 kz5 hb5 ⊢
            clear q0 q1 q2 q3
            obtain ⟨c0, c1, -, -⟩ := cel2 s1
            obtain ⟨d0, d1', -, -⟩ := cel2 kb5
            have B5 := Below.refl w5.heap.size w5
            have z1 := blkSz s1
            have z2 := blkSz kb5
            go_region_held3 (fun w' => w'.cell? ⟨w3.heap.size, 0, none⟩ = some (.int .i64 n1) ∧ w'.cell? ⟨w3.heap.size, 1, none⟩ = some (.int .i64 d1) ∧ w'.cell? ⟨w1.heap.size, 0, none⟩ = some (.int .i64 P0) ∧ w'.cell? ⟨w1.heap.size, 1, none⟩ = some (.int .i64 D0) ∧ Below w5.heap.size w5 w' ∧ w3.heap.size < w'.heap.size ∧ w1.heap.size < w'.heap.size)
              (first | exact ⟨c0, c1, d0, d1', B5, z1, z2⟩ | exact ⟨c0, c1, d0, d1', below_drew B5, z1, z2⟩ | exact keep22 (by assumption) (by assumption) | exact keep22 (by assumption) ((Below.refl _ _).alloc (Nat.le_refl _) _) | assumption | exact keep22 (by assumption) (below_drew (Below.refl _ _)) | go_keep)
              (first
                | (go_at_call 18; refine (rfFul2 _ _ _ (by first | exact HO1.out | exact HO2.out)).mono ?_; rintro e w' ⟨rfl, hb⟩)
                | (go_at_call 35; refine (HC _).mono ?_; rintro e w' ⟨rfl, hb⟩))
            all_goals
              rename_i hH
              obtain ⟨x0, x1, x2, x3, hB9, -, -⟩ := hH
              clear x0 x1 x2 x3
              obtain ⟨g0, g1, -, -⟩ := cel2 (blkT s1 hB9)
              obtain ⟨r0, r1, r2, r3⟩ := cel2 (blkT kb5 hB9)
              obtain ⟨s3, s4⟩ := set2 (blkT kb5 hB9) (.int .i64 n1) (.int .i64 d1)
              have kb9 := blkT kb5 hB9
              have kz9 := blkT kz5 hB9
              have hb9 := tw hb5 hB9
              have kz10 := (s4.block _ (blkSz kz9) (by intro e; injection e with e; omega)).trans kz9
              have hb10 := hb9.grown s4 hb9.size (fun j e => by cases e; exact hb1.size)
              clear c0 c1 d0 d1' B5 z1 z2 HO1 HO2 HC
              by_cases hc : 0 < c
              · have hcx : ¬ c ≤ 0 := by omega
                have HSB := Lib.hid (show rowB a0 d1 n1 = (n1, d1) by rw [HS2.out, if_pos hc])
                clear HS2
                go_wp2_with fail
                go_roundg (d1 - n1)
                case measure => have := HN1.out; omega
                case rel => exact ⟨n1, l2, by omega, by go_num, by rw [HSB.out]; exact s3, kz10, hb10⟩
              · by_cases hc0 : c = 0
                · subst hc0
                  by_cases hp : n1 * D0 < P0 * d1
                  · have hpi : (n1 : Int) * (D0 : Int) < (P0 : Int) * (d1 : Int) := by
                      have := Int.ofNat_lt.2 hp
                      push_cast at this
                      exact this
                    have HPP := Lib.hid hp
                    clear hp
                    have HSB := Lib.hid (show rowB a0 d1 n1 = (n1, d1) by rw [HS2.out, if_neg hc, if_pos ⟨rfl, HPP.out⟩])
                    clear HS2
                    go_wp2_with fail
                    go_roundg (d1 - n1)
                    case measure => have := HN1.out; omega
                    case rel => exact ⟨n1, l2, by omega, by go_num, by rw [HSB.out]; exact s3, kz10, hb10⟩
                  · have hpi : ¬ (n1 : Int) * (D0 : Int) < (P0 : Int) * (d1 : Int) := fun h => hp (by
                      have e1 : (n1 : Int) * (D0 : Int) = ((n1 * D0 : Nat) : Int) := by push_cast; rfl
                      have e2 : (P0 : Int) * (d1 : Int) = ((P0 * d1 : Nat) : Int) := by push_cast; rfl
                      rw [e1, e2] at h
                      exact Int.ofNat_lt.1 h)
                    have HPP := Lib.hid hp
                    clear hp
                    have HSB := Lib.hid (show rowB a0 d1 n1 = (P0, D0) by rw [HS2.out, if_neg hc, if_neg (fun h => HPP.out h.2)])
                    clear HS2
                    go_wp2_with fail
                    go_roundg (d1 - n1)
                    case measure => have := HN1.out; omega
                    case rel => exact ⟨n1, l2, by omega, by go_num, by rw [HSB.out]; exact kb9, kz9, hb9⟩
                · have hcl : c < 0 := by omega
                  have hcb : (c == 0) = false := by rw [beq_eq_false_iff_ne]; exact hc0
                  have HSB := Lib.hid (show rowB a0 d1 n1 = (P0, D0) by rw [HS2.out, if_neg hc, if_neg (fun h => hc0 h.1)])
                  clear HS2
                  go_wp2_with fail
                  go_roundg (d1 - n1)
                  case measure => have := HN1.out; omega
                  case rel => exact ⟨n1, l2, by omega, by go_num, by rw [HSB.out]; exact kb9, kz9, hb9⟩
          · have hne : ((gg : Int) != 1) = true := by rw [bne_iff_ne]; omega
            have HSB := Lib.hid (show rowB a0 d1 n1 = b0 by rw [HS1.out, stepB, if_neg (by rw [HG.out]; exact hone)])
            go_wp2_with fail
            go_roundg (d1 - n1)
            case measure => have := HN1.out; omega
            case rel => exact ⟨n1, l2, by omega, by go_num, by rw [HSB.out]; exact kb, kz, hb⟩
        · obtain rfl : d1 = N := by omega
          have hl2 : ¬ ((d1 + 1 : Nat) : Int) ≤ (d1 : Int) := by omega
          go_wp2_with fail
          go_roundg (p - (D + 1))
          case measure => have := HD1.out; omega
          case rel => exact ⟨D + 1, by omega, by omega, by rw [HD1.out]; go_num, by rw [HD1.out, HAB.out]; exact HOK.out _ (Nat.le_refl _), by rw [HD1.out, HAB.out]; exact kb, kz, hb⟩
    · obtain rfl : D = p := by omega
      have hl : ¬ ((D + 1 : Nat) : Int) ≤ (D : Int) := by omega
      obtain ⟨c0, c1, -, -⟩ := cel2 kb
      obtain ⟨e0, e1, e2, e3⟩ := cel2 kz
      obtain ⟨s1, s2⟩ := set2 kz (.int .i64 (allB D).1) (.int .i64 (allB D).2)
      obtain ⟨f0, f1, -, -⟩ := cel2 s1
      have hbf := hb.grown s2 hb.size (fun j e => by cases e; exact Nat.le_refl _)
      go_wp2
      exact bodyPost_ret (v := .agg #[.int .i64 (allB D).1, .int .i64 (allB D).2]) (by simp [results, Tryz.results37, go_sem, f0, f1]) rfl ⟨rfl, hbf⟩
theorem rfFullest (p : Int) (w : World) (h1 : 1 ≤ p) (h2 : p ≤ 30) :
    Calls Tryz.prog 37 #[.int .i64 p] w fun e w' => e = .returned (.agg #[.int .i64 ((bst p.toNat).n : Int), .int .i64 ((bst p.toNat).d : Int)]) ∧ Below w.heap.size w w' := by
  obtain ⟨P, rfl⟩ : ∃ P : Nat, p = (P : Int) := ⟨p.toNat, by omega⟩
  have h := rfFullestN P w (by omega)
  rw [allB_bst (by omega) (by omega)] at h
  exact h
end Go.Proofs.YtlkeejhaodedmaaGreatDoor

/- The law HangRoots. -/
namespace Go.Proofs.YtlkeejhaodedmaaGreatDoor
open Go.RowKit

theorem keepQ {W w1 w2 : World} {g h q : Nat} {x0 x1 x2 x3 x4 : Value} (z0 : g < W.heap.size) (z1 : h < W.heap.size) (z2 : q < W.heap.size)
    (k : w1.cell? ⟨g, 0, none⟩ = some x0 ∧ w1.cell? ⟨g, 1, none⟩ = some x1 ∧ w1.cell? ⟨h, 0, none⟩ = some x2 ∧ w1.cell? ⟨h, 1, none⟩ = some x3 ∧ w1.cell? ⟨q, 0, none⟩ = some x4 ∧ Below W.heap.size W w1) (hb : Below w1.heap.size w1 w2) :
    w2.cell? ⟨g, 0, none⟩ = some x0 ∧ w2.cell? ⟨g, 1, none⟩ = some x1 ∧ w2.cell? ⟨h, 0, none⟩ = some x2 ∧ w2.cell? ⟨h, 1, none⟩ = some x3 ∧ w2.cell? ⟨q, 0, none⟩ = some x4 ∧ Below W.heap.size W w2 := by
  obtain ⟨a0, a1, a2, a3, a4, c⟩ := k
  have := c.size
  exact ⟨(hb.cell (p := ⟨g, 0, none⟩) (by show g < _; omega)).trans a0, (hb.cell (p := ⟨g, 1, none⟩) (by show g < _; omega)).trans a1, (hb.cell (p := ⟨h, 0, none⟩) (by show h < _; omega)).trans a2, (hb.cell (p := ⟨h, 1, none⟩) (by show h < _; omega)).trans a3, (hb.cell (p := ⟨q, 0, none⟩) (by show q < _; omega)).trans a4, tw c hb⟩
theorem boxN {W : World} (o : Obj) : ∃ g w1, W.heap.size = g ∧ W.alloc o = w1 ∧ w1.heap[g]? = some o ∧ Below g W w1 ∧ g < w1.heap.size := ⟨_, _, rfl, rfl, newBlk _ _, (Below.refl _ _).alloc (Nat.le_refl _) _, by simp⟩
set_option maxHeartbeats 16000000 in
set_option maxRecDepth 100000 in
theorem lawRootsW (a b c d n0 n1 C1 E1 u v E2 x y E3 : Int) (w : World) (hT : Tab w)
    (HC : ∀ w, Calls Tryz.prog 32 #[.agg #[.int .i64 a, .int .i64 b], .agg #[.int .i64 c, .int .i64 d]] w fun e w' => e = .returned (.tuple #[.int .i64 C1, .int .i64 E1]) ∧ Below w.heap.size w w')
    (HR : ∀ w, Tab w → Calls Tryz.prog 33 #[.agg #[.int .i64 a, .int .i64 b], .int .i64 n0] w fun e w' => e = .returned (.tuple #[.agg #[.int .i64 u, .int .i64 v], .int .i64 E2]) ∧ Below w.heap.size w w')
    (HF : ∀ w, Calls Tryz.prog 34 #[.int .i64 n1] w fun e w' => e = .returned (.tuple #[.agg #[.int .i64 x, .int .i64 y], .int .i64 E3]) ∧ Below w.heap.size w w')
    (h1 : fstE [sqH a b, sqH c d] = E1) (h2 : fstE [sqH a b, rngH n0 0 2] = E2) (h3 : rngH n1 1 30 = E3)
    (RC : E1 = 0 → ∀ w, Calls Tryz.prog 35 #[.agg #[.int .i64 a, .int .i64 b], .agg #[.int .i64 c, .int .i64 d]] w fun e w' => e = .returned (.int .i64 C1) ∧ Below w.heap.size w w') (rc : E1 ≠ 0 → C1 = 0)
    (RR : E2 = 0 → ∀ w, Calls Tryz.prog 36 #[.agg #[.int .i64 a, .int .i64 b], .int .i64 n0] w fun e w' => e = .returned (.agg #[.int .i64 u, .int .i64 v]) ∧ Below w.heap.size w w') (rr : E2 ≠ 0 → u = 0 ∧ v = 0)
    (RF : E3 = 0 → ∀ w, Calls Tryz.prog 37 #[.int .i64 n1] w fun e w' => e = .returned (.agg #[.int .i64 x, .int .i64 y]) ∧ Below w.heap.size w w') (rf : E3 ≠ 0 → x = 0 ∧ y = 0) :
    Calls Tryz.prog 5 #[.agg #[.int .i64 a, .int .i64 b], .agg #[.int .i64 c, .int .i64 d], .agg #[.int .i64 n0, .int .i64 n1]] w fun e w' => e = .returned (.bool true) ∧ Below w.heap.size w w' := by
  have H1 := Lib.hid h1
  have H2 := Lib.hid h2
  have H3 := Lib.hid h3
  have HRC := Lib.hid RC
  have HRR := Lib.hid RR
  have HRF := Lib.hid RF
  have Hrc := Lib.hid rc
  have Hrr := Lib.hid rr
  have Hrf := Lib.hid rf
  clear h1 h2 h3 RC RR RF rc rr rf
  obtain ⟨w1, hw1, k3, hb1, hz1⟩ := boxS w (.cells #[.int .i64 a, .int .i64 b] 24)
  obtain ⟨w2, hw2, k4, hb2, hz2⟩ := boxS w1 (.cells #[.int .i64 c, .int .i64 d] 24)
  obtain ⟨w3, hw3, k5, hb3, hz3⟩ := boxS w2 (.cells #[.int .i64 n0, .int .i64 n1] 51)
  replace k3 := blkT (blkT k3 hb2) hb3
  replace k4 := blkT k4 hb3
  have B3 := tw (tw hb1 hb2) hb3
  obtain ⟨c0, c1, -, -⟩ := cel2 k3
  obtain ⟨c2, c3, -, -⟩ := cel2 k4
  obtain ⟨c4, c5, -, -⟩ := cel2 k5
  go_enter Tryz.func5, Tryz.ntmps5
  go_wp2_with fail
  refine (HC _).mono ?_
  rintro e w4 ⟨rfl, hb⟩
  replace k3 := blkT k3 hb
  replace k4 := blkT k4 hb
  replace k5 := blkT k5 hb
  replace B3 := tw B3 hb
  clear c0 c1 c2 c3 c4 c5 hb
  obtain ⟨c0, c1, -, -⟩ := cel2 k3
  obtain ⟨c2, c3, -, -⟩ := cel2 k4
  obtain ⟨c4, c5, -, -⟩ := cel2 k5
  go_wp2_with fail
  refine (HR _ (hT.below B3)).mono ?_
  rintro e w5 ⟨rfl, hb⟩
  obtain ⟨w6, hw6, k9, hb6, hz6⟩ := boxS w5 (.cells #[.int .i64 u, .int .i64 v] 23)
  replace k3 := blkT (blkT k3 hb) hb6
  replace k4 := blkT (blkT k4 hb) hb6
  replace k5 := blkT (blkT k5 hb) hb6
  replace B3 := tw (tw B3 hb) hb6
  clear c0 c1 c2 c3 c4 c5 hb hb6
  obtain ⟨c0, c1, -, -⟩ := cel2 k3
  obtain ⟨c2, c3, -, -⟩ := cel2 k4
  obtain ⟨c4, c5, -, -⟩ := cel2 k5
  go_wp2_with fail
  refine (HF _).mono ?_
  rintro e w7 ⟨rfl, hb⟩
  obtain ⟨w8, hw8, k11, hb8, hz8⟩ := boxS w7 (.cells #[.int .i64 x, .int .i64 y] 23)
  replace k3 := blkT (blkT k3 hb) hb8
  replace k4 := blkT (blkT k4 hb) hb8
  replace k5 := blkT (blkT k5 hb) hb8
  replace k9 := blkT (blkT k9 hb) hb8
  replace B3 := tw (tw B3 hb) hb8
  clear c0 c1 c2 c3 c4 c5 hb hb8
  obtain ⟨c0, c1, -, -⟩ := cel2 k3
  obtain ⟨c2, c3, -, -⟩ := cel2 k4
  obtain ⟨c4, c5, -, -⟩ := cel2 k5
  have B0 := Below.refl w8.heap.size w8
  have z3 := blkSz k3
  have z4 := blkSz k4
  have z5 := blkSz k5
  go_wp2_with fail
  go_region_held3 (fun X => X.cell? ⟨w.heap.size, 0, none⟩ = some (.int .i64 a) ∧ X.cell? ⟨w.heap.size, 1, none⟩ = some (.int .i64 b) ∧ X.cell? ⟨w1.heap.size, 0, none⟩ = some (.int .i64 c) ∧ X.cell? ⟨w1.heap.size, 1, none⟩ = some (.int .i64 d) ∧ X.cell? ⟨w2.heap.size, 0, none⟩ = some (.int .i64 n0) ∧ Below w8.heap.size w8 X)
    (first | exact ⟨c0, c1, c2, c3, c4, B0⟩ | exact ⟨c0, c1, c2, c3, c4, below_drew B0⟩ | exact keepQ z3 z4 z5 (by assumption) (by assumption) | exact keepQ z3 z4 z5 (by assumption) ((Below.refl _ _).alloc (Nat.le_refl _) _) | assumption | exact keepQ z3 z4 z5 (by assumption) (below_drew (Below.refl _ _)) | go_keep)
    (first
      | (go_at_call 21; refine (rfCheckSquare _ _ _).mono ?_; rintro e w' ⟨rfl, hb⟩)
      | (go_at_call 26; refine (rfFirst2 _ _ _ _ 3 _ (by exact newBlk _ _)).mono ?_; rintro e w' ⟨rfl, rfl⟩))
  rename_i hH
  obtain ⟨-, -, -, -, -, hb9⟩ := hH
  rw [H1.out]
  generalize w'.alloc (.cells #[.int .i64 (sqH a b), .int .i64 (sqH c d)] 3) = w9 at hb9 ⊢
  replace k3 := blkT k3 hb9
  replace k4 := blkT k4 hb9
  replace k5 := blkT k5 hb9
  replace k9 := blkT k9 hb9
  replace k11 := blkT k11 hb9
  replace B3 := tw B3 hb9
  clear c0 c1 c2 c3 c4 c5 hb9 B0 z3 z4 z5
  obtain ⟨c0, c1, -, -⟩ := cel2 k3
  obtain ⟨c2, c3, -, -⟩ := cel2 k4
  obtain ⟨c4, c5, -, -⟩ := cel2 k5
  have B0 := Below.refl w9.heap.size w9
  have z3 := blkSz k3
  have z4 := blkSz k4
  have z5 := blkSz k5
  go_wp2_with fail
  go_region_held3 (fun X => X.cell? ⟨w.heap.size, 0, none⟩ = some (.int .i64 a) ∧ X.cell? ⟨w.heap.size, 1, none⟩ = some (.int .i64 b) ∧ X.cell? ⟨w1.heap.size, 0, none⟩ = some (.int .i64 c) ∧ X.cell? ⟨w1.heap.size, 1, none⟩ = some (.int .i64 d) ∧ X.cell? ⟨w2.heap.size, 0, none⟩ = some (.int .i64 n0) ∧ Below w9.heap.size w9 X)
    (first | exact ⟨c0, c1, c2, c3, c4, B0⟩ | exact ⟨c0, c1, c2, c3, c4, below_drew B0⟩ | exact keepQ z3 z4 z5 (by assumption) (by assumption) | exact keepQ z3 z4 z5 (by assumption) ((Below.refl _ _).alloc (Nat.le_refl _) _) | assumption | exact keepQ z3 z4 z5 (by assumption) (below_drew (Below.refl _ _)) | go_keep)
    (first
      | (go_at_call 21; refine (rfCheckSquare _ _ _).mono ?_; rintro e w' ⟨rfl, hb⟩)
      | (go_at_call 27; refine (rfCheckRange _ _ _ _).mono ?_; rintro e w' ⟨rfl, rfl⟩)
      | (go_at_call 26; refine (rfFirst2 _ _ _ _ 3 _ (by exact newBlk _ _)).mono ?_; rintro e w' ⟨rfl, rfl⟩))
  rename_i hH
  obtain ⟨-, -, -, -, -, hb10⟩ := hH
  rw [H2.out]
  generalize World.alloc w' (.cells #[.int .i64 (sqH a b), .int .i64 (rngH n0 0 2)] 3) = w10 at hb10 ⊢
  replace k3 := blkT k3 hb10
  replace k4 := blkT k4 hb10
  replace k5 := blkT k5 hb10
  replace k9 := blkT k9 hb10
  replace k11 := blkT k11 hb10
  replace B3 := tw B3 hb10
  clear c0 c1 c2 c3 c4 c5 hb10 B0 z3 z4 z5
  have z11 := blkSz k11
  have z5b := blkSz k5
  have z9b := blkSz k9
  obtain ⟨c0, c1, -, -⟩ := cel2 k3
  obtain ⟨c2, c3, -, -⟩ := cel2 k4
  obtain ⟨c4, c5, -, -⟩ := cel2 k5
  go_wp2_with fail
  refine (rfCheckRange _ _ _ _).mono ?_
  rintro e w11 ⟨rfl, rfl⟩
  rw [H3.out]
  obtain ⟨g17, v1, hg17, hv1, k17, hbv1, hzv1⟩ := boxN (W := w10) (.cells #[.int .i64 0, .int .i64 0] 23)
  obtain ⟨g18, v2, hg18, hv2, k18, hbv2, hzv2⟩ := boxN (W := v1) (.cells #[.int .i64 0, .int .i64 0] 23)
  go_upto_if 55 with fail
  have i0 : g17 < v2.heap.size := blkSz (blkT k17 (by rw [hg18] at *; exact hbv2))
  replace k3 := blkT (blkT k3 (by rw [hg17]; exact hbv1)) (by rw [hg18]; exact hbv2)
  replace k4 := blkT (blkT k4 (by rw [hg17]; exact hbv1)) (by rw [hg18]; exact hbv2)
  replace k5 := blkT (blkT k5 (by rw [hg17]; exact hbv1)) (by rw [hg18]; exact hbv2)
  replace k9 := blkT (blkT k9 (by rw [hg17]; exact hbv1)) (by rw [hg18]; exact hbv2)
  replace k11 := blkT (blkT k11 (by rw [hg17]; exact hbv1)) (by rw [hg18]; exact hbv2)
  replace k17 := blkT k17 (by rw [hg18]; exact hbv2)
  replace B3 := tw (tw B3 (by rw [hg17]; exact hbv1)) (by rw [hg18]; exact hbv2)
  have i17 : w7.heap.size < g17 := by rw [← hg17]; exact z11
  have i5 : w2.heap.size < g17 := by rw [← hg17]; exact z5b
  have i9 : w5.heap.size < g17 := by rw [← hg17]; exact z9b
  have i18 : g17 < g18 := by rw [← hg18]; exact hzv1
  clear c0 c1 c2 c3 c4 c5 hbv1 hbv2
  obtain ⟨c0, c1, -, -⟩ := cel2 k3
  obtain ⟨c2, c3, -, -⟩ := cel2 k4
  obtain ⟨c4, c5, -, -⟩ := cel2 k5
  go_cut [16] (fun s X => s = .int .i64 C1 ∧ Below v2.heap.size v2 X)
  case first =>
    by_cases hE : E1 = 0
    · have hq : (E1 == 0) = true := by rw [hE]; rfl
      replace hE := Lib.hid hE
      go_wp2_with fail
      refine (HRC.out hE.out _).mono ?_
      rintro e w12 ⟨rfl, hb⟩
      go_wp2
      go_meet
      exact ⟨rfl, hb⟩
    · have hq : (E1 == 0) = false := by rw [beq_eq_false_iff_ne]; exact hE
      have hz := Lib.hid (Hrc.out hE)
      replace hE := Lib.hid hE
      go_wp2_with fail
      go_meet
      exact ⟨by rw [hz.out], Below.refl _ _⟩
  case rest =>
    obtain ⟨rfl, hb⟩ := hcut
    replace k3 := blkT k3 hb
    replace k4 := blkT k4 hb
    replace k5 := blkT k5 hb
    replace k9 := blkT k9 hb
    replace k11 := blkT k11 hb
    replace k17 := blkT k17 hb
    replace k18 := blkT k18 hb
    replace B3 := tw B3 hb
    clear c0 c1 c2 c3 c4 c5 hb i0
    obtain ⟨v3, rfl⟩ : ∃ V, V = wc := ⟨_, rfl⟩
    obtain ⟨c0, c1, -, -⟩ := cel2 k3
    obtain ⟨c4, c5, -, -⟩ := cel2 k5
    go_upto_if 60 with fail
    go_cut [] (fun X => X.heap[g17]? = some (.cells #[.int .i64 u, .int .i64 v] 23 (0, 0)) ∧ X.heap[g18]? = some (.cells #[.int .i64 0, .int .i64 0] 23 (0, 0)) ∧ Below g17 v3 X)
    case first =>
      by_cases hE : E2 = 0
      · have hq : (E2 == 0) = true := by rw [hE]; rfl
        replace hE := Lib.hid hE
        have i17v := blkSz k17
        go_wp2_with fail
        refine (HRR.out hE.out _).mono ?_
        rintro e w12 ⟨rfl, hb⟩
        replace k17 := blkT k17 hb
        replace k18 := blkT k18 hb
        have i17w := blkSz k17
        obtain ⟨q0, q1, q2, q3⟩ := cel2 k17
        obtain ⟨s1, s2⟩ := set2 k17 (.int .i64 u) (.int .i64 v)
        have hB := (hb.mono (show g17 ≤ v3.heap.size by omega)).grown s2 (by omega) (fun j e => by cases e; exact Nat.le_refl _)
        have k18n := (s2.block _ (blkSz k18) (by intro e; injection e with e; omega)).trans k18
        go_wp2
        go_meet
        exact ⟨s1, k18n, hB⟩
      · have hq : (E2 == 0) = false := by rw [beq_eq_false_iff_ne]; exact hE
        have hz := Lib.hid (Hrr.out hE)
        replace hE := Lib.hid hE
        go_wp2_with fail
        go_meet
        exact ⟨by rw [hz.out.1, hz.out.2]; exact k17, k18, (Below.refl _ _)⟩
    case rest =>
      obtain ⟨k17, k18, hb⟩ := hcut
      have zz3 := blkSz k3
      obtain ⟨v4, rfl⟩ : ∃ V, V = wc := ⟨_, rfl⟩
      have hbi := hb.size
      replace k5 := (hb.block _ i5).trans k5
      replace k9 := (hb.block _ i9).trans k9
      replace k11 := (hb.block _ i17).trans k11
      replace B3 := B3.trans (hb.mono (by omega))
      clear k3 k4 c0 c1 c4 c5 hb
      obtain ⟨c4, c5, -, -⟩ := cel2 k5
      go_upto_if 66 with fail
      go_cut [] (fun X => X.heap[g18]? = some (.cells #[.int .i64 x, .int .i64 y] 23 (0, 0)) ∧ Below g18 v4 X)
      case first =>
        by_cases hE : E3 = 0
        · have hq : (E3 == 0) = true := by rw [hE]; rfl
          replace hE := Lib.hid hE
          have i18v := blkSz k18
          go_wp2_with fail
          refine (HRF.out hE.out _).mono ?_
          rintro e w12 ⟨rfl, hb⟩
          replace k18 := blkT k18 hb
          have i18w := blkSz k18
          obtain ⟨q0, q1, q2, q3⟩ := cel2 k18
          obtain ⟨s1, s2⟩ := set2 k18 (.int .i64 x) (.int .i64 y)
          have hB := (hb.mono (show g18 ≤ v4.heap.size by omega)).grown s2 (by omega) (fun j e => by cases e; exact Nat.le_refl _)
          go_wp2
          go_meet
          exact ⟨s1, hB⟩
        · have hq : (E3 == 0) = false := by rw [beq_eq_false_iff_ne]; exact hE
          have hz := Lib.hid (Hrf.out hE)
          replace hE := Lib.hid hE
          go_wp2_with fail
          go_meet
          exact ⟨by rw [hz.out.1, hz.out.2]; exact k18, (Below.refl _ _)⟩
      case rest =>
        obtain ⟨k18, hb⟩ := hcut
        obtain ⟨v5, rfl⟩ : ∃ V, V = wc := ⟨_, rfl⟩
        have k9f := (hb.block _ (by omega)).trans k9
        have k11f := (hb.block _ (by omega)).trans k11
        have k17f := (hb.block _ i18).trans k17
        have BB := B3.trans (hb.mono (by omega))
        clear k5 k9 k11 k17 c4 c5 hb
        obtain ⟨c0, c1, -, -⟩ := cel2 k9f
        obtain ⟨c2, c3, -, -⟩ := cel2 k11f
        obtain ⟨c4, c5, -, -⟩ := cel2 k17f
        obtain ⟨c6, c7, -, -⟩ := cel2 k18
        have f1 := fun w => eqRat u v u v true (by simp) w
        have f2 := fun w => eqRat x y x y true (by simp) w
        have hgA := guardRat
        clear k9f k11f k17f k18
        go_wp2_with fail
        refine (awake6 _ (hT.below BB)).mono ?_
        rintro e w20 ⟨rfl, hb⟩
        go_wp2
        go_ret
        exact ⟨rfl, tw BB hb⟩
theorem lawHangRoots (a b c d n0 n1 : Int) (w : World) (hT : Tab w) :
    Calls Tryz.prog 5 #[.agg #[.int .i64 a, .int .i64 b], .agg #[.int .i64 c, .int .i64 d], .agg #[.int .i64 n0, .int .i64 n1]] w fun e w' => e = .returned (.bool true) ∧ Below w.heap.size w w' := by
  refine lawRootsW a b c d n0 n1 _ _ _ _ _ _ _ _ w hT (fun w => hgCompare a b c d w) (fun w h => hgRoot a b n0 w h) (fun w => hgFullest n1 w) rfl rfl rfl ?_ (fun h => ozE h _) ?_ (fun h => ⟨ozE h _, ozE h _⟩) ?_ (fun h => ⟨ozE h _, ozE h _⟩)
  · intro h w
    obtain ⟨h1, h2⟩ := fst2_zero h
    obtain ⟨A, B, rfl, rfl, m1, m2, m3, -⟩ := sqH_zero h1
    obtain ⟨C, D, rfl, rfl, m4, m5, m6, -⟩ := sqH_zero h2
    rw [h, oz0]
    exact rfCompare A B C D w m1 m3 m4 m6
  · intro h w
    obtain ⟨h1, h2⟩ := fst2_zero h
    obtain ⟨A, B, rfl, rfl, m1, m2, m3, -⟩ := sqH_zero h1
    have b2 := rngH_zero h2
    rw [h, oz0, oz0]
    exact rfRoot A B n0 w m1 m2 m3 b2.1 b2.2
  · intro h w
    have b2 := rngH_zero h
    rw [h, oz0, oz0]
    exact rfFullest n1 w b2.1 b2.2
end Go.Proofs.YtlkeejhaodedmaaGreatDoor

/- The law HangFloors. -/
namespace Go.Proofs.YtlkeejhaodedmaaGreatDoor
open Go.RowKit

theorem rootE_ok {A B : Int} {k : Nat} (h : sqH A B = 0) (hk : k < 3) : rootE A B (k : Int) = 0 := by
  unfold rootE
  rw [h]
  simp only [fstE, rngH]
  repeat' split
  all_goals first | rfl | omega
theorem cmpsE_ok {A B C D : Int} (h : sqH A B = 0) (h' : sqH C D = 0) : cmpsE A B C D = 0 := by
  unfold cmpsE
  rw [h, h']
  rfl
/-- The root with k decimals, as an integer. -/
def rk (a b k : Nat) : Nat := isq (a * 10 ^ k * 10 ^ k / b)
def bfN (a b k : Nat) : Nat := if k = 0 then 0 else rk a b (k - 1)
theorem rootN (A B k : Nat) (w : World) (hT : Tab w) (h : sqH (A : Int) (B : Int) = 0) (hk : k < 3) :
    Calls Tryz.prog 33 #[.agg #[.int .i64 A, .int .i64 B], .int .i64 k] w fun e w' => e = .returned (.tuple #[.agg #[.int .i64 (qn (rk A B k) (10 ^ k) : Nat), .int .i64 (qd (rk A B k) (10 ^ k) : Nat)], .int .i64 0]) ∧ Below w.heap.size w w' := by
  have h2 := hgRoot (A : Int) (B : Int) (k : Int) w hT
  rw [rootE_ok h hk, oz0, oz0, rtQ, tenK_pow (by omega)] at h2
  simp only [Int.toNat_natCast] at h2
  exact h2
theorem compN (A B C D : Nat) (w : World) (h : sqH (A : Int) (B : Int) = 0) (h' : sqH (C : Int) (D : Int) = 0) :
    Calls Tryz.prog 32 #[.agg #[.int .i64 A, .int .i64 B], .agg #[.int .i64 C, .int .i64 D]] w fun e w' => e = .returned (.tuple #[.int .i64 (cmpH ((A : Int) * D) ((C : Int) * B)), .int .i64 0]) ∧ Below w.heap.size w w' := by
  have h2 := hgCompare (A : Int) (B : Int) (C : Int) (D : Int) w
  rw [cmpsE_ok h h', oz0] at h2
  exact h2
theorem rk_le {a b k : Nat} (ha : a ≤ 4000000000000) : rk a b k ≤ 2000000 * 10 ^ k := by
  refine isq_le_of (Nat.lt_of_le_of_lt (Nat.div_le_self _ _) ?_)
  have h1 : a * 10 ^ k * 10 ^ k ≤ 4000000000000 * 10 ^ k * 10 ^ k := Nat.mul_le_mul (Nat.mul_le_mul ha (Nat.le_refl _)) (Nat.le_refl _)
  have h2 : 4000000000000 * 10 ^ k * 10 ^ k = 2000000 * 10 ^ k * (2000000 * 10 ^ k) := by grind
  have h3 : 2000000 * 10 ^ k * (2000000 * 10 ^ k) < (2000000 * 10 ^ k + 1) * (2000000 * 10 ^ k + 1) := Nat.mul_lt_mul'' (Nat.lt_succ_self _) (Nat.lt_succ_self _)
  omega
theorem rk_bf {a b k : Nat} (hb : 0 < b) : 10 * bfN a b k ≤ rk a b k ∧ (k ≠ 0 → rk a b k < 10 * (bfN a b k + 1)) := by
  unfold bfN
  split
  · rename_i h
    exact ⟨by omega, fun h' => absurd h h'⟩
  · rename_i h
    have h1 := dec_step (a := a) (10 ^ (k - 1)) hb
    have e : 10 ^ (k - 1) * 10 = 10 ^ k := by rw [← Nat.pow_succ, show (k - 1).succ = k by omega]
    rw [e] at h1
    have h2 := (isq_rt (a * 10 ^ (k - 1) * 10 ^ (k - 1) / b)).ten (isq_rt (a * 10 ^ k * 10 ^ k / b)) h1.1 h1.2
    exact ⟨h2.1, fun _ => h2.2⟩
theorem rk_cross {a b c d : Nat} (k : Nat) (hb : 0 < b) (hd : 0 < d) (h : a * d ≤ c * b) : rk a b k ≤ rk c d k := (isq_rt _).mono (isq_rt _) (cross_le _ hb hd h)
set_option maxHeartbeats 16000000 in
set_option maxRecDepth 100000 in
theorem lawFloorsN (A B C D : Nat) (w : World) (hT : Tab w) (hAB : sqH (A : Int) (B : Int) = 0) (hCD : sqH (C : Int) (D : Int) = 0) (ha : A ≤ 4000000000000) (hb0 : 1 ≤ B) (hb1 : B ≤ 810000) (hc : C ≤ 4000000000000) (hd0 : 1 ≤ D) (hd1 : D ≤ 810000) :
    Calls Tryz.prog 10 #[.agg #[.int .i64 A, .int .i64 B], .agg #[.int .i64 C, .int .i64 D]] w fun e w' => e = .returned (.bool true) ∧ Below w.heap.size w w' := by
  have HAB := Lib.hid hAB
  have HCD := Lib.hid hCD
  clear hAB hCD
  obtain ⟨w1, hw1, k2, hb1', hz1⟩ := boxS w (.cells #[.int .i64 A, .int .i64 B] 24)
  obtain ⟨w2, hw2, k3, hb2', hz2⟩ := boxS w1 (.cells #[.int .i64 C, .int .i64 D] 24)
  replace k2 := blkT k2 hb2'
  have B3 := tw hb1' hb2'
  clear hb1' hb2'
  obtain ⟨c0, c1, -, -⟩ := cel2 k2
  obtain ⟨c2, c3, -, -⟩ := cel2 k3
  go_enter Tryz.func10, Tryz.ntmps10
  go_wp2_with fail
  refine (rfCheckSquare _ _ _).mono ?_
  rintro e w3 ⟨rfl, hb⟩
  rw [HAB.out]
  replace k2 := blkT k2 hb
  replace k3 := blkT k3 hb
  replace B3 := tw B3 hb
  clear c0 c1 c2 c3 hb
  obtain ⟨c0, c1, -, -⟩ := cel2 k2
  obtain ⟨c2, c3, -, -⟩ := cel2 k3
  go_wp2_with fail
  refine (rfCheckSquare _ _ _).mono ?_
  rintro e w4 ⟨rfl, hb⟩
  rw [HCD.out]
  replace k2 := blkT k2 hb
  replace k3 := blkT k3 hb
  replace B3 := tw B3 hb
  clear c0 c1 c2 c3 hb hw1 hw2
  go_wp2_with fail
  go_loopw [5, 25] (fun bf i wr => ∃ k : Nat, k ≤ 3 ∧ i = .int .i64 k ∧ bf = .int .i64 (bfN A B k : Nat) ∧ Below w4.heap.size w4 wr) (fun _ i _ => 3 - (intOf i).toNat)
  case atStart => exact ⟨0, by omega, rfl, rfl, Below.refl _ _⟩
  case round =>
    obtain ⟨k, hk, rfl, rfl, hb⟩ := hrel
    replace k2 := blkT k2 hb
    replace k3 := blkT k3 hb
    by_cases hlt : k < 3
    · have hki : (k : Int) < 3 := by omega
      have hk0 : (0 : Int) ≤ (k : Int) := by omega
      obtain ⟨w5, hw5, k5, hb5, hz5⟩ := boxS wr (.cells #[.int .i64 1, .int .i64 10, .int .i64 100] 3)
      have ck : w5.cell? ⟨wr.heap.size, k, none⟩ = some (.int .i64 (10 ^ k : Nat)) := by
        have : k = 0 ∨ k = 1 ∨ k = 2 := by omega
        rcases this with rfl | rfl | rfl <;> simp [World.cell?, k5]
      have p1 := pow_le (show k ≤ 2 by omega)
      have p2 := pow_pos' k
      have HRA := Lib.hid (fun w h => rootN A B k w h HAB.out hlt)
      have HRC := Lib.hid (fun w h => rootN C D k w h HCD.out hlt)
      have HN := Lib.hid (isq_rt (A * 10 ^ k * 10 ^ k / B))
      have HRA0 : Hid (rk A B k = isq (A * 10 ^ k * 10 ^ k / B)) := Lib.hid rfl
      have l1 := rk_le (b := B) (k := k) ha
      have l2 := rk_le (b := D) (k := k) hc
      have q1 := qd_all (a := rk A B k) (b := 10 ^ k) p2
      have q2 := qd_all (a := rk C D k) (b := 10 ^ k) p2
      have HX := Lib.hid (fun (h : A * D ≤ C * B) => rk_cross k hb0 hd0 h)
      have HY := Lib.hid (fun (h : C * B ≤ A * D) => rk_cross k hd0 hb0 h)
      have hbf := rk_bf (a := A) (b := B) (k := k) hb0
      have HBF : Hid (bfN A B (k + 1) = rk A B k) := Lib.hid (by unfold bfN; simp)
      have m2 : A * 10 ^ k * 10 ^ k ≤ 4000000000000 * 100 * 100 := Nat.mul_le_mul (Nat.mul_le_mul ha p1) p1
      have m1 : A * 10 ^ k ≤ 4000000000000 * 100 := Nat.mul_le_mul ha p1
      have m3 : A * 10 ^ k * 10 ^ k / B ≤ 4000000000000 * 100 * 100 := Nat.le_trans (Nat.div_le_self _ _) m2
      have hn : ((A : Int) * ((10 ^ k : Nat) : Int) * ((10 ^ k : Nat) : Int)).tdiv (B : Int) = ((A * 10 ^ k * 10 ^ k / B : Nat) : Int) := by rw [← divN]; push_cast; rfl
      generalize bfN A B k = bf at hbf ⊢
      rw [← HRA0.out] at HN
      generalize rk A B k = R at HRA HN HRA0 l1 q1 HX HY hbf HBF
      generalize rk C D k = S at HRC l2 q2 HX HY
      generalize 10 ^ k = T at ck p1 p2 HRA HRC HN HRA0 l1 l2 q1 q2 m1 m2 m3 hn
      generalize A * T * T / B = N at HN HRA0 m3 hn
      have i1 : (A : Int) * (T : Int) = ((A * T : Nat) : Int) := by push_cast; rfl
      have i2 : (A : Int) * (T : Int) * (T : Int) = ((A * T * T : Nat) : Int) := by push_cast; rfl
      have wa : IntKind.i64.wrap ((A : Int) * (T : Int)) = (A : Int) * (T : Int) := by rw [i1]; exact wr64 (by omega) (by omega)
      have wb : IntKind.i64.wrap ((A : Int) * (T : Int) * (T : Int)) = (A : Int) * (T : Int) * (T : Int) := by rw [i2]; exact wr64 (by omega) (by omega)
      have wN : IntKind.i64.wrap (N : Int) = (N : Int) := wr64 (by omega) (by omega)
      clear i1 i2 m1 m2
      obtain ⟨q10, q11, q12, q13, q14, q15, q16⟩ := q1
      obtain ⟨q20, q21, q22, q23, q24, q25, q26⟩ := q2
      generalize qn R T = u at HRA q12 q13 q14
      generalize qd R T = v at HRA q10 q11 q12 q13 q15 q16
      generalize qn S T = s at HRC q22 q23 q24
      generalize qd S T = t at HRC q20 q21 q22 q23 q25 q26
      have r1 : (T : Int).tmod (v : Int) = 0 := by rw [modN, q10]; rfl
      have r2 : (T : Int).tmod (t : Int) = 0 := by rw [modN, q20]; rfl
      have d1 : (T : Int).tdiv (v : Int) = ((T / v : Nat) : Int) := divN T v
      have d2 : (T : Int).tdiv (t : Int) = ((T / t : Nat) : Int) := divN T t
      have e1 : (u : Int) * ((T / v : Nat) : Int) = (R : Int) := by rw [← q12]; push_cast; rfl
      have e2 : (s : Int) * ((T / t : Nat) : Int) = (S : Int) := by rw [← q22]; push_cast; rfl
      have HG := Lib.hid q13
      clear q10 q20 q12 q22 q13 q23
      generalize T / v = x1 at d1 e1 q16
      generalize T / t = x2 at d2 e2 q26
      have wx1 : IntKind.i64.wrap (x1 : Int) = (x1 : Int) := wr64 (by omega) (by omega)
      have wx2 : IntKind.i64.wrap (x2 : Int) = (x2 : Int) := wr64 (by omega) (by omega)
      have wR : IntKind.i64.wrap (R : Int) = (R : Int) := wr64 (by omega) (by omega)
      have wS : IntKind.i64.wrap (S : Int) = (S : Int) := wr64 (by omega) (by omega)
      have w3T : IntKind.i64.wrap (3000000 * (T : Int)) = 3000000 * (T : Int) := wr64 (by omega) (by omega)
      have nv0 : ¬ (v : Int) = 0 := by omega
      have nv1 : ((v : Int) != 0) = true := by rw [bne_iff_ne]; omega
      have nv2 : ¬ (v : Int) < 1 := by omega
      have nv3 : ¬ v = 0 := by omega
      have nt0 : ¬ (t : Int) = 0 := by omega
      have nt1 : ((t : Int) != 0) = true := by rw [bne_iff_ne]; omega
      have nt2 : ¬ (t : Int) < 1 := by omega
      have nt3 : ¬ t = 0 := by omega
      have nu : ¬ (u : Int) < 0 := by omega
      have nu2 : ¬ 3000000 * (T : Int) < (u : Int) := by omega
      have ns : ¬ (s : Int) < 0 := by omega
      have ns2 : ¬ 3000000 * (T : Int) < (s : Int) := by omega
      have nB0 : ¬ (B : Int) = 0 := by omega
      have nB1 : ((B : Int) != 0) = true := by rw [bne_iff_ne]; omega
      obtain ⟨c, hcm⟩ : ∃ c, cmpH ((A : Int) * D) ((C : Int) * B) = c := ⟨_, rfl⟩
      have HCM := Lib.hid (fun w => compN A B C D w HAB.out HCD.out)
      rw [hcm] at HCM
      have HCC := Lib.hid hcm
      clear hcm
      replace k2 := blkT k2 hb5
      replace k3 := blkT k3 hb5
      have hb9 := tw hb hb5
      clear hb hb5 k5
      obtain ⟨c0, c1, -, -⟩ := cel2 k2
      obtain ⟨c2, c3, -, -⟩ := cel2 k3
      go_wp2_with fail
      refine (HRA.out _ (hT.below (tw B3 hb9))).mono ?_
      rintro e w6 ⟨rfl, hb⟩
      obtain ⟨w7, hw7, k8, hb7, hz7⟩ := boxS w6 (.cells #[.int .i64 u, .int .i64 v] 23)
      replace k2 := blkT (blkT k2 hb) hb7
      replace k3 := blkT (blkT k3 hb) hb7
      replace hb9 := tw (tw hb9 hb) hb7
      clear c0 c1 c2 c3 hb hb7 ck
      obtain ⟨c0, c1, -, -⟩ := cel2 k2
      obtain ⟨c2, c3, -, -⟩ := cel2 k3
      as_aux_lemma =>
        go_wp2_with fail
        refine (HRC.out _ (hT.below (tw B3 hb9))).mono ?_
        rintro e w8 ⟨rfl, hb⟩
        obtain ⟨w9, hw9, k10, hb9', hz9⟩ := boxS w8 (.cells #[.int .i64 s, .int .i64 t] 23)
        replace k2 := blkT (blkT k2 hb) hb9'
        replace k3 := blkT (blkT k3 hb) hb9'
        replace k8 := blkT (blkT k8 hb) hb9'
        replace hb9 := tw (tw hb9 hb) hb9'
        clear c0 c1 c2 c3 hb hb9'
        obtain ⟨c0, c1, -, -⟩ := cel2 k2
        obtain ⟨c2, c3, -, -⟩ := cel2 k3
        as_aux_lemma =>
          go_wp2_with fail
          refine (HCM.out _).mono ?_
          rintro e w10 ⟨rfl, hb⟩
          replace k2 := blkT k2 hb
          replace k3 := blkT k3 hb
          replace k8 := blkT k8 hb
          replace k10 := blkT k10 hb
          replace hb9 := tw hb9 hb
          clear c0 c1 c2 c3 hb
          obtain ⟨c4, c5, -, -⟩ := cel2 k8
          obtain ⟨c6, c7, -, -⟩ := cel2 k10
          go_wp2_with fail
          refine (rfDivisor v u _ (by omega) (by omega)).mono ?_
          rintro e w11 ⟨rfl, hb⟩
          rw [HG.out]
          replace k2 := blkT k2 hb
          replace k8 := blkT k8 hb
          replace k10 := blkT k10 hb
          replace hb9 := tw hb9 hb
          clear c4 c5 c6 c7 hb k3
          obtain ⟨c4, c5, -, -⟩ := cel2 k8
          obtain ⟨c6, c7, -, -⟩ := cel2 k10
          go_wp2_with fail
          go_quiet (fail)
          replace k2 := blkT k2 (below_drewN (Below.refl _ _) nq)
          replace hb9 := below_drewN hb9 nq
          generalize World.drewN w11 nq = w12 at k2 hb9 ⊢
          clear c4 c5 c6 c7 k8 k10
          obtain ⟨c0, c1, -, -⟩ := cel2 k2
          as_aux_lemma =>
            have b1 := mulB (show R ≤ 200000000 by omega) (show R ≤ 200000000 by omega)
            obtain ⟨b10, b11⟩ := b1
            have eRR : ((R * R : Nat) : Int) = (R : Int) * (R : Int) := by push_cast; rfl
            have eR1 : (((R + 1) * (R + 1) : Nat) : Int) = ((R : Int) + 1) * ((R : Int) + 1) := by push_cast; rfl
            have b2 : 0 ≤ ((R : Int) + 1) * ((R : Int) + 1) ∧ ((R : Int) + 1) * ((R : Int) + 1) ≤ 40000001000000000 := by
              rw [← eR1]
              have := Nat.mul_le_mul (show R + 1 ≤ 200000001 by omega) (show R + 1 ≤ 200000001 by omega)
              omega
            obtain ⟨b20, b21⟩ := b2
            have wRR : IntKind.i64.wrap ((R : Int) * (R : Int)) = (R : Int) * (R : Int) := wr64 (by omega) (by omega)
            have wR1 : IntKind.i64.wrap ((R : Int) + 1) = (R : Int) + 1 := wr64 (by omega) (by omega)
            have wR2 : IntKind.i64.wrap (((R : Int) + 1) * ((R : Int) + 1)) = ((R : Int) + 1) * ((R : Int) + 1) := wr64 (by omega) (by omega)
            have nRR : ¬ (N : Int) < (R : Int) * (R : Int) := by have := HN.out.1; omega
            have nR1 : ¬ ((R : Int) + 1) * ((R : Int) + 1) ≤ (N : Int) := by have := HN.out.2; omega
            clear eRR eR1
            go_upto_region 14 with fail
            go_cut [159] (fun s X => s = .bool false ∧ w12 = X)
            case first =>
              as_aux_lemma =>
                by_cases hR0 : R = 0
                · subst hR0
                  obtain rfl : N = 0 := by have := HN.out.2; omega
                  go_wp2_with fail
                  go_meet
                  exact ⟨rfl, rfl⟩
                · have hRp : (0 : Int) < (R : Int) := by omega
                  clear b10 b11 b20 b21 l1 l2 hR0
                  go_wp2_with fail
                  go_meet
                  exact ⟨rfl, rfl⟩
            case rest =>
              as_aux_lemma =>
                obtain ⟨rfl, rfl⟩ := hcut
                have f1 : ¬ (R : Int) < 10 * (bf : Int) := by have := hbf.1; omega
                have HF2 := Lib.hid (show k ≠ 0 → ¬ 10 * ((bf : Int) + 1) ≤ (R : Int) from fun h => by have := hbf.2 h; omega)
                have wbf : IntKind.i64.wrap (10 * (bf : Int)) = 10 * (bf : Int) := wr64 (by omega) (by omega)
                have wbf1 : IntKind.i64.wrap ((bf : Int) + 1) = (bf : Int) + 1 := wr64 (by omega) (by omega)
                have wbf2 : IntKind.i64.wrap (10 * ((bf : Int) + 1)) = 10 * ((bf : Int) + 1) := wr64 (by omega) (by omega)
                have HS1 := Lib.hid (show c < 0 → R ≤ S from fun h => HX.out (by
                  have := HCC.out
                  unfold cmpH at this
                  split at this
                  · rename_i hl
                    have : ((A * D : Nat) : Int) < ((C * B : Nat) : Int) := by push_cast; exact hl
                    omega
                  · split at this <;> omega))
                have HS2 := Lib.hid (show 0 < c → S ≤ R from fun h => HY.out (by
                  have := HCC.out
                  unfold cmpH at this
                  split at this
                  · omega
                  · split at this
                    · rename_i hl
                      have : ((C * B : Nat) : Int) < ((A * D : Nat) : Int) := by push_cast; exact hl
                      omega
                    · omega))
                have HS3 := Lib.hid (show c = 0 → R = S from fun h => by
                  have := HCC.out
                  unfold cmpH at this
                  have e : A * D = C * B := by
                    split at this
                    · omega
                    · split at this
                      · omega
                      · rename_i h1 h2
                        have e1 : (A : Int) * D = ((A * D : Nat) : Int) := by push_cast; rfl
                        have e2 : (C : Int) * B = ((C * B : Nat) : Int) := by push_cast; rfl
                        rw [e1, e2] at h1 h2
                        omega
                  exact Nat.le_antisymm (HX.out (by omega)) (HY.out (by omega)))
                clear nRR nR1 b10 b11 b20 b21 wRR wR1 wR2 c0 c1
                go_upto_region 16 with fail
                go_cut [205] (fun s X => s = .bool false ∧ w12 = X)
                case first =>
                  as_aux_lemma =>
                    rcases Int.lt_trichotomy c 0 with hc0 | hc0 | hc0
                    · have g1 : ¬ (S : Int) < (R : Int) := by have := HS1.out hc0; omega
                      have g2 : ¬ 0 < c := by omega
                      have g3 : (c == 0) = false := by rw [beq_eq_false_iff_ne]; omega
                      have g4 : ¬ c = 0 := by omega
                      by_cases hk0' : k = 0
                      · subst hk0'
                        go_wp2_with fail
                        go_meet
                        exact ⟨rfl, rfl⟩
                      · have g5 : (0 : Int) < (k : Int) := by omega
                        have g6 := HF2.out hk0'
                        go_wp2_with fail
                        go_meet
                        exact ⟨rfl, rfl⟩
                    · subst hc0
                      have g1 : ((R : Int) != (S : Int)) = false := by rw [HS3.out rfl]; simp
                      by_cases hk0' : k = 0
                      · subst hk0'
                        go_wp2_with fail
                        go_meet
                        exact ⟨rfl, rfl⟩
                      · have g5 : (0 : Int) < (k : Int) := by omega
                        have g6 := HF2.out hk0'
                        go_wp2_with fail
                        go_meet
                        exact ⟨rfl, rfl⟩
                    · have g1 : ¬ (R : Int) < (S : Int) := by have := HS2.out hc0; omega
                      have g2 : ¬ c < 0 := by omega
                      have g3 : (c == 0) = false := by rw [beq_eq_false_iff_ne]; omega
                      have g4 : ¬ c = 0 := by omega
                      by_cases hk0' : k = 0
                      · subst hk0'
                        go_wp2_with fail
                        go_meet
                        exact ⟨rfl, rfl⟩
                      · have g5 : (0 : Int) < (k : Int) := by omega
                        have g6 := HF2.out hk0'
                        go_wp2_with fail
                        go_meet
                        exact ⟨rfl, rfl⟩
                case rest =>
                  as_aux_lemma =>
                    obtain ⟨rfl, rfl⟩ := hcut
                    go_wp2_with fail
                    go_roundw
                    case rel => exact ⟨k + 1, by omega, by go_num, by rw [HBF.out], hb9⟩
                    case measure => simp [intOf]; omega
    · obtain rfl : k = 3 := by omega
      go_wp2_with fail
      refine (awake6 _ (hT.below (tw B3 hb))).mono ?_
      rintro e w20 ⟨rfl, hb20⟩
      go_wp2
      go_ret
      exact ⟨rfl, tw (tw B3 hb) hb20⟩
set_option maxHeartbeats 4000000 in
set_option maxRecDepth 100000 in
theorem lawFloorsBad (a b c d : Int) (w : World) (hT : Tab w) (h : ¬ (sqH a b = 0 ∧ sqH c d = 0)) :
    Calls Tryz.prog 10 #[.agg #[.int .i64 a, .int .i64 b], .agg #[.int .i64 c, .int .i64 d]] w fun e w' => e = .returned (.bool true) ∧ Below w.heap.size w w' := by
  obtain ⟨w1, hw1, k2, hb1', hz1⟩ := boxS w (.cells #[.int .i64 a, .int .i64 b] 24)
  obtain ⟨w2, hw2, k3, hb2', hz2⟩ := boxS w1 (.cells #[.int .i64 c, .int .i64 d] 24)
  replace k2 := blkT k2 hb2'
  have B3 := tw hb1' hb2'
  obtain ⟨c0, c1, -, -⟩ := cel2 k2
  obtain ⟨c2, c3, -, -⟩ := cel2 k3
  have HQ1 := fun w => rfCheckSquare a b w
  have HQ2 := fun w => rfCheckSquare c d w
  generalize sqH a b = E1 at HQ1 h
  generalize sqH c d = E2 at HQ2 h
  go_enter Tryz.func10, Tryz.ntmps10
  go_wp2_with fail
  refine (HQ1 _).mono ?_
  rintro e w3 ⟨rfl, hb⟩
  by_cases h1 : E1 = 0
  · have h2 : ¬ E2 = 0 := fun h' => h ⟨h1, h'⟩
    have n2 : (E2 != 0) = true := by rw [bne_iff_ne]; exact h2
    subst h1
    replace k3 := blkT k3 hb
    clear c0 c1 c2 c3 h
    obtain ⟨c2, c3, -, -⟩ := cel2 k3
    go_wp2_with fail
    refine (HQ2 _).mono ?_
    rintro e w4 ⟨rfl, hb4⟩
    go_wp2_with fail
    refine (awake6 _ (hT.below (tw (tw B3 hb) hb4))).mono ?_
    rintro e w20 ⟨rfl, hb20⟩
    go_wp2
    go_ret
    exact ⟨rfl, tw (tw (tw B3 hb) hb4) hb20⟩
  · have n1 : (E1 != 0) = true := by rw [bne_iff_ne]; exact h1
    clear h
    go_wp2_with fail
    refine (awake6 _ (hT.below (tw B3 hb))).mono ?_
    rintro e w20 ⟨rfl, hb20⟩
    go_wp2
    go_ret
    exact ⟨rfl, tw (tw B3 hb) hb20⟩
theorem lawHangFloors (a b c d : Int) (w : World) (hT : Tab w) :
    Calls Tryz.prog 10 #[.agg #[.int .i64 a, .int .i64 b], .agg #[.int .i64 c, .int .i64 d]] w fun e w' => e = .returned (.bool true) ∧ Below w.heap.size w w' := by
  by_cases h : sqH a b = 0 ∧ sqH c d = 0
  · obtain ⟨h1, h2⟩ := h
    obtain ⟨A, B, rfl, rfl, m1, m2, m3, -⟩ := sqH_zero h1
    obtain ⟨C, D, rfl, rfl, m4, m5, m6, -⟩ := sqH_zero h2
    exact lawFloorsN A B C D w hT h1 h2 m1 m2 m3 m4 m5 m6
  · exact lawFloorsBad a b c d w hT h
end Go.Proofs.YtlkeejhaodedmaaGreatDoor

/- Ratios and squares as arguments. -/
namespace Go.Proofs.YtlkeejhaodedmaaGreatDoor
open Go.ChangeShapes Go.WideShapes Go.ChangeAt Go.WideMaps Go.WideElems Go.RowKit

set_option maxRecDepth 100000 in
theorem open_ratio {w : World} {r : Reach} {b0 : Nat} {v : Value} (h : Value.okWide Tryz.prog w r b0 23 v) : ∃ x y, v = .agg #[.int .i64 x, .int .i64 y] := by
  have hS : Tryz.prog.underlying 23 = some (.struct (Tryz.prog.fieldsOf 23)) := by kernel_rfl
  have hC : Tryz.prog.cellsOf 23 = 2 := by kernel_rfl
  simp only [Value.okWide, hS] at h
  obtain ⟨cs, rfl, hsz, hr⟩ := h
  rw [hC] at hsz
  obtain ⟨ts, hts, -, hrow⟩ := hr
  have ht : Tryz.prog.cellTypes Tryz.prog.depth 23 = some [3, 3] := by kernel_rfl
  rw [ht] at hts
  cases hts
  obtain ⟨l⟩ := cs
  match l, hsz with
  | [c0, c1], _ =>
    obtain ⟨u0, hu0, h0⟩ := hrow 0 c0 rfl
    obtain ⟨u1, hu1, h1⟩ := hrow 1 c1 rfl
    simp at hu0 hu1
    subst hu0 hu1
    obtain ⟨a, rfl, -⟩ := cell_intT Tryz.underlying3 h0
    obtain ⟨b, rfl, -⟩ := cell_intT Tryz.underlying3 h1
    exact ⟨a, b, rfl⟩
set_option maxRecDepth 100000 in
theorem open_square6 {w : World} {r : Reach} {b0 : Nat} {v : Value} (h : Value.okWide Tryz.prog w r b0 24 v) : ∃ x y, v = .agg #[.int .i64 x, .int .i64 y] := by
  have hS : Tryz.prog.underlying 24 = some (.struct (Tryz.prog.fieldsOf 24)) := by kernel_rfl
  have hC : Tryz.prog.cellsOf 24 = 2 := by kernel_rfl
  simp only [Value.okWide, hS] at h
  obtain ⟨cs, rfl, hsz, hr⟩ := h
  rw [hC] at hsz
  obtain ⟨ts, hts, -, hrow⟩ := hr
  have ht : Tryz.prog.cellTypes Tryz.prog.depth 24 = some [3, 3] := by kernel_rfl
  rw [ht] at hts
  cases hts
  obtain ⟨l⟩ := cs
  match l, hsz with
  | [c0, c1], _ =>
    obtain ⟨u0, hu0, h0⟩ := hrow 0 c0 rfl
    obtain ⟨u1, hu1, h1⟩ := hrow 1 c1 rfl
    simp at hu0 hu1
    subst hu0 hu1
    obtain ⟨a, rfl, -⟩ := cell_intT Tryz.underlying3 h0
    obtain ⟨b, rfl, -⟩ := cell_intT Tryz.underlying3 h1
    exact ⟨a, b, rfl⟩
end Go.Proofs.YtlkeejhaodedmaaGreatDoor

namespace Go.Proofs.YtlkeejhaodedmaaGreatDoor
open Go.ChangeShapes Go.WideShapes Go.ChangeAt Go.WideMaps Go.WideElems Go.RowKit

set_option maxRecDepth 100000 in
theorem floors_lifted (os : Os) (started : os.Started) (H : Type) (enc : TypeId × Value → H) :
    ReturnsInHanded {} Tryz.checked os 10 .any (fun w args => (Rows.hangFloorsSpec.pre enc Tryz.prog Tryz.f10 [] false w args ∧ laidMetH Tryz.prog haLaid w) ∧ sizedMet enc Tryz.prog Tryz.f10 (OpenSpec.ofChange Rows.hangFloorsSpec) false w args)
      (Rows.hangFloorsSpec.post enc Tryz.prog Tryz.f10 false true false false) := by
  refine returnsInHanded_of_change_and (C := Tryz.checked) (X := fun w _ => laidMetH Tryz.prog haLaid w) (fun _ _ _ hh h => h.of_heap hh) Tryz.ownT started (by kernel_rfl) Tryz.func10
    (ChangeSpec.witness_shaped (enc := enc) (C := Tryz.checked) (os := os) (X := fun w _ => laidMetH Tryz.prog haLaid w) false (World.laidAll Tryz.prog os haLaid) #[.agg #[.int .i64 0, .int .i64 0], .agg #[.int .i64 0, .int .i64 0]] 8 (World.laidAll_os _ _ _) (World.shaped_of_ZipB (by kernel_rfl) (by kernel_rfl)) (by kernel_rfl) (by kernel_rfl) (by kernel_rfl) (door_met os _)) ?_
  intro W base args ds gs before hval0 hW _ _ hL _
  have hval : ∀ (j : Nat) t v, Tryz.f10.params[j]? = some t → args[j]? = some v → Value.okWide Tryz.prog W .any base t v := hval0
  have hW' := hW
  obtain ⟨p, q, hA0, hV, rfl, hfz, hnd⟩ := hW
  have hA : DataW.TrodAll enc Tryz.prog W 0 (fun _ => true) true Tryz.f10.params.toList args.toList ds p := hA0
  rw [Tryz.params10] at hA hval
  obtain ⟨v0, v1, d0, d1, p0, p1, rfl, rfl, rfl, h0, h1⟩ := trodAll_two hA
  obtain ⟨rfl, rfl⟩ := trodVars_none hV
  clear hA0 hval0
  simp only [List.append_nil] at hW'
  have hlt : ∀ x ∈ p0 ++ p1, x.block < W.heap.size := fun x hx => by simpa using hW'.lt x hx
  obtain ⟨z00, z01, rfl⟩ := open_square6 (hval 0 24 v0 rfl rfl)
  obtain ⟨z10, z11, rfl⟩ := open_square6 (hval 1 24 v1 rfl rfl)
  have harg0 : ∀ (W' : World), Below W.heap.size W W' → DataW.Trod enc Tryz.prog W' 0 (fun b => decide (b < W.heap.size)) true 24 (.agg #[.int .i64 z00, .int .i64 z01]) d0 p0 :=
    fun W' hn => Below.trod Tryz.laidOutT (by kernel_rfl) (of_decide_eq_true (by kernel_rfl)) h0 hn (fun x hx => hlt x (List.mem_append_left _ hx))
  have harg1 : ∀ (W' : World), Below W.heap.size W W' → DataW.Trod enc Tryz.prog W' 0 (fun b => decide (b < W.heap.size)) true 24 (.agg #[.int .i64 z10, .int .i64 z11]) d1 p1 :=
    fun W' hn => Below.trod Tryz.laidOutT (by kernel_rfl) (of_decide_eq_true (by kernel_rfl)) h1 hn (fun x hx => hlt x (List.mem_append_right _ hx))
  refine (lawHangFloors z00 z01 z10 z11 W (tab_met hL)).mono fun e W' ⟨he, hb⟩ => ?_
  subst he
  refine ⟨_, rfl, _, _, _, [], p0 ++ p1, [], hW', ?_, trodAll_mk2 (harg0 W' hb) (harg1 W' hb), rfl, hb.frame _, fun h => by cases h⟩
  exact trodAll_mk1 (shut_bool Tryz.underlying4 true)
set_option maxHeartbeats 8000000 in
theorem floors_joined : joinedFacts Tryz.prog 10 Tryz.f10 Rows.hangFloorsSpec Rows.hangFloorsRow = true := by
  unfold joinedFacts
  simp only [Bool.and_eq_true]
  and_intros
  all_goals (as_aux_lemma => kernel_rfl)
theorem floors_holds : Rows.HangFloorsSaid :=
  OpenClaim.holds_of_wide 10 Tryz.f10 rfl rfl rfl rfl rfl rfl rfl ⟨rfl, rfl, rfl, rfl, rfl⟩ rfl rfl rfl rfl rfl (by kernel_rfl) Tryz.func10 floors_joined
    (of_decide_eq_true (by kernel_rfl)) (by unfold Func.isWrapper; first | (rw [if_pos (by decide +kernel)]; kernel_rfl) | (rw [if_neg (by decide +kernel)]; exact ⟨rfl, rfl⟩))
    (fun os started H enc _ => floors_lifted os started H enc)
theorem floors_card : Rows.HangFloorsCardSaid :=
  Claim7.holds_tied_plain_at .later [] [.data] true (true, "bb9c8a1f3b87a99a73053614bf73ec5a74d01f458fba8a9eee33de806b476934") false
    floors_holds (fun _ h => by cases h) (by kernel_rfl) (fun _ h => by cases h) hangFloors_row_tie rfl ⟨rfl, rfl⟩ (by kernel_rfl) rfl
    (fun f fn hf hfn => by
      obtain rfl : f = 10 := Option.some.inj ((show Tryz.prog.funcNamed "codend/codendlaw06.HangFloors" = some 10 by kernel_rfl).symm.trans hf) |>.symm
      obtain rfl : fn = Tryz.f10 := (Option.some.inj (Tryz.func10.symm.trans hfn)).symm
      exact ⟨by kernel_rfl, fun j t ht => by
        rw [Tryz.params10] at ht
        have hm : t ∈ [24, 24] := by simpa using Array.mem_of_getElem? ht
        have hall : ([24, 24].all fun u => !Tryz.prog.wantsStandIn u) = true := by kernel_rfl
        exact (show Tryz.prog.wantsStandIn t = false by simpa using List.all_eq_true.1 hall t hm)⟩)
    (by kernel_rfl)
#print axioms floors_card
end Go.Proofs.YtlkeejhaodedmaaGreatDoor
