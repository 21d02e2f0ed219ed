/- Helpers: HxHmB. -/
import Derived.Test.YtlkeejhaodedmaaGreatDoorH4
import Derived.BigQuiet
import Derived.Deep.DeepCutAuto
import Derived.StillTailTactics
/- The law HangWeights. -/
namespace Go.Proofs.YtlkeejhaodedmaaGreatDoor
open Go.RowKit

set_option maxHeartbeats 400000 in
theorem rfCheckRange (n lo hi : Int) (w : World) :
    Calls Tryz.prog 27 #[.int .i64 n, .int .i64 lo, .int .i64 hi] w fun e w' => e = .returned (.int .i64 (rngH n lo hi)) ∧ w = w' := by
  unfold rngH
  by_cases h1 : n < lo
  · go_enter Tryz.func27, Tryz.ntmps27
    go_wp2
    go_ret
    simp
  · by_cases h2 : hi < n
    all_goals
      go_enter Tryz.func27, Tryz.ntmps27
      go_wp2
      go_ret
      simp <;> omega
set_option maxHeartbeats 400000 in
theorem rfFirst (b c : Nat) (es : List Int) (w : World) (hn : es.length ≤ 100) (hc : ∀ i (h : i < es.length), w.cell? ⟨b, i, none⟩ = some (.int .i64 es[i])) :
    Calls Tryz.prog 26 #[.slice (some ⟨b, 0, none⟩) es.length c] w fun e w' => e = .returned (.int .i64 (fstE es)) ∧ w = w' := by
  have HC := Lib.hid hc
  have hn' : (es.length : Int) ≤ 100 := by omega
  clear hc
  go_enter Tryz.func26, Tryz.ntmps26
  go_wp2_with fail
  go_loop [3] (fun i => ∃ k : Nat, k ≤ es.length ∧ i = .int .i64 k ∧ fstE es = fstE (es.drop k)) (fun i => es.length - (intOf i).toNat)
  case atStart => exact ⟨0, Nat.zero_le _, rfl, rfl⟩
  case round =>
    obtain ⟨k, hk, rfl, he⟩ := hrel
    have HE := Lib.hid he
    clear he
    by_cases hlt : k < es.length
    · have hcell := HC.out k hlt
      by_cases hz : es[k] = 0
      · have HF := Lib.hid (show fstE (es.drop k) = fstE (es.drop (k + 1)) by
          rw [List.drop_eq_getElem_cons hlt]
          simp only [fstE, hz, if_true])
        rw [hz] at hcell
        clear hz
        go_wp2
        go_round
        case rel => exact ⟨k + 1, by omega, by go_num, HE.out.trans HF.out⟩
        case measure => simp [intOf]; omega
      · have HF := Lib.hid (show fstE (es.drop k) = es[k] by
          rw [List.drop_eq_getElem_cons hlt]
          simp only [fstE, if_neg hz])
        have hz1 : (es[k] != 0) = true := by rw [bne_iff_ne]; exact hz
        clear hz
        go_wp2
        go_ret
        exact ⟨ret_i (HE.out.trans HF.out).symm, rfl⟩
    · obtain rfl : k = es.length := by omega
      have HF := Lib.hid (show fstE (es.drop es.length) = 0 by rw [List.drop_length]; rfl)
      go_wp2
      go_ret
      exact ⟨ret_i (HE.out.trans HF.out).symm, rfl⟩
theorem rfFirst2 (g d : Nat) (a b : Int) (t : TypeId) (w : World) (h : w.heap[g]? = some (.cells #[.int .i64 a, .int .i64 b] t (0, 0))) :
    Calls Tryz.prog 26 #[.slice (some ⟨g, 0, none⟩) 2 d] w fun e w' => e = .returned (.int .i64 (fstE [a, b])) ∧ w = w' :=
  rfFirst g d [a, b] w (by simp) (errs2 h)
theorem rfFirst4 (g d : Nat) (a b c e' : Int) (t : TypeId) (w : World) (h : w.heap[g]? = some (.cells #[.int .i64 a, .int .i64 b, .int .i64 c, .int .i64 e'] t (0, 0))) :
    Calls Tryz.prog 26 #[.slice (some ⟨g, 0, none⟩) 4 d] w fun e w' => e = .returned (.int .i64 (fstE [a, b, c, e'])) ∧ w = w' :=
  rfFirst g d [a, b, c, e'] w (by simp) (errs4 h)
set_option maxHeartbeats 1000000 in
set_option maxRecDepth 100000 in
theorem rfCheckCounts (b k r a : Int) (w : World) :
    Calls Tryz.prog 57 #[.int .i64 b, .int .i64 k, .int .i64 r, .int .i64 a] w fun e w' => e = .returned (.int .i64 (lenE b k r a)) ∧ Below w.heap.size w w' := by
  have HE := Lib.hid (show fstE [rngH b 0 100000, rngH k 0 100000, rngH r 1 100, rngH a 0 100] = lenE b k r a from rfl)
  generalize lenE b k r a = E at HE ⊢
  go_enter Tryz.func57, Tryz.ntmps57
  go_wp2_with fail
  refine (rfCheckRange _ _ _ _).mono ?_
  rintro e w2 ⟨rfl, rfl⟩
  go_wp2_with fail
  refine (rfCheckRange _ _ _ _).mono ?_
  rintro e w2 ⟨rfl, rfl⟩
  go_wp2_with fail
  refine (rfCheckRange _ _ _ _).mono ?_
  rintro e w2 ⟨rfl, rfl⟩
  go_wp2_with fail
  refine (rfCheckRange _ _ _ _).mono ?_
  rintro e w2 ⟨rfl, rfl⟩
  go_wp2_with fail
  refine (rfFirst4 _ _ _ _ _ _ 3 _ (by exact newBlk _ _)).mono ?_
  rintro e w2 ⟨rfl, rfl⟩
  rw [HE.out]
  go_wp2
  go_ret
  exact ⟨rfl, (Below.refl _ _).alloc (Nat.le_refl _) _⟩
set_option maxHeartbeats 400000 in
theorem rfLength (b k r a : Nat) (w : World) (hb : b ≤ 100000) (hk : k ≤ 100000) (hr : r ≤ 100) (ha : a ≤ 100) :
    Calls Tryz.prog 58 #[.int .i64 b, .int .i64 k, .int .i64 r, .int .i64 a] w fun e w' => e = .returned (.int .i64 (lenN b k r a : Nat)) ∧ w = w' := by
  obtain ⟨b10, b11⟩ := mulB hb hr
  obtain ⟨b20, b21⟩ := mulB hk ha
  have HE := Lib.hid (show (b : Int) * r + (k : Int) * a = (lenN b k r a : Nat) by unfold lenN; push_cast; rfl)
  have w1 : IntKind.i64.wrap ((b : Int) * r) = (b : Int) * r := wr64 (by omega) (by omega)
  have w2 : IntKind.i64.wrap ((k : Int) * a) = (k : Int) * a := wr64 (by omega) (by omega)
  have w3 : IntKind.i64.wrap ((b : Int) * r + (k : Int) * a) = (b : Int) * r + (k : Int) * a := wr64 (by omega) (by omega)
  go_enter Tryz.func58, Tryz.ntmps58
  go_wp2
  go_ret
  exact ⟨ret_i HE.out, rfl⟩
set_option maxHeartbeats 1000000 in
theorem rfWeight (l t : Nat) (w : World) (hl : l ≤ 2000000000) (ht : t ≤ 100000) :
    Calls Tryz.prog 59 #[.int .i64 l, .int .i64 t] w fun e w' => e = .returned (.tuple #[.int .i64 (if 999999999 < weiN l t then 0 else (weiN l t : Nat)), .int .i64 (if 999999999 < weiN l t then 4 else 0)]) ∧ w = w' := by
  obtain ⟨b10, b11⟩ := mulB hl ht
  have HE := Lib.hid (show ((l : Int) * t).tdiv 1000 = (weiN l t : Nat) by rw [mulI]; exact divN _ 1000)
  have w1 : IntKind.i64.wrap ((l : Int) * t) = (l : Int) * t := wr64 (by omega) (by omega)
  have hwl : weiN l t ≤ 200000000000 := by
    have := Nat.mul_le_mul hl ht
    unfold weiN
    omega
  have HQ := HE.out
  by_cases hn : 999999999 < weiN l t
  · rw [if_pos hn, if_pos hn]
    generalize weiN l t = n at HE hwl hn HQ
    have w2 : IntKind.i64.wrap (((l : Int) * t).tdiv 1000) = ((l : Int) * t).tdiv 1000 := by rw [HE.out]; exact wr64 (by omega) (by omega)
    have hni : (999999999 : Int) < ((l : Int) * t).tdiv 1000 := by rw [HE.out]; omega
    clear hn HQ
    go_enter Tryz.func59, Tryz.ntmps59
    go_wp2
    go_ret2
    exact ⟨rfl, rfl⟩
  · rw [if_neg hn, if_neg hn]
    generalize weiN l t = n at HE hwl hn HQ ⊢
    have w2 : IntKind.i64.wrap (((l : Int) * t).tdiv 1000) = ((l : Int) * t).tdiv 1000 := by rw [HE.out]; exact wr64 (by omega) (by omega)
    have hni : ¬ (999999999 : Int) < ((l : Int) * t).tdiv 1000 := by rw [HE.out]; omega
    clear hn HQ
    go_enter Tryz.func59, Tryz.ntmps59
    go_wp2
    go_ret2
    exact ⟨by first | rfl | (rw [← HE.out]; rfl), rfl⟩
set_option maxHeartbeats 8000000 in
set_option maxRecDepth 100000 in
theorem lawWeightsW (n0 n1 n2 n3 l t X E1 Y E2 : Int) (w : World) (hT : Tab w)
    (HL : ∀ w, Calls Tryz.prog 55 #[.int .i64 n0, .int .i64 n1, .int .i64 n2, .int .i64 n3] w fun e w' => e = .returned (.tuple #[.int .i64 X, .int .i64 E1]) ∧ Below w.heap.size w w')
    (HW : ∀ w, Calls Tryz.prog 56 #[.int .i64 l, .int .i64 t] w fun e w' => e = .returned (.tuple #[.int .i64 Y, .int .i64 E2]) ∧ Below w.heap.size w w')
    (HC : ∀ w, Calls Tryz.prog 57 #[.int .i64 n0, .int .i64 n1, .int .i64 n2, .int .i64 n3] w fun e w' => e = .returned (.int .i64 E1) ∧ Below w.heap.size w w')
    (h1 : E1 = 0 → ∀ w, Calls Tryz.prog 58 #[.int .i64 n0, .int .i64 n1, .int .i64 n2, .int .i64 n3] w fun e w' => e = .returned (.int .i64 X) ∧ w = w') (h1' : E1 ≠ 0 → X = 0)
    (h2 : weiE0 l t = 0 → ∀ w, Calls Tryz.prog 59 #[.int .i64 l, .int .i64 t] w fun e w' => e = .returned (.tuple #[.int .i64 Y, .int .i64 E2]) ∧ w = w') (h2' : weiE0 l t ≠ 0 → Y = 0 ∧ E2 = weiE0 l t) :
    Calls Tryz.prog 8 #[.agg #[.int .i64 n0, .int .i64 n1, .int .i64 n2, .int .i64 n3], .int .i64 l, .int .i64 t] w fun e w' => e = .returned (.bool true) ∧ Below w.heap.size w w' := by
  obtain ⟨w1, hw1, k1, B, hz1⟩ := boxS w (.cells #[.int .i64 n0, .int .i64 n1, .int .i64 n2, .int .i64 n3] 88)
  obtain ⟨a0, a1, a2, a3, -, -, -, -⟩ := cel4 k1
  have HF := Lib.hid (show fstE [rngH l 0 999999999, rngH t 1 100000] = weiE0 l t from rfl)
  by_cases g1 : E1 = 0 <;> by_cases g2 : weiE0 l t = 0
  · have HRL := h1 g1
    have HRW := h2 g2
    subst g1
    rw [g2] at HF
    clear h1 h2 h1' h2' g2
    go_enter Tryz.func8, Tryz.ntmps8
    go_wp2_with fail
    refine (HL _).mono ?_
    rintro e w2 ⟨rfl, hb⟩
    replace B := B.trans (hb.mono B.size)
    obtain ⟨c0, c1, c2, c3, -, -, -, -⟩ := cel4 (blkT k1 hb)
    have k2 := blkT k1 hb
    clear hb
    go_wp2_with fail
    refine (HW _).mono ?_
    rintro e w3 ⟨rfl, hb⟩
    replace B := B.trans (hb.mono B.size)
    replace k2 := blkT k2 hb
    obtain ⟨d0, d1, d2, d3, -, -, -, -⟩ := cel4 k2
    clear hb c0 c1 c2 c3
    go_wp2_with fail
    refine (HC _).mono ?_
    rintro e w4 ⟨rfl, hb⟩
    replace B := B.trans (hb.mono B.size)
    replace k2 := blkT k2 hb
    clear hb d0 d1 d2 d3
    go_wp2_with fail
    refine (rfCheckRange _ _ _ _).mono ?_
    rintro e w5 ⟨rfl, rfl⟩
    go_wp2_with fail
    refine (rfCheckRange _ _ _ _).mono ?_
    rintro e w5 ⟨rfl, rfl⟩
    obtain ⟨w5, hw5, k5, hb, hz⟩ := boxS w4 (.cells #[.int .i64 (rngH l 0 999999999), .int .i64 (rngH t 1 100000)] 3)
    replace B := B.trans (hb.mono B.size)
    replace k2 := blkT k2 hb
    obtain ⟨d0, d1, d2, d3, -, -, -, -⟩ := cel4 k2
    clear hb hz
    go_wp2_with fail
    refine (rfFirst2 _ _ _ _ 3 _ k5).mono ?_
    rintro e w6 ⟨rfl, rfl⟩
    rw [HF.out]
    clear k5
    go_wp2_with fail
    refine (HRL _).mono ?_
    rintro e w6 ⟨rfl, rfl⟩
    go_wp2_with fail
    refine (HRW _).mono ?_
    rintro e w6 ⟨rfl, rfl⟩
    go_wp2_with fail
    refine (awake6 _ (hT.below B)).mono ?_
    rintro e w7 ⟨rfl, hb⟩
    replace B := B.trans (hb.mono B.size)
    go_wp2
    go_ret
    exact ⟨rfl, B⟩
  · have HRL := h1 g1
    obtain ⟨rfl, rfl⟩ := h2' g2
    subst g1
    generalize weiE0 l t = E at HF HW g2
    have hne := nzH g2
    clear h1 h2 h1' h2' g2
    go_enter Tryz.func8, Tryz.ntmps8
    go_wp2_with fail
    refine (HL _).mono ?_
    rintro e w2 ⟨rfl, hb⟩
    replace B := B.trans (hb.mono B.size)
    obtain ⟨c0, c1, c2, c3, -, -, -, -⟩ := cel4 (blkT k1 hb)
    have k2 := blkT k1 hb
    clear hb
    go_wp2_with fail
    refine (HW _).mono ?_
    rintro e w3 ⟨rfl, hb⟩
    replace B := B.trans (hb.mono B.size)
    replace k2 := blkT k2 hb
    obtain ⟨d0, d1, d2, d3, -, -, -, -⟩ := cel4 k2
    clear hb c0 c1 c2 c3
    go_wp2_with fail
    refine (HC _).mono ?_
    rintro e w4 ⟨rfl, hb⟩
    replace B := B.trans (hb.mono B.size)
    replace k2 := blkT k2 hb
    clear hb d0 d1 d2 d3
    go_wp2_with fail
    refine (rfCheckRange _ _ _ _).mono ?_
    rintro e w5 ⟨rfl, rfl⟩
    go_wp2_with fail
    refine (rfCheckRange _ _ _ _).mono ?_
    rintro e w5 ⟨rfl, rfl⟩
    obtain ⟨w5, hw5, k5, hb, hz⟩ := boxS w4 (.cells #[.int .i64 (rngH l 0 999999999), .int .i64 (rngH t 1 100000)] 3)
    replace B := B.trans (hb.mono B.size)
    replace k2 := blkT k2 hb
    obtain ⟨d0, d1, d2, d3, -, -, -, -⟩ := cel4 k2
    clear hb hz
    go_wp2_with fail
    refine (rfFirst2 _ _ _ _ 3 _ k5).mono ?_
    rintro e w6 ⟨rfl, rfl⟩
    rw [HF.out]
    clear k5
    go_wp2_with fail
    refine (HRL _).mono ?_
    rintro e w6 ⟨rfl, rfl⟩
    go_wp2_with fail
    refine (awake6 _ (hT.below B)).mono ?_
    rintro e w7 ⟨rfl, hb⟩
    replace B := B.trans (hb.mono B.size)
    go_wp2
    go_ret
    exact ⟨rfl, B⟩
  · have HRW := h2 g2
    obtain rfl := h1' g1
    have hne := nzH g1
    rw [g2] at HF
    clear h1 h2 h1' h2' g1 g2
    go_enter Tryz.func8, Tryz.ntmps8
    go_wp2_with fail
    refine (HL _).mono ?_
    rintro e w2 ⟨rfl, hb⟩
    replace B := B.trans (hb.mono B.size)
    obtain ⟨c0, c1, c2, c3, -, -, -, -⟩ := cel4 (blkT k1 hb)
    have k2 := blkT k1 hb
    clear hb
    go_wp2_with fail
    refine (HW _).mono ?_
    rintro e w3 ⟨rfl, hb⟩
    replace B := B.trans (hb.mono B.size)
    replace k2 := blkT k2 hb
    obtain ⟨d0, d1, d2, d3, -, -, -, -⟩ := cel4 k2
    clear hb c0 c1 c2 c3
    go_wp2_with fail
    refine (HC _).mono ?_
    rintro e w4 ⟨rfl, hb⟩
    replace B := B.trans (hb.mono B.size)
    replace k2 := blkT k2 hb
    clear hb d0 d1 d2 d3
    go_wp2_with fail
    refine (rfCheckRange _ _ _ _).mono ?_
    rintro e w5 ⟨rfl, rfl⟩
    go_wp2_with fail
    refine (rfCheckRange _ _ _ _).mono ?_
    rintro e w5 ⟨rfl, rfl⟩
    obtain ⟨w5, hw5, k5, hb, hz⟩ := boxS w4 (.cells #[.int .i64 (rngH l 0 999999999), .int .i64 (rngH t 1 100000)] 3)
    replace B := B.trans (hb.mono B.size)
    replace k2 := blkT k2 hb
    obtain ⟨d0, d1, d2, d3, -, -, -, -⟩ := cel4 k2
    clear hb hz
    go_wp2_with fail
    refine (rfFirst2 _ _ _ _ 3 _ k5).mono ?_
    rintro e w6 ⟨rfl, rfl⟩
    rw [HF.out]
    clear k5
    go_wp2_with fail
    refine (HRW _).mono ?_
    rintro e w6 ⟨rfl, rfl⟩
    go_wp2_with fail
    refine (awake6 _ (hT.below B)).mono ?_
    rintro e w7 ⟨rfl, hb⟩
    replace B := B.trans (hb.mono B.size)
    go_wp2
    go_ret
    exact ⟨rfl, B⟩
  · obtain rfl := h1' g1
    obtain ⟨rfl, rfl⟩ := h2' g2
    have hne := nzH g1
    generalize weiE0 l t = E at HF HW g2
    have hne2 := nzH g2
    clear h1 h2 h1' h2' g1 g2
    go_enter Tryz.func8, Tryz.ntmps8
    go_wp2_with fail
    refine (HL _).mono ?_
    rintro e w2 ⟨rfl, hb⟩
    replace B := B.trans (hb.mono B.size)
    obtain ⟨c0, c1, c2, c3, -, -, -, -⟩ := cel4 (blkT k1 hb)
    have k2 := blkT k1 hb
    clear hb
    go_wp2_with fail
    refine (HW _).mono ?_
    rintro e w3 ⟨rfl, hb⟩
    replace B := B.trans (hb.mono B.size)
    replace k2 := blkT k2 hb
    obtain ⟨d0, d1, d2, d3, -, -, -, -⟩ := cel4 k2
    clear hb c0 c1 c2 c3
    go_wp2_with fail
    refine (HC _).mono ?_
    rintro e w4 ⟨rfl, hb⟩
    replace B := B.trans (hb.mono B.size)
    replace k2 := blkT k2 hb
    clear hb d0 d1 d2 d3
    go_wp2_with fail
    refine (rfCheckRange _ _ _ _).mono ?_
    rintro e w5 ⟨rfl, rfl⟩
    go_wp2_with fail
    refine (rfCheckRange _ _ _ _).mono ?_
    rintro e w5 ⟨rfl, rfl⟩
    obtain ⟨w5, hw5, k5, hb, hz⟩ := boxS w4 (.cells #[.int .i64 (rngH l 0 999999999), .int .i64 (rngH t 1 100000)] 3)
    replace B := B.trans (hb.mono B.size)
    replace k2 := blkT k2 hb
    obtain ⟨d0, d1, d2, d3, -, -, -, -⟩ := cel4 k2
    clear hb hz
    go_wp2_with fail
    refine (rfFirst2 _ _ _ _ 3 _ k5).mono ?_
    rintro e w6 ⟨rfl, rfl⟩
    rw [HF.out]
    clear k5
    go_wp2_with fail
    refine (awake6 _ (hT.below B)).mono ?_
    rintro e w7 ⟨rfl, hb⟩
    replace B := B.trans (hb.mono B.size)
    go_wp2
    go_ret
    exact ⟨rfl, B⟩
theorem lawHangWeights (n0 n1 n2 n3 l t : Int) (w : World) (hT : Tab w) :
    Calls Tryz.prog 8 #[.agg #[.int .i64 n0, .int .i64 n1, .int .i64 n2, .int .i64 n3], .int .i64 l, .int .i64 t] w fun e w' => e = .returned (.bool true) ∧ Below w.heap.size w w' := by
  refine lawWeightsW n0 n1 n2 n3 l t _ _ _ _ w hT (fun w => hgLength n0 n1 n2 n3 w) (fun w => hgWeight l t w) (fun w => rfCheckCounts n0 n1 n2 n3 w) ?_ (fun h => ozE h _) ?_ (fun h => ?_)
  · intro h w
    obtain ⟨r1, r2, r3, r4⟩ := fst4_zero h
    have g1 := rngH_zero r1
    have g2 := rngH_zero r2
    have g3 := rngH_zero r3
    have g4 := rngH_zero r4
    rw [h, oz0]
    obtain ⟨b, rfl⟩ : ∃ x : Nat, n0 = (x : Int) := ⟨n0.toNat, by omega⟩
    obtain ⟨k, rfl⟩ : ∃ x : Nat, n1 = (x : Int) := ⟨n1.toNat, by omega⟩
    obtain ⟨r, rfl⟩ : ∃ x : Nat, n2 = (x : Int) := ⟨n2.toNat, by omega⟩
    obtain ⟨a, rfl⟩ : ∃ x : Nat, n3 = (x : Int) := ⟨n3.toNat, by omega⟩
    simp only [Int.toNat_natCast]
    exact rfLength b k r a w (by omega) (by omega) (by omega) (by omega)
  · intro h w
    obtain ⟨r1, r2⟩ := fst2_zero h
    have g1 := rngH_zero r1
    have g2 := rngH_zero r2
    obtain ⟨L, rfl⟩ : ∃ x : Nat, l = (x : Int) := ⟨l.toNat, by omega⟩
    obtain ⟨T, rfl⟩ : ∃ x : Nat, t = (x : Int) := ⟨t.toNat, by omega⟩
    have hW := rfWeight L T w (by omega) (by omega)
    have e : weiE (L : Int) (T : Int) = if 999999999 < weiN L T then 4 else 0 := by rw [weiE, if_pos h, Int.toNat_natCast, Int.toNat_natCast]
    rw [e, Int.toNat_natCast, Int.toNat_natCast]
    by_cases hn : 999999999 < weiN L T
    · rw [if_pos hn] at hW ⊢
      rw [if_pos hn] at hW
      rw [ozE (by decide)]
      exact hW
    · rw [if_neg hn] at hW ⊢
      rw [if_neg hn] at hW
      rw [oz0]
      exact hW
  · have e : weiE l t = weiE0 l t := by rw [weiE, if_neg h]
    rw [e]
    exact ⟨ozE h _, rfl⟩
end Go.Proofs.YtlkeejhaodedmaaGreatDoor

/- The reference's tables of twine: ShortTwines, TwineAt, far. -/
namespace Go.Proofs.YtlkeejhaodedmaaGreatDoor
open Go.RowKit

/-- A Boolean; if it is true, p holds. -/
def BoolP (p : Prop) (w : World) (e : Ending) (w' : World) : Prop := ∃ b, e = .returned (.bool b) ∧ (b = true → p) ∧ w = w'
theorem dsT_far {x T : Int} (t : Twn) (h : t.x = x) : max x T - min x T = dsT T t := by
  subst h
  unfold dsT
  split <;> omega
set_option maxHeartbeats 1000000 in
theorem rfFar (t : Twn) (T : Int) (w : World) (hx : 0 ≤ t.x ∧ t.x ≤ 100000) (hT : 0 ≤ T ∧ T ≤ 100000) :
    Calls Tryz.prog 106 #[.int .i64 t.x, .int .i64 T] w fun e w' => e = .returned (.int .i64 (dsT T t)) ∧ w = w' := by
  obtain ⟨h1, h2⟩ := hx
  obtain ⟨h3, h4⟩ := hT
  have HD := Lib.hid (dsT_far (T := T) t rfl)
  have wa : IntKind.i64.wrap (max t.x T - min t.x T) = max t.x T - min t.x T := wr64 (by omega) (by omega)
  go_enter Tryz.func106, Tryz.ntmps106
  go_wp2_with fail
  go_ret
  exact ⟨ret_i HD.out, rfl⟩
set_option maxHeartbeats 1000000 in
set_option maxRecDepth 100000 in
theorem rfShortTwines (A : Option Addr) (c : Nat) (l : List Twn) (w : World) (hA : OKV Twn.c 3 w A c l) :
    Calls Tryz.prog 49 #[.slice A l.length c] w (BoolP (l.length ≤ 33) w) := by
  have HA := Lib.hid hA
  have hm : l.length ≤ maxLen := Nat.le_trans hA.1 hA.2.1
  unfold maxLen at hm
  clear hA
  by_cases hlen : 6 < l.length ∧ l.length ≠ 33
  · have h1 : (6 : Int) < (l.length : Int) := by omega
    have h2 : ((l.length : Int) != 33) = true := by rw [bne_iff_ne]; omega
    go_enter Tryz.func49, Tryz.ntmps49
    go_wp2_with fail
    go_ret
    exact ⟨false, rfl, (fun h => by cases h), rfl⟩
  · have hle : l.length ≤ 33 := by omega
    have HLE := Lib.hid hle
    have HLL := Lib.hid hlen
    go_enter Tryz.func49, Tryz.ntmps49
    go_upto_region 1 with fail
    go_cut [11] (fun s X => s = .bool false ∧ w = X)
    case first =>
      by_cases h6 : 6 < l.length
      · have h33 : l.length = 33 := by have := HLL.out; omega
        have h1 : (6 : Int) < (l.length : Int) := by omega
        have h2 : ((l.length : Int) != 33) = false := by rw [h33]; rfl
        have H33 := Lib.hid h33
        clear h33
        go_wp2_with fail
        go_meet
        exact ⟨rfl, rfl⟩
      · have h1 : ¬ (6 : Int) < (l.length : Int) := by omega
        go_wp2_with fail
        go_meet
        exact ⟨rfl, rfl⟩
    case rest =>
      obtain ⟨rfl, rfl⟩ := hcut
      clear hlen
      go_wp2_with fail
      go_loopw [3] (fun i wr => ∃ k : Nat, k ≤ l.length ∧ i = .int .i64 k ∧ w = wr) (fun i _ => l.length - (intOf i).toNat)
      case atStart => exact ⟨0, Nat.zero_le _, rfl, rfl⟩
      case round =>
        obtain ⟨k, hk, rfl, rfl⟩ := hrel
        by_cases hlt : k < l.length
        · have hki : (k : Int) < (l.length : Int) := by omega
          have hk0 : (0 : Int) ≤ (k : Int) := by omega
          obtain ⟨b, off, hAe, hB, c0, c1, c2⟩ := atT HA.out.2.2.2 hlt
          subst hAe
          generalize l[k].s = q at c0
          by_cases hq : q.size ≤ 40
          · have hq2 : ¬ (40 : Int) < (q.size : Int) := by omega
            go_wp2_with fail
            go_roundw
            case rel => exact ⟨k + 1, by omega, by go_num, trivial⟩
            case measure => simp [intOf]; omega
          · have hq2 : (40 : Int) < (q.size : Int) := by omega
            go_wp2_with fail
            go_ret
            exact ⟨false, rfl, (fun h => by cases h), rfl⟩
        · obtain rfl : k = l.length := by omega
          have hki : ¬ (l.length : Int) < (l.length : Int) := by omega
          go_wp2_with fail
          go_ret
          exact ⟨true, rfl, (fun _ => by first | trivial | exact HLE.out), rfl⟩
/-- The index of the first twine with a name, or -1. -/
def idxA (s : ByteArray) : List Twn → Nat → Int
  | [], _ => -1
  | x :: r, i => if nmN s x = true then (i : Int) else idxA s r (i + 1)
theorem idxA_any (s : ByteArray) : ∀ (l : List Twn) (i : Nat), (0 ≤ idxA s l i ↔ l.any (nmN s) = true) ∧ -1 ≤ idxA s l i ∧ idxA s l i ≤ i + l.length
  | [], i => by simp [idxA]
  | x :: r, i => by
    obtain ⟨h1, h2, h3⟩ := idxA_any s r (i + 1)
    unfold idxA
    rw [List.length_cons]
    by_cases hx : nmN s x = true
    · rw [if_pos hx]
      refine ⟨⟨fun _ => by simp [hx], fun _ => by omega⟩, by omega, by omega⟩
    · rw [if_neg hx]
      refine ⟨?_, h2, by omega⟩
      rw [h1]
      simp [hx]
def atI (s : ByteArray) (l : List Twn) : Int := idxA s l 0
set_option maxHeartbeats 1000000 in
set_option maxRecDepth 100000 in
theorem rfTwineAt (A : Option Addr) (c n : Nat) (l : List Twn) (s : ByteArray) (w : World) (hn : l.length = n) (hl : l.length ≤ 100000) (hA : RV Twn.c 3 w w.heap.size A l) :
    Calls Tryz.prog 105 #[.slice A n c, .string s] w fun e w' => e = .returned (.int .i64 (atI s l)) ∧ w = w' := by
  subst hn
  have HA := Lib.hid hA
  clear hA
  obtain ⟨R, hR⟩ : ∃ R, atI s l = R := ⟨_, rfl⟩
  rw [hR]
  have H0 := Lib.hid (show R = idxA s (l.drop 0) 0 from hR.symm)
  clear hR
  go_enter Tryz.func105, Tryz.ntmps105
  go_wp2_with fail
  go_loopw [5] (fun i wr => ∃ k : Nat, k ≤ l.length ∧ i = .int .i64 k ∧ Hid (R = idxA s (l.drop k) k) ∧ w = wr) (fun i _ => l.length - (intOf i).toNat)
  case atStart => exact ⟨0, Nat.zero_le _, rfl, H0, rfl⟩
  case round =>
    clear H0
    obtain ⟨k, hk, rfl, HR, rfl⟩ := hrel
    by_cases hlt : k < l.length
    · have hki : (k : Int) < (l.length : Int) := by omega
      have hk0 : (0 : Int) ≤ (k : Int) := by omega
      obtain ⟨b, off, hAe, hB, c0, c1, c2⟩ := atT HA.out hlt
      subst hAe
      obtain ⟨p, hp⟩ : ∃ p, nmN s l[k] = p := ⟨_, rfl⟩
      have HS := Lib.hid (show R = if p = true then (k : Int) else idxA s (l.drop (k + 1)) (k + 1) by rw [HR.out, List.drop_eq_getElem_cons hlt, idxA, hp])
      unfold nmN nmE at hp
      generalize l[k].s = q at c0 hp
      cases p
      · have HS2 := Lib.hid (show R = idxA s (l.drop (k + 1)) (k + 1) from HS.out)
        clear HS
        go_wp2_with fail
        go_roundw
        case rel => exact ⟨k + 1, by omega, by go_num, HS2, trivial⟩
        case measure => simp [intOf]; omega
      · have HS2 := Lib.hid (show R = (k : Int) from HS.out)
        clear HS
        go_wp2_with fail
        go_ret
        exact ⟨ret_i HS2.out.symm, rfl⟩
    · obtain rfl : k = l.length := by omega
      have hki : ¬ (l.length : Int) < (l.length : Int) := by omega
      have HS2 := Lib.hid (show R = -1 by rw [HR.out, List.drop_length]; rfl)
      go_wp2_with fail
      go_ret
      exact ⟨ret_i HS2.out.symm, rfl⟩
end Go.Proofs.YtlkeejhaodedmaaGreatDoor

/- The reference's CheckTwines and Nearest. -/
namespace Go.Proofs.YtlkeejhaodedmaaGreatDoor
open Go.RowKit

theorem keep11 {W w1 w2 : World} {b o : Nat} {x y : Value} (z : b < W.heap.size) (k : w1.cell? ⟨b, o + 1, none⟩ = some x ∧ w1.cell? ⟨b, o + 2, none⟩ = some y ∧ Below W.heap.size W w1) (hb : Below w1.heap.size w1 w2) :
    w2.cell? ⟨b, o + 1, none⟩ = some x ∧ w2.cell? ⟨b, o + 2, none⟩ = some y ∧ Below W.heap.size W w2 := by
  obtain ⟨a0, a1, c⟩ := k
  have := c.size
  exact ⟨(hb.cell (p := ⟨b, _, none⟩) (by show b < _; omega)).trans a0, (hb.cell (p := ⟨b, _, none⟩) (by show b < _; omega)).trans a1, tw c hb⟩
set_option maxHeartbeats 4000000 in
set_option maxRecDepth 100000 in
theorem rfCheckTwines (A : Option Addr) (c : Nat) (l : List Twn) (w : World) (hl : l.length ≤ 1000) (hA : OKV Twn.c 3 w A c l) :
    Calls Tryz.prog 52 #[.slice A l.length c] w fun e w' => e = .returned (.int .i64 (twsE l)) ∧ Below w.heap.size w w' := by
  have HA := Lib.hid hA
  clear hA
  by_cases hlen : 32 < l.length
  · have hi : (32 : Int) < (l.length : Int) := by omega
    rw [twsE, if_pos hlen]
    go_enter Tryz.func52, Tryz.ntmps52
    go_wp2_with fail
    go_ret
    exact ⟨rfl, Below.refl _ _⟩
  · have hi : ¬ (32 : Int) < (l.length : Int) := by omega
    rw [twsE, if_neg hlen]
    have HST := Lib.hid (show lstE twnE [] l = lstE twnE (l.take 0) (l.drop 0) by simp)
    obtain ⟨E, hE⟩ : ∃ E, lstE twnE [] l = E := ⟨_, rfl⟩
    rw [hE] at HST ⊢
    clear hE
    go_enter Tryz.func52, Tryz.ntmps52
    go_wp2_with fail
    go_loopw [3] (fun i wr => ∃ k : Nat, k ≤ l.length ∧ i = .int .i64 k ∧ Hid (E = lstE twnE (l.take k) (l.drop k)) ∧ Below w.heap.size w wr) (fun i _ => l.length - (intOf i).toNat)
    case atStart => exact ⟨0, Nat.zero_le _, rfl, HST, Below.refl _ _⟩
    case round =>
      clear HST
      obtain ⟨k, hk, rfl, HS, hb⟩ := hrel
      by_cases hlt : k < l.length
      · have hki : (k : Int) < (l.length : Int) := by omega
        have hk0 : (0 : Int) ≤ (k : Int) := by omega
        have hkc : (k : Int) ≤ (c : Int) := by have := HA.out.1; omega
        have HAw := Lib.hid (OKV.below HA.out hb)
        obtain ⟨b, off, hAe, hB, c0, c1, c2⟩ := atT HAw.out.2.2.2 hlt
        subst hAe
        have HSt := Lib.hid (HS.out.trans (lstE_step twnE l hlt))
        have HT := fun w h => (rfTwineAt (some ⟨b, off, none⟩) c k (l.take k) l[k].s w (by rw [List.length_take]; omega) (by rw [List.length_take]; omega) h).mono fun _ _ h => And.intro h.1 h.2.symm
        have HTk := Lib.hid (HAw.out.2.2.2.take k)
        obtain ⟨ns, hns⟩ : ∃ x, namE l[k].s = x := ⟨_, rfl⟩
        obtain ⟨nw, hnw⟩ : ∃ x, newE (l.take k) l[k] = x := ⟨_, rfl⟩
        have HF := Lib.hid (show twnE (l.take k) l[k] = fstE [ns, nw, rngH l[k].x 1 100000, rngH l[k].h 1 100] by unfold twnE; rw [hns, hnw])
        have HN0 := Lib.hid hns
        have HN1 := Lib.hid hnw
        unfold namE at hns
        unfold newE at hnw
        have HNB := fun w => refIsName l[k].s w
        generalize nameB l[k].s = p at hns HNB
        obtain ⟨j1, j2, j3⟩ := idxA_any l[k].s (l.take k) 0
        have jl : (l.take k).length ≤ 1000 := by rw [List.length_take]; omega
        obtain ⟨r, hr⟩ : ∃ r, atI l[k].s (l.take k) = r := ⟨_, rfl⟩
        rw [show idxA l[k].s (l.take k) 0 = r from hr] at j1 j2 j3
        rw [hr] at HT
        generalize (l.take k).any (nmN l[k].s) = a at hnw j1
        generalize hf : twnE (l.take k) l[k] = F at HSt HF
        generalize l[k].s = s at c0 HNB HT
        generalize l[k].x = x at c1 HF
        generalize l[k].h = h at c2 HF
        clear hf hr HN0 HN1
        cases p
        · have HE := Lib.hid (show E = 8 by
            have h8 : F = 8 := by rw [HF.out, ← hns]; rfl
            rw [HSt.out, h8, if_neg (by decide)])
          go_wp2_with fail
          refine (HNB _).mono ?_
          rintro e w3 ⟨rfl, rfl⟩
          go_wp2_with fail
          go_ret
          exact ⟨ret_i HE.out.symm, hb⟩
        · go_wp2_with fail
          refine (HNB _).mono ?_
          rintro e w3 ⟨rfl, rfl⟩
          go_wp2_with fail
          go_quiet (first | (go_at_call 105; exact Calls.quiet_of_same (HT _ HTk.out)))
          have c1' : (World.drewN wr nq).cell? ⟨b, off + k * 3 + 1, none⟩ = some (.int .i64 x) := c1
          have c2' : (World.drewN wr nq).cell? ⟨b, off + k * 3 + 2, none⟩ = some (.int .i64 h) := c2
          have hb5 := below_drewN hb nq
          have hB5 : b < (World.drewN wr nq).heap.size := hB
          generalize World.drewN wr nq = w5 at c1' c2' hb5 hB5 ⊢
          have hns0 : ns = 0 := hns.symm
          clear c0 c1 c2 hns HNB HT
          subst hns0
          cases a
          · have hnw0 : nw = 0 := hnw.symm
            subst hnw0
            clear hnw
            have HF2 := Lib.hid (show F = fstE [rngH x 1 100000, rngH h 1 100] from HF.out)
            have B5 := Below.refl w5.heap.size w5
            go_wp2_with fail
            go_region_held3 (fun X => X.cell? ⟨b, off + k * 3 + 1, none⟩ = some (.int .i64 x) ∧ X.cell? ⟨b, off + k * 3 + 2, none⟩ = some (.int .i64 h) ∧ Below w5.heap.size w5 X)
              (first | exact ⟨c1', c2', B5⟩ | exact ⟨c1', c2', below_drew B5⟩ | exact keep11 hB5 (by assumption) (by assumption) | exact keep11 hB5 (by assumption) ((Below.refl _ _).alloc (Nat.le_refl _) _) | assumption | exact keep11 hB5 (by assumption) (below_drew (Below.refl _ _)) | go_keep)
              (first
                | (go_at_call 27; refine (rfCheckRange _ _ _ _).mono ?_; rintro e w' ⟨rfl, rfl⟩)
                | (go_at_call 26; refine (rfFirst2 _ _ _ _ 3 _ (by exact newBlk _ _)).mono ?_; rintro e w' ⟨rfl, rfl⟩))
            all_goals
              rename_i hH
              rw [← HF2.out]
              obtain ⟨-, -, hb6⟩ := hH
              have hb7 := tw hb5 hb6
              clear c1' c2' B5 hB5 hb6
              by_cases hF : F = 0
              · have HE2 := Lib.hid (show E = lstE twnE (l.take (k + 1)) (l.drop (k + 1)) by rw [HSt.out, if_pos hF])
                subst hF
                go_wp2_with fail
                go_roundw
                case rel => exact ⟨k + 1, by omega, by go_num, HE2, hb7⟩
                case measure => simp [intOf]; omega
              · have HE2 := Lib.hid (show E = F by rw [HSt.out, if_neg hF])
                have hFn := nzH hF
                clear hF
                go_wp2_with fail
                go_ret
                exact ⟨ret_i HE2.out.symm, hb7⟩
          · have HE := Lib.hid (show E = 9 by
              have h9 : F = 9 := by rw [HF.out, ← hnw]; rfl
              rw [HSt.out, h9, if_neg (by decide)])
            go_wp2_with fail
            go_ret
            exact ⟨ret_i HE.out.symm, hb5⟩
      · obtain rfl : k = l.length := by omega
        have hki : ¬ (l.length : Int) < (l.length : Int) := by omega
        have HE := Lib.hid (HS.out.trans (lstE_end twnE l))
        go_wp2_with fail
        go_ret
        exact ⟨ret_i HE.out.symm, hb⟩
def dsX (T x : Int) : Int := if x < T then T - x else x - T
theorem rfFarG (x T : Int) (w : World) (h : (0 ≤ x ∧ x ≤ 100000) ∧ 0 ≤ T ∧ T ≤ 100000) :
    Calls Tryz.prog 106 #[.int .i64 x, .int .i64 T] w fun e w' => e = .returned (.int .i64 (dsX T x)) ∧ w' = w :=
  (rfFar ⟨⟨#[]⟩, x, 0⟩ T w h.1 h.2).mono fun _ _ h => ⟨h.1, h.2.symm⟩
theorem cmpT_neg (T : Int) (a b : Twn) : cmpT T a b < 0 ↔ dsT T a < dsT T b ∨ (dsT T a = dsT T b ∧ a.x < b.x) := by
  unfold cmpT cmpH
  simp only [fstE]
  repeat' split
  all_goals omega
set_option maxHeartbeats 2000000 in
set_option maxRecDepth 100000 in
theorem rfNearest (A : Option Addr) (c : Nat) (l : List Twn) (T : Int) (w : World) (hl : l.length ≤ 1000) (h1 : 1 ≤ l.length) (hT : 0 ≤ T ∧ T ≤ 100000) (hx : ∀ t ∈ l, 0 ≤ t.x ∧ t.x ≤ 100000) (hA : OKV Twn.c 3 w A c l) :
    Calls Tryz.prog 53 #[.slice A l.length c, .int .i64 T] w fun e w' => e = .returned (.tuple #[.int .i64 (nrI l T : Nat), .int .i64 0]) ∧ Below w.heap.size w w' := by
  have HA := Lib.hid hA
  have HX := Lib.hid hx
  clear hA hx
  obtain ⟨R, hR⟩ : ∃ R, nrI l T = R := ⟨_, rfl⟩
  rw [hR]
  have HR := Lib.hid hR
  clear hR
  have n0 : ((l.length : Int) == 0) = false := by rw [beq_eq_false_iff_ne]; omega
  have n0' : ¬ l.length = 0 := by omega
  go_enter Tryz.func53, Tryz.ntmps53
  go_wp2_with fail
  go_loopw [6, 7] (fun bs i wr => ∃ k q : Nat, q < k ∧ k ≤ l.length ∧ i = .int .i64 k ∧ bs = .int .i64 q ∧ Hid (∀ (hq : q < l.length), minT T (l.headD twn0) (l.take k) = l[q] ∧ (∀ j (hj : j < l.length), j < k → ¬ cmpT T l[j] l[q] < 0) ∧ ∀ j (hj : j < l.length), j < q → cmpT T l[q] l[j] < 0) ∧ Below w.heap.size w wr) (fun _ i _ => l.length - (intOf i).toNat)
  case atStart =>
    refine ⟨1, 0, by omega, h1, rfl, rfl, Lib.hid (fun hq => ⟨?_, ?_, ?_⟩), Below.refl _ _⟩
    · cases l with
      | nil => simp at h1
      | cons a r => simp [minT, cmpT_self]
    · intro j hj hj1
      obtain rfl : j = 0 := by omega
      rw [cmpT_self]; decide
    · intro j hj hj1; omega
  case round =>
    obtain ⟨k, q, hqk, hk, rfl, rfl, HQ, hb⟩ := hrel
    by_cases hlt : k < l.length
    · have hql : q < l.length := by omega
      have hki : (k : Int) < (l.length : Int) := by omega
      have hk0 : (0 : Int) ≤ (k : Int) := by omega
      have hqi : (q : Int) < (l.length : Int) := by omega
      have hq0 : (0 : Int) ≤ (q : Int) := by omega
      have HAw := Lib.hid (OKV.below HA.out hb)
      obtain ⟨b, off, hAe, hB, c0, c1, c2⟩ := atT HAw.out.2.2.2 hlt
      subst hAe
      obtain ⟨b', off', hAe, -, d0, d1, d2⟩ := atT HAw.out.2.2.2 hql
      injection hAe with hAe
      injection hAe with e1 e2
      subst e1 e2
      have HN := Lib.hid (cmpT_neg T l[k] l[q])
      have HST := Lib.hid (show l.take (k + 1) = l.take k ++ [l[k]] from List.take_succ_eq_append_getElem hlt)
      have HMS := Lib.hid (minT_step T (l.headD twn0) l hlt)
      have HXB := Lib.hid (show (0 ≤ l[k].x ∧ l[k].x ≤ 100000) ∧ 0 ≤ T ∧ T ≤ 100000 from ⟨HX.out _ (List.getElem_mem hlt), hT⟩)
      have HYB := Lib.hid (show (0 ≤ l[q].x ∧ l[q].x ≤ 100000) ∧ 0 ≤ T ∧ T ≤ 100000 from ⟨HX.out _ (List.getElem_mem hql), hT⟩)
      have HN2 := Lib.hid (show cmpT T l[k] l[q] < 0 ↔ dsX T l[k].x < dsX T l[q].x ∨ (dsX T l[k].x = dsX T l[q].x ∧ l[k].x < l[q].x) from HN.out)
      obtain ⟨X, hX⟩ : ∃ X, l[k].x = X := ⟨_, rfl⟩
      obtain ⟨Y, hY⟩ : ∃ Y, l[q].x = Y := ⟨_, rfl⟩
      rw [hX] at c1 HXB
      rw [hY] at d1 HYB
      rw [hX, hY] at HN2
      clear hX hY HN c0 c2 d0 d2
      go_wp2_with fail
      go_quiet (first | (go_at_call 106; exact Calls.quiet_of_same (rfFarG _ _ _ (by first | exact HXB.out | exact HYB.out))))
      generalize dsX T X = da at HN2 ⊢
      generalize dsX T Y = db at HN2 ⊢
      have c1' : (World.drewN wr nq).cell? ⟨b, off + k * 3 + 1, none⟩ = some (.int .i64 X) := c1
      have d1' : (World.drewN wr nq).cell? ⟨b, off + q * 3 + 1, none⟩ = some (.int .i64 Y) := d1
      have hb7 := below_drewN hb nq
      generalize World.drewN wr nq = w5 at c1' d1' hb7 ⊢
      clear c1 d1 hb
      by_cases hd : da < db
      · have g1 : decide (da < db) = true := decide_eq_true hd
        have HP := Lib.hid (HN2.out.2 (Or.inl hd))
        clear HN2
        go_wp2_with fail
        go_quiet (fail)
        go_wp2_with fail
        go_roundw
        case rel => exact ⟨k + 1, k, by omega, by omega, by go_num, rfl, Lib.hid (fun _ => by
          obtain ⟨q1, q2, q3⟩ := HQ.out hql
          refine ⟨by rw [HMS.out, q1, if_pos HP.out], fun j hj hj1 => ?_, fun j hj hj1 => ?_⟩
          · rcases Nat.lt_or_ge j k with h' | h'
            · have a1 := q2 j hj h'
              have a2 := HP.out
              have e0 := cmpT_neg T l[j] l[q]
              have e1 := cmpT_neg T l[k] l[q]
              have e2 := cmpT_neg T l[j] l[k]
              have e3 := cmpT_neg T l[k] l[j]
              omega
            · obtain rfl : j = k := by omega
              rw [cmpT_self]; decide
          · have a1 := q2 j hj hj1
            have a2 := HP.out
            have e0 := cmpT_neg T l[j] l[q]
            have e1 := cmpT_neg T l[k] l[q]
            have e2 := cmpT_neg T l[j] l[k]
            have e3 := cmpT_neg T l[k] l[j]
            omega), by first | exact below_drewN (below_drewN hb _) _ | exact below_drewN hb7 _⟩
        case measure => simp [intOf]; omega
      · have g1 : decide (da < db) = false := decide_eq_false hd
        by_cases he : da = db
        · have g2 : (da == db) = true := by rw [beq_iff_eq]; exact he
          by_cases hxy : X < Y
          · have g3 : decide (X < Y) = true := decide_eq_true hxy
            have HP := Lib.hid (HN2.out.2 (Or.inr ⟨he, hxy⟩))
            replace he := Lib.hid he
            clear HN2
            go_wp2_with fail
            go_quiet (fail)
            go_wp2_with fail
            go_roundw
            case rel => exact ⟨k + 1, k, by omega, by omega, by go_num, rfl, Lib.hid (fun _ => by
              obtain ⟨q1, q2, q3⟩ := HQ.out hql
              refine ⟨by rw [HMS.out, q1, if_pos HP.out], fun j hj hj1 => ?_, fun j hj hj1 => ?_⟩
              · rcases Nat.lt_or_ge j k with h' | h'
                · have a1 := q2 j hj h'
                  have a2 := HP.out
                  have e0 := cmpT_neg T l[j] l[q]
                  have e1 := cmpT_neg T l[k] l[q]
                  have e2 := cmpT_neg T l[j] l[k]
                  have e3 := cmpT_neg T l[k] l[j]
                  omega
                · obtain rfl : j = k := by omega
                  rw [cmpT_self]; decide
              · have a1 := q2 j hj hj1
                have a2 := HP.out
                have e0 := cmpT_neg T l[j] l[q]
                have e1 := cmpT_neg T l[k] l[q]
                have e2 := cmpT_neg T l[j] l[k]
                have e3 := cmpT_neg T l[k] l[j]
                omega), by first | exact below_drewN (below_drewN hb _) _ | exact below_drewN hb7 _⟩
            case measure => simp [intOf]; omega
          · have g3 : decide (X < Y) = false := decide_eq_false hxy
            have HP := Lib.hid (show ¬ cmpT T l[k] l[q] < 0 from fun h => by have := HN2.out.1 h; omega)
            replace he := Lib.hid he
            clear HN2
            go_wp2_with fail
            go_quiet (fail)
            go_wp2_with fail
            go_roundw
            case rel => exact ⟨k + 1, q, by omega, by omega, by go_num, rfl, Lib.hid (fun _ => by
              obtain ⟨q1, q2, q3⟩ := HQ.out hql
              refine ⟨by rw [HMS.out, q1, if_neg (by have := HP.out; omega)], fun j hj hj1 => ?_, q3⟩
              rcases Nat.lt_or_ge j k with h' | h'
              · have := q2 j hj h'; omega
              · obtain rfl : j = k := by omega
                have := HP.out; omega), by first | exact below_drewN (below_drewN hb _) _ | exact below_drewN hb7 _⟩
            case measure => simp [intOf]; omega
        · have g2 : (da == db) = false := by rw [beq_eq_false_iff_ne]; exact he
          have HP := Lib.hid (show ¬ cmpT T l[k] l[q] < 0 from fun h => by have := HN2.out.1 h; omega)
          clear HN2
          go_wp2_with fail
          go_quiet (fail)
          go_wp2_with fail
          go_roundw
          case rel => exact ⟨k + 1, q, by omega, by omega, by go_num, rfl, Lib.hid (fun _ => by
            obtain ⟨q1, q2, q3⟩ := HQ.out hql
            refine ⟨by rw [HMS.out, q1, if_neg (by have := HP.out; omega)], fun j hj hj1 => ?_, q3⟩
            rcases Nat.lt_or_ge j k with h' | h'
            · have := q2 j hj h'; omega
            · obtain rfl : j = k := by omega
              have := HP.out; omega), by first | exact below_drewN (below_drewN hb _) _ | exact below_drewN hb7 _⟩
          case measure => simp [intOf]; omega
    · obtain rfl : k = l.length := by omega
      have hki : ¬ (l.length : Int) < (l.length : Int) := by omega
      have HE := Lib.hid (show (q : Int) = (R : Int) by
        obtain ⟨q1, q2, q3⟩ := HQ.out (by omega)
        rw [← HR.out, nrI]
        rw [List.take_length] at q1
        rw [q1]
        have hf : l.findIdx? (sameT l[q]) = some q := by
          rw [List.findIdx?_eq_some_iff_getElem]
          refine ⟨by omega, (sameT_iff _ _).2 rfl, fun j hj => ?_⟩
          intro hs
          have hs2 := (sameT_iff _ _).1 hs
          have h3 := q3 j (by omega) hj
          rw [← hs2, cmpT_self] at h3
          omega
        rw [hf]
        rfl)
      go_wp2_with fail
      go_ret2
      exact ⟨by rw [HE.out]; rfl, hb⟩
end Go.Proofs.YtlkeejhaodedmaaGreatDoor

/- The reference's bills: ShortLines, SameSums, CheckLines. -/
namespace Go.Proofs.YtlkeejhaodedmaaGreatDoor
open Go.RowKit

set_option maxRecDepth 100000 in
theorem eqSum6 (a b c : Int) (w : World) : (Op.equalIn 10000 107 (.agg #[.int .i64 a, .int .i64 b, .int .i64 c]) (.agg #[.int .i64 a, .int .i64 b, .int .i64 c])).run Tryz.prog w = .ok true w := by
  have u3 := Tryz.underlying3
  have a3 := Tryz.isAgg3
  have z3 := Tryz.sizeOf3
  have hS : Tryz.prog.underlying 107 = some (.struct (Tryz.prog.fieldsOf 107)) := by kernel_rfl
  have hp : Tryz.prog.stoodInHeld 107 = false := by kernel_rfl
  rw [show (10000 : Nat) = 9999 + 1 from rfl, run_equalIn_struct w 9999 107 _ _ hS hp]
  simp only [Program.fieldsOf, Tryz.underlying107]
  go_simp
theorem guardSum6 : Tryz.prog.eqGuardType Tryz.prog.depth 107 = false := by kernel_rfl
set_option maxHeartbeats 1000000 in
set_option maxRecDepth 100000 in
theorem rfSameSums (A A' : Option Addr) (c c' n n' : Nat) (l : List Sm) (w : World) (hn : l.length = n) (hn' : l.length = n') (hl : l.length ≤ 100000) (h : RV Sm.c 3 w w.heap.size A l) (h' : RV Sm.c 3 w w.heap.size A' l) :
    Calls Tryz.prog 65 #[.slice A n c, .slice A' n' c'] w fun e w' => e = .returned (.bool true) ∧ Below w.heap.size w w' := by
  subst hn hn'
  have HR := Lib.hid h
  have HR' := Lib.hid h'
  clear h h'
  have hgd := guardSum6
  have hne : ((l.length : Int) != (l.length : Int)) = false := by simp
  go_enter Tryz.func65, Tryz.ntmps65
  go_wp2_with fail
  go_loopw [5] (fun i wr => ∃ k : Nat, k ≤ l.length ∧ i = .int .i64 k ∧ Below w.heap.size w wr) (fun i _ => l.length - (intOf i).toNat)
  case atStart => exact ⟨0, Nat.zero_le _, rfl, Below.refl _ _⟩
  case round =>
    obtain ⟨k, hk, rfl, hb⟩ := hrel
    by_cases hlt : k < l.length
    · obtain ⟨b, off, rfl, hB, c0, c1, c2⟩ := atM (HR.out.to hb) hlt
      obtain ⟨b', off', rfl, hB', d0, d1, d2⟩ := atM (HR'.out.to hb) hlt
      have b1 : (0 : Int) ≤ (k : Int) := by omega
      have b2 : (k : Int) < (l.length : Int) := by omega
      generalize l[k].l = x at c0 d0
      generalize l[k].w = y at c1 d1
      generalize l[k].a = z at c2 d2
      have heq := fun w => eqSum6 x y z w
      go_wp2_with fail
      go_quiet (fail)
      go_wp2_with fail
      go_roundw
      case rel => exact ⟨k + 1, by omega, by go_num, below_drewN hb _⟩
      case measure => simp [intOf]; omega
    · obtain rfl : k = l.length := by omega
      go_wp2_with fail
      go_ret
      exact ⟨rfl, hb⟩
set_option maxHeartbeats 1000000 in
set_option maxRecDepth 100000 in
theorem rfShortLines (A : Option Addr) (c : Nat) (l : List Lin) (w : World) (hA : OKV Lin.c 4 w A c l) :
    Calls Tryz.prog 60 #[.slice A l.length c, .int .i64 8] w (BoolP (l.length ≤ 65) w) := by
  have HA := Lib.hid hA
  have hm : l.length ≤ maxLen := Nat.le_trans hA.1 hA.2.1
  unfold maxLen at hm
  clear hA
  by_cases hlen : 8 < l.length ∧ l.length ≠ 65
  · have h1 : (8 : Int) < (l.length : Int) := by omega
    have h2 : ((l.length : Int) != 65) = true := by rw [bne_iff_ne]; omega
    go_enter Tryz.func60, Tryz.ntmps60
    go_wp2_with fail
    go_ret
    exact ⟨false, rfl, (fun h => by cases h), rfl⟩
  · have hle : l.length ≤ 65 := by omega
    have HLE := Lib.hid hle
    have HLL := Lib.hid hlen
    go_enter Tryz.func60, Tryz.ntmps60
    go_upto_region 1 with fail
    go_cut [14] (fun s X => s = .bool false ∧ w = X)
    case first =>
      by_cases h6 : 8 < l.length
      · have h33 : l.length = 65 := by have := HLL.out; omega
        have h1 : (8 : Int) < (l.length : Int) := by omega
        have h2 : ((l.length : Int) != 65) = false := by rw [h33]; rfl
        have H33 := Lib.hid h33
        clear h33
        go_wp2_with fail
        go_meet
        exact ⟨rfl, rfl⟩
      · have h1 : ¬ (8 : Int) < (l.length : Int) := by omega
        go_wp2_with fail
        go_meet
        exact ⟨rfl, rfl⟩
    case rest =>
      obtain ⟨rfl, rfl⟩ := hcut
      clear hlen
      go_wp2_with fail
      go_loopw [5] (fun i wr => ∃ k : Nat, k ≤ l.length ∧ i = .int .i64 k ∧ w = wr) (fun i _ => l.length - (intOf i).toNat)
      case atStart => exact ⟨0, Nat.zero_le _, rfl, rfl⟩
      case round =>
        obtain ⟨k, hk, rfl, rfl⟩ := hrel
        by_cases hlt : k < l.length
        · have hki : (k : Int) < (l.length : Int) := by omega
          have hk0 : (0 : Int) ≤ (k : Int) := by omega
          obtain ⟨b, off, hAe, hB, c0, c1, c2, c3⟩ := atL HA.out.2.2.2 hlt
          subst hAe
          generalize l[k].s = q at c3
          by_cases hq : q.size ≤ 40
          · have hq2 : ¬ (40 : Int) < (q.size : Int) := by omega
            go_wp2_with fail
            go_roundw
            case rel => exact ⟨k + 1, by omega, by go_num, trivial⟩
            case measure => simp [intOf]; omega
          · have hq2 : (40 : Int) < (q.size : Int) := by omega
            go_wp2_with fail
            go_ret
            exact ⟨false, rfl, (fun h => by cases h), rfl⟩
        · obtain rfl : k = l.length := by omega
          have hki : ¬ (l.length : Int) < (l.length : Int) := by omega
          go_wp2_with fail
          go_ret
          exact ⟨true, rfl, (fun _ => by first | trivial | exact HLE.out), rfl⟩
theorem rfFirst3 (g d : Nat) (a b c : Int) (t : TypeId) (w : World) (h : w.heap[g]? = some (.cells #[.int .i64 a, .int .i64 b, .int .i64 c] t (0, 0))) :
    Calls Tryz.prog 26 #[.slice (some ⟨g, 0, none⟩) 3 d] w fun e w' => e = .returned (.int .i64 (fstE [a, b, c])) ∧ w = w' :=
  rfFirst g d [a, b, c] w (by simp) (fun i hi => by
    have : i = 0 ∨ i = 1 ∨ i = 2 := by simp at hi; omega
    rcases this with rfl | rfl | rfl <;> simp [World.cell?, h])
theorem nmKN (s : ByteArray) (tb : List Twn) : tb.any (nmK s) = tb.any (nmN s) := by
  congr 1
  funext t
  unfold nmK nmN nmE
  rw [Bool.eq_iff_iff, beq_iff_eq, beq_iff_eq]
  exact ⟨Eq.symm, Eq.symm⟩
theorem fst4_3 (a b c d : Int) : fstE [a, b, c, d] = if fstE [a, b, c] = 0 then d else fstE [a, b, c] := by
  simp only [fstE]
  repeat' split
  all_goals first | rfl | omega | simp_all
theorem keep111 {W w1 w2 : World} {b o b' o' : Nat} {x y z u : Value} (zb : b < W.heap.size) (zb' : b' < W.heap.size) (k : w1.cell? ⟨b, o, none⟩ = some x ∧ w1.cell? ⟨b, o + 1, none⟩ = some y ∧ w1.cell? ⟨b, o + 2, none⟩ = some z ∧ w1.cell? ⟨b', o', none⟩ = some u ∧ Below W.heap.size W w1) (hb : Below w1.heap.size w1 w2) :
    w2.cell? ⟨b, o, none⟩ = some x ∧ w2.cell? ⟨b, o + 1, none⟩ = some y ∧ w2.cell? ⟨b, o + 2, none⟩ = some z ∧ w2.cell? ⟨b', o', none⟩ = some u ∧ Below W.heap.size W w2 := by
  obtain ⟨a0, a1, a2, a3, c⟩ := k
  have := c.size
  exact ⟨(hb.cell (p := ⟨b, _, none⟩) (by show b < _; omega)).trans a0, (hb.cell (p := ⟨b, _, none⟩) (by show b < _; omega)).trans a1, (hb.cell (p := ⟨b, _, none⟩) (by show b < _; omega)).trans a2, (hb.cell (p := ⟨b', _, none⟩) (by show b' < _; omega)).trans a3, tw c hb⟩
set_option maxHeartbeats 4000000 in
set_option maxRecDepth 100000 in
theorem rfCheckLines (At : Option Addr) (ct : Nat) (tb : List Twn) (A : Option Addr) (c : Nat) (l : List Lin) (w : World) (htl : tb.length ≤ 1000) (hl : l.length ≤ 1000) (hT : OKV Twn.c 3 w At ct tb) (hA : OKV Lin.c 4 w A c l) :
    Calls Tryz.prog 63 #[.slice At tb.length ct, .slice A l.length c] w fun e w' => e = .returned (.int .i64 (lnsE tb l)) ∧ Below w.heap.size w w' := by
  have HA := Lib.hid hA
  have HTB := Lib.hid hT
  clear hA hT
  by_cases hlen : 64 < l.length
  · have hi : (64 : Int) < (l.length : Int) := by omega
    rw [lnsE, if_pos hlen]
    go_enter Tryz.func63, Tryz.ntmps63
    go_wp2_with fail
    go_ret
    exact ⟨rfl, Below.refl _ _⟩
  · have hi : ¬ (64 : Int) < (l.length : Int) := by omega
    rw [lnsE, if_neg hlen]
    have HST := Lib.hid (show lstE (fun _ s => linE tb s) [] l = lstE (fun _ s => linE tb s) (l.take 0) (l.drop 0) by simp)
    obtain ⟨E, hE⟩ : ∃ E, lstE (fun _ s => linE tb s) [] l = E := ⟨_, rfl⟩
    rw [hE] at HST ⊢
    clear hE
    go_enter Tryz.func63, Tryz.ntmps63
    go_wp2_with fail
    go_loopw [5] (fun i wr => ∃ k : Nat, k ≤ l.length ∧ i = .int .i64 k ∧ Hid (E = lstE (fun _ s => linE tb s) (l.take k) (l.drop k)) ∧ Below w.heap.size w wr) (fun i _ => l.length - (intOf i).toNat)
    case atStart => exact ⟨0, Nat.zero_le _, rfl, HST, Below.refl _ _⟩
    case round =>
      clear HST
      obtain ⟨k, hk, rfl, HS, hb⟩ := hrel
      by_cases hlt : k < l.length
      · have hki : (k : Int) < (l.length : Int) := by omega
        have hk0 : (0 : Int) ≤ (k : Int) := by omega
        obtain ⟨b, off, hAe, hB, c0, c1, c2, c3⟩ := atL (OKV.below HA.out hb).2.2.2 hlt
        subst hAe
        have HSt := Lib.hid (show E = if linE tb l[k] = 0 then lstE (fun _ s => linE tb s) (l.take (k + 1)) (l.drop (k + 1)) else linE tb l[k] from HS.out.trans (lstE_step (fun _ s => linE tb s) l hlt))
        have HT := fun w h => (rfTwineAt At ct tb.length tb l[k].s w rfl (by omega) h)
        have HFF := Lib.hid (show linE tb l[k] = if fstE [rngH l[k].b 0 100000, rngH l[k].k 0 100000, rngH l[k].r 1 100] = 0 then knwE tb l[k].s else fstE [rngH l[k].b 0 100000, rngH l[k].k 0 100000, rngH l[k].r 1 100] from fst4_3 _ _ _ _)
        obtain ⟨j1, j2, j3⟩ := idxA_any l[k].s tb 0
        obtain ⟨r, hr⟩ : ∃ r, atI l[k].s tb = r := ⟨_, rfl⟩
        rw [show idxA l[k].s tb 0 = r from hr] at j1 j2 j3
        rw [hr] at HT
        have hkw : knwE tb l[k].s = if 0 ≤ r then 0 else 10 := by
          unfold knwE
          rw [nmKN]
          by_cases h : 0 ≤ r
          · rw [if_pos (j1.1 h), if_pos h]
          · rw [if_neg (fun h' => h (j1.2 h')), if_neg h]
        rw [hkw] at HFF
        clear hkw hr j1
        generalize linE tb l[k] = F at HSt HFF
        generalize l[k].b = x at c0 HFF
        generalize l[k].k = y at c1 HFF
        generalize l[k].r = z at c2 HFF
        generalize l[k].s = s at c3 HT
        have B5 := Below.refl wr.heap.size wr
        go_wp2_with fail
        go_region_held3 (fun X => X.cell? ⟨b, off + k * 4, none⟩ = some (.int .i64 x) ∧ X.cell? ⟨b, off + k * 4 + 1, none⟩ = some (.int .i64 y) ∧ X.cell? ⟨b, off + k * 4 + 2, none⟩ = some (.int .i64 z) ∧ X.cell? ⟨b, off + k * 4 + 3, none⟩ = some (.string s) ∧ Below wr.heap.size wr X)
          (first | exact ⟨c0, c1, c2, c3, B5⟩ | exact ⟨c0, c1, c2, c3, below_drew B5⟩ | exact keep111 hB hB (by assumption) (by assumption) | exact keep111 hB hB (by assumption) ((Below.refl _ _).alloc (Nat.le_refl _) _) | assumption | exact keep111 hB hB (by assumption) (below_drew (Below.refl _ _)) | go_keep)
          (first
            | (go_at_call 27; refine (rfCheckRange _ _ _ _).mono ?_; rintro e w' ⟨rfl, rfl⟩)
            | (go_at_call 26; refine (rfFirst3 _ _ _ _ _ 3 _ (by exact newBlk _ _)).mono ?_; rintro e w' ⟨rfl, rfl⟩))
        all_goals
          rename_i hH
          obtain ⟨-, -, -, c3', hb6⟩ := hH
          have hb7 := tw hb hb6
          have HTk := Lib.hid (OKV.below HTB.out hb7)
          clear c0 c1 c2 c3 B5 hb6
          generalize fstE [rngH x 0 100000, rngH y 0 100000, rngH z 1 100] = G at HFF ⊢
          by_cases hG : G = 0
          · subst hG
            have HF2 := Lib.hid (show F = if 0 ≤ r then 0 else 10 from HFF.out)
            go_wp2_with fail
            refine (HT _ HTk.out.2.2.2).mono ?_
            rintro e w9 ⟨rfl, rfl⟩
            by_cases hr0 : r < 0
            · have HE2 := Lib.hid (show E = 10 by
                have h10 : F = 10 := by rw [HF2.out, if_neg (by omega)]
                rw [HSt.out, h10, if_neg (by decide)])
              go_wp2_with fail
              go_ret
              exact ⟨ret_i HE2.out.symm, hb7⟩
            · have HE2 := Lib.hid (show E = lstE (fun _ s => linE tb s) (l.take (k + 1)) (l.drop (k + 1)) by
                have h0 : F = 0 := by rw [HF2.out, if_pos (by omega)]
                rw [HSt.out, if_pos h0])
              go_wp2_with fail
              go_roundw
              case rel => exact ⟨k + 1, by omega, by go_num, HE2, hb7⟩
              case measure => simp [intOf]; omega
          · have HE2 := Lib.hid (show E = G by
              have hf : F = G := by rw [HFF.out, if_neg hG]
              rw [HSt.out, hf, if_neg hG])
            have hGn := nzH hG
            have hGe : (G == 0) = false := by rw [beq_eq_false_iff_ne]; exact hG
            clear hG
            go_wp2_with fail
            go_ret
            exact ⟨ret_i HE2.out.symm, hb7⟩
      · obtain rfl : k = l.length := by omega
        have hki : ¬ (l.length : Int) < (l.length : Int) := by omega
        have HE := Lib.hid (HS.out.trans (lstE_end (fun _ s => linE tb s) l))
        go_wp2_with fail
        go_ret
        exact ⟨ret_i HE.out.symm, hb⟩
end Go.Proofs.YtlkeejhaodedmaaGreatDoor

/- The reference's Bill. -/
namespace Go.Proofs.YtlkeejhaodedmaaGreatDoor
open Go.RowKit

theorem info_sum6 : (Tryz.prog.info? 107).map (fun i => (i.zero, i.size, i.bytes)) = some (some (.agg #[.int .i64 0, .int .i64 0, .int .i64 0]), 3, 24) := by kernel_rfl
theorem setAt3 {W : World} {b : Nat} {u v x : Value} {t : TypeId} (h : W.heap[b]? = some (.cells #[u, v, x] t (0, 0))) (p : Value) :
    ((W.setCell ⟨b, 0, none⟩ p).heap[b]? = some (.cells #[p, v, x] t (0, 0)) ∧ (W.setCell ⟨b, 1, none⟩ p).heap[b]? = some (.cells #[u, p, x] t (0, 0)) ∧ (W.setCell ⟨b, 2, none⟩ p).heap[b]? = some (.cells #[u, v, p] t (0, 0))) ∧ ∀ i, W.grownBy (W.setCell ⟨b, i, none⟩ p) (some b) := by
  refine ⟨⟨?_, ?_, ?_⟩, fun i => ⟨rfl, rfl, rfl, by simp [World.setCell], fun j _ hne => ?_⟩⟩
  · simp only [World.setCell, Array.getElem?_modify, if_true, h, Option.map_some]
    rfl
  · simp only [World.setCell, Array.getElem?_modify, if_true, h, Option.map_some]
    rfl
  · simp only [World.setCell, Array.getElem?_modify, if_true, h, Option.map_some]
    rfl
  · have : j ≠ b := fun e => hne (by rw [e])
    exact Below.heap_setCell _ _ _ j this
theorem boxM {W : World} (o : Obj) : ∃ g w1, W.heap.size = g ∧ W.alloc o = w1 ∧ w1.heap[g]? = some o ∧ Below g W w1 ∧ g < w1.heap.size := ⟨_, _, rfl, rfl, newBlk _ _, (Below.refl _ _).alloc (Nat.le_refl _) _, by simp⟩
theorem mget_step (a : Nat) (l : List Lin) {k : Nat} (h : k < l.length) (s : ByteArray) : mget (lenS a (l.take (k + 1))) s = if nmE l[k].s s = true then mget (lenS a (l.take k)) s + (lnN a l[k] : Nat) else mget (lenS a (l.take k)) s := by
  rw [lenS_step a l h, mget_mput]
  by_cases hs : s = l[k].s
  · rw [if_pos hs, if_pos ((nmE_iff _ _).2 hs.symm), ← hs]
  · rw [if_neg hs, if_neg (fun h' => hs ((nmE_iff _ _).1 h').symm)]
set_option maxHeartbeats 8000000 in
set_option maxRecDepth 100000 in
theorem rfBillN (At : Option Addr) (ct : Nat) (tb : List Twn) (A : Option Addr) (c : Nat) (l : List Lin) (a : Nat) (w : World) (htl : tb.length ≤ 32) (hl : l.length ≤ 64) (ha : a ≤ 100) (hv : LinOk l) (hx : ∀ t ∈ tb, 1 ≤ t.x ∧ t.x ≤ 100000 ∧ 1 ≤ t.h ∧ t.h ≤ 100) (hT : OKV Twn.c 3 w At ct tb) (hA : OKV Lin.c 4 w A c l) (E : Int) (hE : (if (tb.map (smM (lenS a l))).any smB = true then 4 else 0) = E) :
    Calls Tryz.prog 64 #[.slice At tb.length ct, .slice A l.length c, .int .i64 a] w (ListP Sm.c 3 (ozL E (tb.map (smM (lenS a l)))) E w) := by
  have HA := Lib.hid hA
  have HTB := Lib.hid hT
  have HV := Lib.hid hv
  have HX := Lib.hid hx
  obtain ⟨i0, hi, hz0, hz1, hz2⟩ := info_parts info_sum6
  have HI := Lib.hid hi
  have HZ0 := Lib.hid hz0
  have HZ1 := Lib.hid hz1
  have HZ2 := Lib.hid hz2
  clear hi hz0 hz1 hz2 hA hT hv hx
  obtain ⟨M, hM⟩ : ∃ M, lenS a l = M := ⟨_, rfl⟩
  have HM := Lib.hid hM
  rw [hM] at hE ⊢
  have HE := Lib.hid hE
  clear hM hE
  go_enter Tryz.func64, Tryz.ntmps64
  go_wp2_with fail
  go_loopw [8, 9] (fun v i wr => ∃ k : Nat, k ≤ tb.length ∧ i = .int .i64 k ∧ Hid (wr.ownsRow w.heap.size 107 3 v k (((tb.take k).map (smM M)).flatMap Sm.c)) ∧ Hid (∀ j (hj : j < tb.length), j < k → smB (smM M tb[j]) = false) ∧ Below w.heap.size w wr) (fun _ i _ => tb.length - (intOf i).toNat)
  case atStart => exact ⟨0, Nat.zero_le _, rfl, World.ownsRow_nil _ _ _ _, Lib.hid (fun _ _ h => by omega), Below.refl _ _⟩
  case round =>
    obtain ⟨k, hk, rfl, hown, HN, hb⟩ := hrel
    by_cases hlt : k < tb.length
    · have hki : (k : Int) < (tb.length : Int) := by omega
      have hk0 : (0 : Int) ≤ (k : Int) := by omega
      obtain ⟨W0, rfl⟩ : ∃ W, W = wr := ⟨_, rfl⟩
      obtain ⟨gS, v1, hgS, hv1, kS, hbv1, hzv1⟩ := boxM (W := W0) (.cells #[.int .i64 0, .int .i64 0, .int .i64 0] 107)
      obtain ⟨t1, t2, t3, t4⟩ := HX.out _ (List.getElem_mem hlt)
      obtain ⟨s, hs⟩ : ∃ s, tb[k].s = s := ⟨_, rfl⟩
      have HTC := Lib.hid (fun (X : World) (h : Below w.heap.size w X) => by
        have h2 := atT (OKV.below HTB.out h).2.2.2 hlt
        rw [hs] at h2
        exact h2)
      have HSM := Lib.hid (show smM M tb[k] = smOf tb[k] (mget M s).toNat by rw [smM, hs])
      clear hs
      go_wp2_with fail
      go_loopw [11] (fun q wz => ∃ j : Nat, j ≤ l.length ∧ q = .int .i64 j ∧ wz.heap[gS]? = some (.cells #[.int .i64 (mget (lenS a (l.take j)) s), .int .i64 0, .int .i64 0] 107 (0, 0)) ∧ Below gS W0 wz) (fun q _ => l.length - (intOf q).toNat)
      case atStart => exact ⟨0, Nat.zero_le _, rfl, by simpa [lenS, mget] using kS, hbv1⟩
      case round =>
        obtain ⟨j, hj, rfl, kj, hbj⟩ := hrel
        have hbw : Below w.heap.size w wr := hb.trans (hbj.mono (by rw [← hgS]; exact hb.size))
        have hV := lenS_le ha HV.out j hj s
        by_cases hjl : j < l.length
        · have hji : (j : Int) < (l.length : Int) := by omega
          have hj0 : (0 : Int) ≤ (j : Int) := by omega
          obtain ⟨b, off, hAe, hB, c0, c1, c2, c3⟩ := atL (OKV.below HA.out hbw).2.2.2 hjl
          obtain ⟨b', off', hTe, hB', e0, e1, e2⟩ := HTC.out wr hbw
          subst hAe hTe
          have HST := Lib.hid (mget_step a l hjl s)
          have hn := lnN_le ha (HV.out j hjl)
          obtain ⟨u1, u2, u3⟩ := HV.out j hjl
          obtain ⟨x, hx⟩ : ∃ x, l[j] = x := ⟨_, rfl⟩
          rw [hx] at HST hn u1 u2 u3 c0 c1 c2 c3
          obtain ⟨X, hX⟩ : ∃ X : Nat, x.b = (X : Int) := ⟨x.b.toNat, by omega⟩
          obtain ⟨Y, hY⟩ : ∃ Y : Nat, x.k = (Y : Int) := ⟨x.k.toNat, by omega⟩
          obtain ⟨Z, hZ⟩ : ∃ Z : Nat, x.r = (Z : Int) := ⟨x.r.toNat, by omega⟩
          have HL := fun w => rfLength X Y Z a w (by omega) (by omega) (by omega) ha
          have hN : lnN a x = lenN X Y Z a := by rw [lnN, hX, hY, hZ]; rfl
          rw [hN] at HST hn
          rw [hX] at c0
          rw [hY] at c1
          rw [hZ] at c2
          obtain ⟨p, hp⟩ : ∃ p, nmE x.s s = p := ⟨_, rfl⟩
          rw [hp] at HST
          unfold nmE at hp
          generalize x.s = q at c3 hp
          clear hN hX hY hZ u1 u2 u3 hx
          generalize lenN X Y Z a = n at HL HST hn
          generalize mget (lenS a (l.take j)) s = V at HST hV kj
          obtain ⟨hV1, hV2⟩ := hV
          have hV3 : V ≤ 1280000000 := by omega
          have wv : IntKind.i64.wrap (V + (n : Int)) = V + (n : Int) := wr64 (by omega) (by omega)
          cases p
          · have HS2 := Lib.hid (show mget (lenS a (l.take (j + 1))) s = V from HST.out)
            go_wp2_with fail
            go_quiet (fail)
            have kj2 : (World.drewN wr nq).heap[gS]? = some (.cells #[.int .i64 V, .int .i64 0, .int .i64 0] 107 (0, 0)) := kj
            have hbj2 := below_drewN hbj nq
            go_wp2_with fail
            go_roundw
            case rel => exact ⟨j + 1, by omega, by go_num, by rw [HS2.out]; exact kj2, hbj2⟩
            case measure => simp [intOf]; omega
          · have HS2 := Lib.hid (show mget (lenS a (l.take (j + 1))) s = V + (n : Int) from HST.out)
            go_wp2_with fail
            go_quiet (fail)
            have kj2 : (World.drewN wr nq).heap[gS]? = some (.cells #[.int .i64 V, .int .i64 0, .int .i64 0] 107 (0, 0)) := kj
            have hbj2 := below_drewN hbj nq
            replace c0 : (World.drewN wr nq).cell? ⟨b, off + j * 4, none⟩ = some (.int .i64 X) := c0
            replace c1 : (World.drewN wr nq).cell? ⟨b, off + j * 4 + 1, none⟩ = some (.int .i64 Y) := c1
            replace c2 : (World.drewN wr nq).cell? ⟨b, off + j * 4 + 2, none⟩ = some (.int .i64 Z) := c2
            generalize World.drewN wr nq = w5 at kj2 hbj2 c0 c1 c2 ⊢
            obtain ⟨d0, -, -, -, -, -⟩ := cel3 kj2
            clear e0 e1 e2 c3
            go_wp2_with fail
            refine wp_region_still_tail 21 (by kernel_rfl) (by kernel_rfl) ?_
            simp only [List.take_succ_cons, List.take_zero, List.drop_succ_cons, List.drop_zero]
            repeat (first | still_step | still_call (Calls.mono (HL _) fun _ _ h => ⟨h.1, h.2.symm⟩))
            refine wpStill_nil ?_
            change wpList _ _ _ _ _ w5.drew
            have kj3 : w5.drew.heap[gS]? = some (.cells #[.int .i64 V, .int .i64 0, .int .i64 0] 107 (0, 0)) := kj2
            have hbj3 := below_drew hbj2
            clear d0 c0 c1 c2 kj2 hbj2
            generalize w5.drew = w6 at kj3 hbj3 ⊢
            obtain ⟨q0, q1, q2, q3, q4, q5⟩ := cel3 kj3
            obtain ⟨⟨s1, -, -⟩, s4⟩ := setAt3 kj3 (.int .i64 (V + (n : Int)))
            have hb7 := hbj3.grown (s4 0) (Nat.le_of_lt (blkSz kj3)) (fun j e => by cases e; exact Nat.le_refl _)
            go_wp2
            go_roundw
            case rel => exact ⟨j + 1, by omega, by go_num, by rw [HS2.out]; exact s1, hb7⟩
            case measure => simp [intOf]; omega
        · obtain rfl : j = l.length := by omega
          have hji : ¬ (l.length : Int) < (l.length : Int) := by omega
          rw [List.take_length, HM.out] at kj hV
          obtain ⟨b', off', hTe, hB', e0, e1, e2⟩ := HTC.out wr hbw
          subst hTe
          obtain ⟨N, hN⟩ : ∃ N : Nat, mget M s = (N : Int) := ⟨(mget M s).toNat, by omega⟩
          have hN2 : N ≤ 1280000000 := by omega
          obtain ⟨X, hX⟩ : ∃ X : Nat, tb[k].x = (X : Int) := ⟨tb[k].x.toNat, by omega⟩
          obtain ⟨Y, hY⟩ : ∃ Y : Nat, tb[k].h = (Y : Int) := ⟨tb[k].h.toNat, by omega⟩
          have HS2 := Lib.hid (show smM M tb[k] = ⟨(N : Int), ((weiN N X : Nat) : Int), (N : Int) * (Y : Int)⟩ by
            rw [HSM.out, hN, smOf, hX, hY]
            simp only [Int.toNat_natCast])
          rw [hN] at kj
          rw [hX] at e1
          rw [hY] at e2
          have HYY := Lib.hid hY
          have hX2 : X ≤ 100000 := by omega
          have hY2 : Y ≤ 100 := by omega
          have HBW := Lib.hid hb
          clear hV hN hX hY t1 t2 t3 t4 HSM hb
          obtain ⟨f0, f1⟩ := mulB hN2 hX2
          obtain ⟨f2, f3⟩ := mulB hN2 hY2
          have wv : IntKind.i64.wrap ((N : Int) * (X : Int)) = (N : Int) * (X : Int) := wr64 (by omega) (by omega)
          have wy : IntKind.i64.wrap ((N : Int) * (Y : Int)) = (N : Int) * (Y : Int) := wr64 (by omega) (by omega)
          have hq : ((N : Int) * (X : Int)).tdiv 1000 = ((weiN N X : Nat) : Int) := by unfold weiN; rw [← divN]; push_cast; rfl
          have hu : weiN N X ≤ 1280000000 * 100000 := Nat.le_trans (Nat.div_le_self _ _) (Nat.mul_le_mul hN2 hX2)
          generalize weiN N X = u at hq hu HS2
          have wu : IntKind.i64.wrap (u : Int) = (u : Int) := wr64 (by omega) (by omega)
          obtain ⟨ar, har⟩ : ∃ ar : Int, (N : Int) * (Y : Int) = ar := ⟨_, rfl⟩
          rw [har] at HS2 wy f2 f3
          obtain ⟨d0, -, -, -, -, -⟩ := cel3 kj
          go_wp2_with fail
          refine wp_region_still_tail 10 (by kernel_rfl) (by kernel_rfl) ?_
          simp only [List.take_succ_cons, List.take_zero, List.drop_succ_cons, List.drop_zero]
          repeat still_step
          refine wpStill_nil ?_
          change wpList _ _ _ _ _ wr.drew
          have kj3 : wr.drew.heap[gS]? = some (.cells #[.int .i64 N, .int .i64 0, .int .i64 0] 107 (0, 0)) := kj
          have hbj3 := below_drew hbj
          clear d0 e0 e1 e2 hB' kj hbj
          generalize wr.drew = w6 at kj3 hbj3 ⊢
          obtain ⟨q0, q1, q2, q3, q4, q5⟩ := cel3 kj3
          obtain ⟨⟨-, s1, -⟩, s4⟩ := setAt3 kj3 (.int .i64 (u : Int))
          have hb7 := hbj3.grown (s4 1) (Nat.le_of_lt (blkSz kj3)) (fun j e => by cases e; exact Nat.le_refl _)
          go_wp2_with fail
          clear q0 q1 q2 q3 q4 q5
          generalize w6.setCell ⟨gS, 1, none⟩ (.int .i64 (u : Int)) = w7 at s1 hb7 ⊢
          clear kj3 hbj3 s4 hbw
          obtain ⟨b2, off2, hTe, -, e0, e1, e2⟩ := HTC.out w7 (HBW.out.trans (hb7.mono (by rw [← hgS]; exact HBW.out.size)))
          injection hTe with hTe
          injection hTe with g1 g2
          subst g1 g2
          rw [show tb[k].h = (Y : Int) from HYY.out] at e2
          obtain ⟨d0, -, -, -, -, -⟩ := cel3 s1
          refine wp_region_still_tail 9 (by kernel_rfl) (by kernel_rfl) ?_
          simp only [List.take_succ_cons, List.take_zero, List.drop_succ_cons, List.drop_zero]
          repeat still_step
          refine wpStill_nil ?_
          change wpList _ _ _ _ _ w7.drew
          have kj3 : w7.drew.heap[gS]? = some (.cells #[.int .i64 N, .int .i64 u, .int .i64 0] 107 (0, 0)) := s1
          have hbj3 := below_drew hb7
          clear d0 e0 e1 e2 s1 hb7
          generalize w7.drew = w8 at kj3 hbj3 ⊢
          obtain ⟨q0, q1, q2, q3, q4, q5⟩ := cel3 kj3
          obtain ⟨⟨-, -, s1⟩, s4⟩ := setAt3 kj3 (.int .i64 ar)
          have hb9 := hbj3.grown (s4 2) (Nat.le_of_lt (blkSz kj3)) (fun j e => by cases e; exact Nat.le_refl _)
          go_upto_region 13 with fail
          clear q0 q1 q2 q3 q4 q5
          generalize w8.setCell ⟨gS, 2, none⟩ (.int .i64 ar) = w9 at s1 hb9 ⊢
          clear kj3 hbj3 s4
          obtain ⟨d0, d1, d2, -, -, -⟩ := cel3 s1
          have hbf : Below w.heap.size w w9 := HBW.out.trans (hb9.mono (by rw [← hgS]; exact HBW.out.size))
          by_cases hbad : 999999999 < (N : Int) ∨ 999999999 < (u : Int) ∨ 999999999 < ar
          · have HE4 := Lib.hid (show E = 4 by
              rw [← HE.out, if_pos]
              refine List.any_eq_true.2 ⟨smM M tb[k], List.mem_map.2 ⟨_, List.getElem_mem hlt, rfl⟩, ?_⟩
              rw [HS2.out, smB]
              exact decide_eq_true hbad)
            go_cut [87] (fun s X => s = .bool true ∧ w9 = X)
            case first =>
              by_cases a1 : 999999999 < (N : Int)
              · go_wp2_with fail
                go_meet
                exact ⟨rfl, rfl⟩
              · by_cases a2 : 999999999 < (u : Int)
                · go_wp2_with fail
                  go_meet
                  exact ⟨rfl, rfl⟩
                · have a3 : 999999999 < ar := by omega
                  go_wp2_with fail
                  go_meet
                  exact ⟨rfl, rfl⟩
            case rest =>
              obtain ⟨rfl, rfl⟩ := hcut
              clear hbad
              go_wp2_with fail
              go_ret2
              exact ⟨none, 0, by rw [HE4.out, ozLE (by decide)]; rfl, by rw [HE4.out, ozLE (by decide)]; exact OKV.none _ _ _, hbf⟩
          · have a1 : ¬ 999999999 < (N : Int) := by omega
            have a2 : ¬ 999999999 < (u : Int) := by omega
            have a3 : ¬ 999999999 < ar := by omega
            have HNN := Lib.hid (show ∀ j (hj : j < tb.length), j < k + 1 → smB (smM M tb[j]) = false from fun j hj h => by
              rcases Nat.lt_or_ge j k with h' | h'
              · exact HN.out j hj h'
              · obtain rfl : j = k := by omega
                rw [HS2.out, smB]
                exact decide_eq_false hbad)
            have HSN := Lib.hid (show ((tb.take (k + 1)).map (smM M)).flatMap Sm.c = ((tb.take k).map (smM M)).flatMap Sm.c ++ [.int .i64 (N : Int), .int .i64 (u : Int), .int .i64 ar] by
              rw [List.take_succ_eq_append_getElem hlt, List.map_append, List.flatMap_append, List.map_singleton, HS2.out]
              simp [Sm.c])
            have hbz := hbf.size
            have hown9 := Lib.hid (ownTo hown.out (by rw [hgS]; exact hb9))
            clear hbad
            go_wp2_with (at_builtin; refine wpList_append_own _ rfl _ _ 102 rfl w.heap.size 107 i0 (.agg #[.int .i64 0, .int .i64 0, .int .i64 0]) 3 24 Tryz.underlying102 HI.out HZ0.out HZ1.out HZ2.out rfl (by decide) _ _ _ rfl (hown9.out.alloc _) ⟨w9.heap.size, 0, none⟩ 1 1 [.int .i64 (N : Int), .int .i64 (u : Int), .int .i64 ar] rfl rfl (newsH _ _ _) ?c2 ?c3 ?c4 ?c5 ?_)
            case c2 => first | rfl | (intro u hu; simp at hu; rcases hu with rfl | rfl | rfl <;> rfl) | simp [Value.oneCell']
            case c3 => unfold maxLen; omega
            case c4 => omega
            case c5 => first | omega | (simp; omega)
            intro v' w10 hown10 hgrow10 _
            have hq10 : Below w.heap.size w w10 := (hbf.alloc hbz (.cells #[.int .i64 (N : Int), .int .i64 (u : Int), .int .i64 ar] 107)).grown hgrow10 (by simp; omega) (baseOf hown9.out)
            have HO10 := Lib.hid (show w10.ownsRow w.heap.size 107 3 v' (k + 1) (((tb.take (k + 1)).map (smM M)).flatMap Sm.c) by rw [HSN.out, List.map_take]; exact hown10)
            clear hown10 hgrow10 hown hown9
            go_wp2
            go_roundw
            case rel => exact ⟨k + 1, by omega, by go_num, HO10, HNN, hq10⟩
            case measure => simp [intOf]; omega
    · obtain rfl : k = tb.length := by omega
      have hki : ¬ (tb.length : Int) < (tb.length : Int) := by omega
      have hany : (tb.map (smM M)).any smB = false := by
        rw [Bool.eq_false_iff]
        intro h
        obtain ⟨x, hx, hq⟩ := List.any_eq_true.1 h
        obtain ⟨y, hy, rfl⟩ := List.mem_map.1 hx
        obtain ⟨j, hj, rfl⟩ := List.getElem_of_mem hy
        rw [HN.out j hj hj] at hq
        cases hq
      have ho := hown.out
      rw [List.take_length] at ho
      obtain ⟨av, cv, rfl, hok⟩ := OKV.ownN Sm.c3 ho (by rw [List.length_map])
      have HOK := Lib.hid hok
      have HANY := Lib.hid (show E = 0 by rw [← HE.out, hany]; rfl)
      clear hok hown ho hany
      go_wp2_with fail
      go_ret2
      refine ⟨av, cv, ?_, ?_, hb⟩
      · rw [HANY.out, ozL0, List.length_map]; rfl
      · rw [HANY.out, ozL0]; exact HOK.out
end Go.Proofs.YtlkeejhaodedmaaGreatDoor

/- The law's converters of lists. -/
namespace Go.Proofs.YtlkeejhaodedmaaGreatDoor
open Go.RowKit

theorem info_sections : (Tryz.prog.info? 131).map (fun i => (i.zero, i.size, i.bytes)) = some (some (.agg #[.int .i64 0, .int .i64 0, .int .i64 0]), 3, 24) := by kernel_rfl
set_option maxHeartbeats 4000000 in
set_option maxRecDepth 100000 in
theorem law_sections (A : Option Addr) (c : Nat) (l : List Sec) (w : World) (hl : l.length ≤ 1000) (hA : OKV Sec.c 3 w A c l) :
    Calls Tryz.prog 40 #[.slice A l.length c] w (SliP Sec.c 3 l w) := by
  obtain ⟨i0, hi, hz0, hz1, hz2⟩ := info_parts info_sections
  have HI := Lib.hid hi
  have HZ0 := Lib.hid hz0
  have HZ1 := Lib.hid hz1
  have HZ2 := Lib.hid hz2
  have HA := Lib.hid hA
  clear hi hz0 hz1 hz2 hA
  go_enter Tryz.func40, Tryz.ntmps40
  go_wp2_with fail
  go_loopw [3, 8] (fun v i wr => ∃ j : Nat, j ≤ l.length ∧ i = .int .i64 j ∧ Hid (wr.ownsRow w.heap.size 131 3 v j ((l.take j).flatMap Sec.c)) ∧ Below w.heap.size w wr) (fun _ i _ => l.length - (intOf i).toNat)
  case atStart => exact ⟨0, Nat.zero_le _, rfl, World.ownsRow_nil _ _ _ _, Below.refl _ _⟩
  case round =>
    obtain ⟨j, hj, rfl, hown, hb⟩ := hrel
    by_cases hlt : j < l.length
    · have hki : (j : Int) < (l.length : Int) := by omega
      have hk0 : (0 : Int) ≤ (j : Int) := by omega
      have hbz := hb.size
      obtain ⟨b, off, hAe, hB, c0, c1, c2⟩ := atS (OKV.below HA.out hb).2.2.2 hlt
      subst hAe
      have HSN := Lib.hid (show (l.take (j + 1)).flatMap Sec.c = (l.take j).flatMap Sec.c ++ [.int .i64 l[j].m, .int .i64 l[j].n, .int .i64 l[j].d] by rw [List.take_succ_eq_append_getElem hlt, List.flatMap_append]; simp; rfl)
      generalize l[j].m = x0 at c0 HSN
      generalize l[j].n = x1 at c1 HSN
      generalize l[j].d = x2 at c2 HSN
      obtain ⟨w5, hw5, k5, hb5, hz5⟩ := boxS wr (.cells #[.int .i64 x0, .int .i64 x1, .int .i64 x2] 112)
      obtain ⟨d0, d1, d2, -, -, -⟩ := cel3 k5
      have hb5w := tw hb hb5
      have hown5 := Lib.hid (ownTo hown.out hb5)
      have hbz5 := hb5w.size
      go_wp2_with (at_builtin; refine wpList_append_own _ rfl _ _ 63 rfl w.heap.size 131 i0 (.agg #[.int .i64 0, .int .i64 0, .int .i64 0]) 3 24 Tryz.underlying63 HI.out HZ0.out HZ1.out HZ2.out rfl (by decide) _ _ _ rfl (hown5.out.alloc _) ⟨w5.heap.size, 0, none⟩ 1 1 [.int .i64 x0, .int .i64 x1, .int .i64 x2] rfl rfl (newsH _ _ _) ?c2 ?c3 ?c4 ?c5 ?_)
      case c2 => first | rfl | (intro u hu; simp at hu; rcases hu with rfl | rfl | rfl <;> rfl) | (intro u hu; simp at hu; rcases hu with rfl | rfl | rfl | rfl <;> rfl) | simp [Value.oneCell']
      case c3 => unfold maxLen; omega
      case c4 => omega
      case c5 => first | omega | (simp; omega)
      intro v' w6 hown6 hgrow6 _
      have hq6 : Below w.heap.size w w6 := (hb5w.alloc hbz5 (.cells #[.int .i64 x0, .int .i64 x1, .int .i64 x2] 131)).grown hgrow6 (by simp; omega) (baseOf hown5.out)
      have HO6 := Lib.hid (show w6.ownsRow w.heap.size 131 3 v' (j + 1) ((l.take (j + 1)).flatMap Sec.c) by rw [HSN.out]; exact hown6)
      clear hown6 hgrow6 hown hown5
      go_wp2
      go_roundw
      case rel => exact ⟨j + 1, by omega, by go_num, HO6, hq6⟩
      case measure => simp [intOf]; omega
    · obtain rfl : j = l.length := by omega
      have hki : ¬ (l.length : Int) < (l.length : Int) := by omega
      have ho := hown.out
      rw [List.take_length] at ho
      obtain ⟨a, cv, rfl, hok⟩ := OKV.ownN Sec.c3 ho rfl
      have HOK := Lib.hid hok
      clear hok hown ho
      go_wp2
      go_ret
      exact ⟨a, cv, rfl, HOK.out, hb⟩
theorem info_twines : (Tryz.prog.info? 132).map (fun i => (i.zero, i.size, i.bytes)) = some (some (.agg #[.string ByteArray.empty, .int .i64 0, .int .i64 0]), 3, 32) := by kernel_rfl
set_option maxHeartbeats 4000000 in
set_option maxRecDepth 100000 in
theorem law_twines (A : Option Addr) (c : Nat) (l : List Twn) (w : World) (hl : l.length ≤ 1000) (hA : OKV Twn.c 3 w A c l) :
    Calls Tryz.prog 51 #[.slice A l.length c] w (SliP Twn.c 3 l w) := by
  obtain ⟨i0, hi, hz0, hz1, hz2⟩ := info_parts info_twines
  have HI := Lib.hid hi
  have HZ0 := Lib.hid hz0
  have HZ1 := Lib.hid hz1
  have HZ2 := Lib.hid hz2
  have HA := Lib.hid hA
  clear hi hz0 hz1 hz2 hA
  go_enter Tryz.func51, Tryz.ntmps51
  go_wp2_with fail
  go_loopw [3, 8] (fun v i wr => ∃ j : Nat, j ≤ l.length ∧ i = .int .i64 j ∧ Hid (wr.ownsRow w.heap.size 132 3 v j ((l.take j).flatMap Twn.c)) ∧ Below w.heap.size w wr) (fun _ i _ => l.length - (intOf i).toNat)
  case atStart => exact ⟨0, Nat.zero_le _, rfl, World.ownsRow_nil _ _ _ _, Below.refl _ _⟩
  case round =>
    obtain ⟨j, hj, rfl, hown, hb⟩ := hrel
    by_cases hlt : j < l.length
    · have hki : (j : Int) < (l.length : Int) := by omega
      have hk0 : (0 : Int) ≤ (j : Int) := by omega
      have hbz := hb.size
      obtain ⟨b, off, hAe, hB, c0, c1, c2⟩ := atT (OKV.below HA.out hb).2.2.2 hlt
      subst hAe
      have HSN := Lib.hid (show (l.take (j + 1)).flatMap Twn.c = (l.take j).flatMap Twn.c ++ [.string l[j].s, .int .i64 l[j].x, .int .i64 l[j].h] by rw [List.take_succ_eq_append_getElem hlt, List.flatMap_append]; simp; rfl)
      generalize l[j].s = x0 at c0 HSN
      generalize l[j].x = x1 at c1 HSN
      generalize l[j].h = x2 at c2 HSN
      obtain ⟨w5, hw5, k5, hb5, hz5⟩ := boxS wr (.cells #[.string x0, .int .i64 x1, .int .i64 x2] 121)
      obtain ⟨d0, d1, d2, -, -, -⟩ := cel3 k5
      have hb5w := tw hb hb5
      have hown5 := Lib.hid (ownTo hown.out hb5)
      have hbz5 := hb5w.size
      go_wp2_with (at_builtin; refine wpList_append_own _ rfl _ _ 81 rfl w.heap.size 132 i0 (.agg #[.string ByteArray.empty, .int .i64 0, .int .i64 0]) 3 32 Tryz.underlying81 HI.out HZ0.out HZ1.out HZ2.out rfl (by decide) _ _ _ rfl (hown5.out.alloc _) ⟨w5.heap.size, 0, none⟩ 1 1 [.string x0, .int .i64 x1, .int .i64 x2] rfl rfl (newsH _ _ _) ?c2 ?c3 ?c4 ?c5 ?_)
      case c2 => first | rfl | (intro u hu; simp at hu; rcases hu with rfl | rfl | rfl <;> rfl) | (intro u hu; simp at hu; rcases hu with rfl | rfl | rfl | rfl <;> rfl) | simp [Value.oneCell']
      case c3 => unfold maxLen; omega
      case c4 => omega
      case c5 => first | omega | (simp; omega)
      intro v' w6 hown6 hgrow6 _
      have hq6 : Below w.heap.size w w6 := (hb5w.alloc hbz5 (.cells #[.string x0, .int .i64 x1, .int .i64 x2] 132)).grown hgrow6 (by simp; omega) (baseOf hown5.out)
      have HO6 := Lib.hid (show w6.ownsRow w.heap.size 132 3 v' (j + 1) ((l.take (j + 1)).flatMap Twn.c) by rw [HSN.out]; exact hown6)
      clear hown6 hgrow6 hown hown5
      go_wp2
      go_roundw
      case rel => exact ⟨j + 1, by omega, by go_num, HO6, hq6⟩
      case measure => simp [intOf]; omega
    · obtain rfl : j = l.length := by omega
      have hki : ¬ (l.length : Int) < (l.length : Int) := by omega
      have ho := hown.out
      rw [List.take_length] at ho
      obtain ⟨a, cv, rfl, hok⟩ := OKV.ownN Twn.c3 ho rfl
      have HOK := Lib.hid hok
      clear hok hown ho
      go_wp2
      go_ret
      exact ⟨a, cv, rfl, HOK.out, hb⟩
theorem info_lines : (Tryz.prog.info? 133).map (fun i => (i.zero, i.size, i.bytes)) = some (some (.agg #[.int .i64 0, .int .i64 0, .int .i64 0, .string ByteArray.empty]), 4, 40) := by kernel_rfl
set_option maxHeartbeats 4000000 in
set_option maxRecDepth 100000 in
theorem law_lines (A : Option Addr) (c : Nat) (l : List Lin) (w : World) (hl : l.length ≤ 1000) (hA : OKV Lin.c 4 w A c l) :
    Calls Tryz.prog 62 #[.slice A l.length c] w (SliP Lin.c 4 l w) := by
  obtain ⟨i0, hi, hz0, hz1, hz2⟩ := info_parts info_lines
  have HI := Lib.hid hi
  have HZ0 := Lib.hid hz0
  have HZ1 := Lib.hid hz1
  have HZ2 := Lib.hid hz2
  have HA := Lib.hid hA
  clear hi hz0 hz1 hz2 hA
  go_enter Tryz.func62, Tryz.ntmps62
  go_wp2_with fail
  go_loopw [3, 8] (fun v i wr => ∃ j : Nat, j ≤ l.length ∧ i = .int .i64 j ∧ Hid (wr.ownsRow w.heap.size 133 4 v j ((l.take j).flatMap Lin.c)) ∧ Below w.heap.size w wr) (fun _ i _ => l.length - (intOf i).toNat)
  case atStart => exact ⟨0, Nat.zero_le _, rfl, World.ownsRow_nil _ _ _ _, Below.refl _ _⟩
  case round =>
    obtain ⟨j, hj, rfl, hown, hb⟩ := hrel
    by_cases hlt : j < l.length
    · have hki : (j : Int) < (l.length : Int) := by omega
      have hk0 : (0 : Int) ≤ (j : Int) := by omega
      have hbz := hb.size
      obtain ⟨b, off, hAe, hB, c0, c1, c2, c3⟩ := atL (OKV.below HA.out hb).2.2.2 hlt
      subst hAe
      have HSN := Lib.hid (show (l.take (j + 1)).flatMap Lin.c = (l.take j).flatMap Lin.c ++ [.int .i64 l[j].b, .int .i64 l[j].k, .int .i64 l[j].r, .string l[j].s] by rw [List.take_succ_eq_append_getElem hlt, List.flatMap_append]; simp; rfl)
      generalize l[j].b = x0 at c0 HSN
      generalize l[j].k = x1 at c1 HSN
      generalize l[j].r = x2 at c2 HSN
      generalize l[j].s = x3 at c3 HSN
      obtain ⟨w5, hw5, k5, hb5, hz5⟩ := boxS wr (.cells #[.int .i64 x0, .int .i64 x1, .int .i64 x2, .string x3] 119)
      obtain ⟨d0, d1, d2, d3, -, -, -, -⟩ := cel4 k5
      have hb5w := tw hb hb5
      have hown5 := Lib.hid (ownTo hown.out hb5)
      have hbz5 := hb5w.size
      go_wp2_with (at_builtin; refine wpList_append_own _ rfl _ _ 99 rfl w.heap.size 133 i0 (.agg #[.int .i64 0, .int .i64 0, .int .i64 0, .string ByteArray.empty]) 4 40 Tryz.underlying99 HI.out HZ0.out HZ1.out HZ2.out rfl (by decide) _ _ _ rfl (hown5.out.alloc _) ⟨w5.heap.size, 0, none⟩ 1 1 [.int .i64 x0, .int .i64 x1, .int .i64 x2, .string x3] rfl rfl (newsH _ _ _) ?c2 ?c3 ?c4 ?c5 ?_)
      case c2 => first | rfl | (intro u hu; simp at hu; rcases hu with rfl | rfl | rfl <;> rfl) | (intro u hu; simp at hu; rcases hu with rfl | rfl | rfl | rfl <;> rfl) | simp [Value.oneCell']
      case c3 => unfold maxLen; omega
      case c4 => omega
      case c5 => first | omega | (simp; omega)
      intro v' w6 hown6 hgrow6 _
      have hq6 : Below w.heap.size w w6 := (hb5w.alloc hbz5 (.cells #[.int .i64 x0, .int .i64 x1, .int .i64 x2, .string x3] 133)).grown hgrow6 (by simp; omega) (baseOf hown5.out)
      have HO6 := Lib.hid (show w6.ownsRow w.heap.size 133 4 v' (j + 1) ((l.take (j + 1)).flatMap Lin.c) by rw [HSN.out]; exact hown6)
      clear hown6 hgrow6 hown hown5
      go_wp2
      go_roundw
      case rel => exact ⟨j + 1, by omega, by go_num, HO6, hq6⟩
      case measure => simp [intOf]; omega
    · obtain rfl : j = l.length := by omega
      have hki : ¬ (l.length : Int) < (l.length : Int) := by omega
      have ho := hown.out
      rw [List.take_length] at ho
      obtain ⟨a, cv, rfl, hok⟩ := OKV.ownN Lin.c4 ho rfl
      have HOK := Lib.hid hok
      clear hok hown ho
      go_wp2
      go_ret
      exact ⟨a, cv, rfl, HOK.out, hb⟩
end Go.Proofs.YtlkeejhaodedmaaGreatDoor

/- The law HangTwines. -/
namespace Go.Proofs.YtlkeejhaodedmaaGreatDoor
open Go.RowKit

set_option maxHeartbeats 1000000 in
theorem rfNearest0 (A : Option Addr) (c : Nat) (T : Int) (w : World) :
    Calls Tryz.prog 53 #[.slice A 0 c, .int .i64 T] w fun e w' => e = .returned (.tuple #[.int .i64 0, .int .i64 12]) ∧ Below w.heap.size w w' := by
  go_enter Tryz.func53, Tryz.ntmps53
  go_wp2_with fail
  go_ret2
  exact ⟨rfl, Below.refl _ _⟩
theorem twsX_zero {l : List Twn} (h : twsE l = 0) : l.length ≤ 32 ∧ ∀ t ∈ l, 1 ≤ t.x ∧ t.x ≤ 100000 ∧ 1 ≤ t.h ∧ t.h ≤ 100 := by
  unfold twsE at h
  split at h
  · omega
  · refine ⟨by omega, fun t ht => ?_⟩
    obtain ⟨i, hi, rfl⟩ := List.getElem_of_mem ht
    have h2 := lstE_zero twnE l [] h i hi
    rw [twnE] at h2
    obtain ⟨-, -, h3, h4⟩ := fst4_zero h2
    have := rngH_zero h3
    have := rngH_zero h4
    omega
theorem rfNear (A : Option Addr) (c : Nat) (l : List Twn) (T : Int) (w : World) (hl : l.length ≤ 1000) (hE : nrE0 l T = 0) (hA : OKV Twn.c 3 w A c l) :
    Calls Tryz.prog 53 #[.slice A l.length c, .int .i64 T] w fun e w' => e = .returned (.tuple #[.int .i64 (oz (nrE l T) (nrI l T : Nat)), .int .i64 (nrE l T)]) ∧ Below w.heap.size w w' := by
  obtain ⟨h1, h2⟩ := fst2_zero hE
  have b := rngH_zero h2
  rw [nrE, if_pos hE]
  by_cases hz : l.length = 0
  · rw [if_pos hz, ozE (by decide), hz]
    exact rfNearest0 A c T w
  · rw [if_neg hz, oz0]
    exact rfNearest A c l T w hl (by omega) ⟨by omega, b.2⟩ (fun t ht => by have := (twsX_zero h1).2 t ht; omega) hA
set_option maxHeartbeats 8000000 in
set_option maxRecDepth 100000 in
theorem lawHangTwines (A : Option Addr) (c : Nat) (l : List Twn) (T : Int) (w : World) (hT : Tab w) (hA : OKV Twn.c 3 w A c l) :
    Calls Tryz.prog 7 #[.slice A l.length c, .int .i64 T] w fun e w' => e = .returned (.bool true) ∧ Below w.heap.size w w' := by
  have HA := Lib.hid hA
  have HSH := fun w h => rfShortTwines A c l w h
  clear hA
  go_enter Tryz.func7, Tryz.ntmps7
  go_wp2_with fail
  refine (HSH _ HA.out).mono ?_
  rintro e w1 ⟨b, rfl, hb, rfl⟩
  cases b
  · go_wp2_with fail
    refine (awake6 _ hT).mono ?_
    rintro e w20 ⟨rfl, hb20⟩
    go_wp2
    go_ret
    exact ⟨rfl, hb20⟩
  · have hl : l.length ≤ 33 := hb rfl
    have HCV := fun w h => law_twines A c l w (by omega) h
    have HNR := fun A c w h => hgNearest A c l T w (by omega) h
    have HCT := fun w h => rfCheckTwines A c l w (by omega) h
    have HPT := fun A c w h => hgCheckTwines A c l w (by omega) h
    have HRN := Lib.hid (fun w hE h => rfNear A c l T w (by omega) hE h)
    have HE0 : Hid (fstE [twsE l, rngH T 1 100000] = nrE0 l T) := Lib.hid rfl
    have HNE := Lib.hid (show nrE0 l T ≠ 0 → nrE l T = nrE0 l T ∧ oz (nrE l T) (nrI l T : Nat) = 0 from fun h => by
      have e : nrE l T = nrE0 l T := by rw [nrE, if_neg h]
      exact ⟨e, by rw [e]; exact ozE h _⟩)
    generalize nrE0 l T = E0 at HRN HE0 HNE
    generalize oz (nrE l T) (nrI l T : Nat) = V at HNR HRN HNE
    generalize nrE l T = EN at HNR HRN HNE
    clear hb HSH
    go_wp2_with fail
    refine (HCV _ HA.out).mono ?_
    rintro e w2 ⟨a2, c2, rfl, h2, hb2⟩
    have H2 := Lib.hid h2
    clear h2
    go_wp2_with fail
    refine (HNR _ _ _ H2.out).mono ?_
    rintro e w3 ⟨rfl, hb3⟩
    have B := tw hb2 hb3
    clear hb2 hb3 H2
    go_wp2_with fail
    refine (HCT _ (OKV.below HA.out B)).mono ?_
    rintro e w4 ⟨rfl, hb4⟩
    replace B := tw B hb4
    clear hb4
    go_wp2_with fail
    refine (rfCheckRange _ _ _ _).mono ?_
    rintro e w5 ⟨rfl, rfl⟩
    go_wp2_with fail
    refine (rfFirst2 _ _ _ _ 3 _ (by exact newBlk _ _)).mono ?_
    rintro e w6 ⟨rfl, rfl⟩
    rw [HE0.out]
    obtain ⟨w7, hw7, hb7⟩ : ∃ w7, w4.alloc (.cells #[.int .i64 (twsE l), .int .i64 (rngH T 1 100000)] 3) = w7 ∧ Below w.heap.size w w7 := ⟨_, rfl, B.alloc B.size _⟩
    rw [hw7]
    clear hw7 B HE0
    go_upto_if 27 with fail
    go_cut [7, 8] (fun s t X => s = .int .i64 EN ∧ t = .int .i64 V ∧ Below w.heap.size w X)
    case first =>
      by_cases hE : E0 = 0
      · have hq : (E0 == 0) = true := by rw [hE]; rfl
        replace hE := Lib.hid hE
        go_wp2_with fail
        refine (HRN.out _ hE.out (OKV.below HA.out hb7)).mono ?_
        rintro e w8 ⟨rfl, hb8⟩
        go_wp2
        go_meet
        exact ⟨rfl, rfl, tw hb7 hb8⟩
      · have hq : (E0 == 0) = false := by rw [beq_eq_false_iff_ne]; exact hE
        have hz := Lib.hid (HNE.out hE)
        replace hE := Lib.hid hE
        go_wp2_with fail
        go_meet
        exact ⟨by rw [hz.out.1], by rw [hz.out.2], hb7⟩
    case rest =>
      obtain ⟨rfl, rfl, hb8⟩ := hcut
      obtain ⟨v5, rfl⟩ : ∃ V, V = wc := ⟨_, rfl⟩
      clear HNR HRN HNE hb7
      go_wp2_with fail
      refine (HCV _ (OKV.below HA.out hb8)).mono ?_
      rintro e w9 ⟨a9, c9, rfl, h9, hb9⟩
      have H9 := Lib.hid h9
      clear h9
      go_wp2_with fail
      refine (HPT _ _ _ H9.out).mono ?_
      rintro e w10 ⟨rfl, hb10⟩
      have B := tw (tw hb8 hb9) hb10
      clear hb8 hb9 hb10 H9
      go_wp2_with fail
      refine (HCT _ (OKV.below HA.out B)).mono ?_
      rintro e w11 ⟨rfl, hb11⟩
      replace B := tw B hb11
      clear hb11
      go_wp2_with fail
      refine (awake6 _ (hT.below B)).mono ?_
      rintro e w20 ⟨rfl, hb20⟩
      go_wp2
      go_ret
      exact ⟨rfl, tw B hb20⟩
end Go.Proofs.YtlkeejhaodedmaaGreatDoor

/- The law HangBills. -/
namespace Go.Proofs.YtlkeejhaodedmaaGreatDoor
open Go.RowKit

theorem fst3_1 (a b c : Int) : fstE [a, b, c] = if a = 0 then fstE [b, c] else a := by
  simp only [fstE]
theorem rfBill (At : Option Addr) (ct : Nat) (tb : List Twn) (A : Option Addr) (c : Nat) (l : List Lin) (a : Int) (w : World) (hz : bilE0 tb l a = 0) (hT : OKV Twn.c 3 w At ct tb) (hA : OKV Lin.c 4 w A c l) :
    Calls Tryz.prog 64 #[.slice At tb.length ct, .slice A l.length c, .int .i64 a] w (ListP Sm.c 3 (ozL (bilE tb l a) (bilL tb l a)) (bilE tb l a) w) := by
  obtain ⟨r1, r2, r3⟩ := fst3_zero hz
  obtain ⟨g1, g2⟩ := twsX_zero r1
  obtain ⟨g3, g4, -⟩ := lnsE_zero r2
  have g5 := rngH_zero r3
  obtain ⟨n, rfl⟩ : ∃ x : Nat, a = (x : Int) := ⟨a.toNat, by omega⟩
  have hE : (if (tb.map (smM (lenS n l))).any smB = true then 4 else 0) = bilE tb l (n : Int) := by rw [bilE, if_pos hz, bilL, Int.toNat_natCast]
  have h := rfBillN At ct tb A c l n w g1 g3 (by omega) g4 g2 hT hA _ hE
  rw [bilL, Int.toNat_natCast]
  exact h
/-- A list of sums, and nothing else has changed. -/
def SumsP (V : List Sm) (w : World) (t : Value) (X : World) : Prop := ∃ a c, t = .slice a V.length c ∧ OKV Sm.c 3 X a c V ∧ Below w.heap.size w X
theorem info_sum6b : (Tryz.prog.info? 107).map (fun i => (i.zero, i.size, i.bytes)) = some (some (.agg #[.int .i64 0, .int .i64 0, .int .i64 0]), 3, 24) := by kernel_rfl
set_option maxHeartbeats 8000000 in
set_option maxRecDepth 100000 in
theorem lawHangBills (At : Option Addr) (ct : Nat) (tb : List Twn) (A : Option Addr) (c : Nat) (l : List Lin) (a : Int) (w : World) (hT : Tab w) (hTb : OKV Twn.c 3 w At ct tb) (hA : OKV Lin.c 4 w A c l) :
    Calls Tryz.prog 9 #[.slice At tb.length ct, .slice A l.length c, .int .i64 a] w fun e w' => e = .returned (.bool true) ∧ Below w.heap.size w w' := by
  have HA := Lib.hid hA
  have HTB := Lib.hid hTb
  have HSH := fun w h => rfShortTwines At ct tb w h
  have HSL := fun w h => rfShortLines A c l w h
  clear hA hTb
  go_enter Tryz.func9, Tryz.ntmps9
  go_wp2_with fail
  refine (HSH _ HTB.out).mono ?_
  rintro e w1 ⟨b, rfl, hb, rfl⟩
  cases b
  · clear hb HSH HSL
    go_wp2_with fail
    refine (awake6 _ hT).mono ?_
    rintro e w20 ⟨rfl, hb20⟩
    go_wp2
    go_ret
    exact ⟨rfl, hb20⟩
  · have htl : tb.length ≤ 33 := hb rfl
    clear hb HSH
    go_wp2_with fail
    refine (HSL _ HA.out).mono ?_
    rintro e w1 ⟨b, rfl, hb, rfl⟩
    cases b
    · clear hb HSL
      go_wp2_with fail
      refine (awake6 _ hT).mono ?_
      rintro e w20 ⟨rfl, hb20⟩
      go_wp2
      go_ret
      exact ⟨rfl, hb20⟩
    · have hl : l.length ≤ 65 := hb rfl
      clear hb HSL
      have HCV := fun w h => law_twines At ct tb w (by omega) h
      have HCL := fun w h => law_lines A c l w (by omega) h
      have HBI := fun At ct A c w h h' => hgBill At ct tb A c l a w (by omega) (by omega) h h'
      have HCT := fun w h => rfCheckTwines At ct tb w (by omega) h
      have HCI := fun w h h' => rfCheckLines At ct tb A c l w (by omega) (by omega) h h'
      have HRN := Lib.hid (fun w hE h h' => rfBill At ct tb A c l a w hE h h')
      have HE0 := Lib.hid (show bilE0 tb l a = if twsE tb = 0 then fstE [lnsE tb l, rngH a 0 100] else twsE tb from fst3_1 _ _ _)
      have HNE := Lib.hid (show bilE0 tb l a ≠ 0 → bilE tb l a = bilE0 tb l a ∧ ozL (bilE tb l a) (bilL tb l a) = [] from fun h => by
        have e : bilE tb l a = bilE0 tb l a := by rw [bilE, if_neg h]
        exact ⟨e, by rw [e]; exact ozLE h _⟩)
      have HLN := Lib.hid (show (ozL (bilE tb l a) (bilL tb l a)).length ≤ 100000 by
        unfold ozL bilL
        split
        · rw [List.length_map]; omega
        · simp)
      generalize bilE0 tb l a = E0 at HRN HE0 HNE
      generalize ozL (bilE tb l a) (bilL tb l a) = V at HBI HRN HNE HLN
      generalize bilE tb l a = EN at HBI HRN HNE
      go_wp2_with fail
      refine (HCV _ HTB.out).mono ?_
      rintro e w2 ⟨a2, c2, rfl, h2, hb2⟩
      have H2 := Lib.hid h2
      clear h2
      go_wp2_with fail
      refine (HCL _ (OKV.below HA.out hb2)).mono ?_
      rintro e w3 ⟨a3, c3, rfl, h3, hb3⟩
      have H3 := Lib.hid h3
      replace H2 := Lib.hid (OKV.below H2.out hb3)
      clear h3
      go_wp2_with fail
      refine (HBI _ _ _ _ _ H2.out H3.out).mono ?_
      rintro e w4 ⟨a4, c4, rfl, h4, hb4⟩
      have B := tw (tw hb2 hb3) hb4
      have H4 := Lib.hid h4
      clear hb2 hb3 hb4 H2 H3 h4 HBI HCV HCL
      go_wp2_with fail
      refine (HCT _ (OKV.below HTB.out B)).mono ?_
      rintro e w5 ⟨rfl, hb5⟩
      replace H4 := Lib.hid (OKV.below H4.out hb5)
      replace B := tw B hb5
      clear hb5 HCT
      obtain ⟨T0, hT0⟩ : ∃ x, twsE tb = x := ⟨_, rfl⟩
      rw [hT0] at HE0 ⊢
      clear hT0
      go_upto_if 35 with fail
      go_cut [9] (fun s X => s = .int .i64 E0 ∧ Below w5.heap.size w5 X)
      case first =>
        by_cases hE : T0 = 0
        · have hq : (T0 == 0) = true := by rw [hE]; rfl
          have HE1 := Lib.hid (show E0 = fstE [lnsE tb l, rngH a 0 100] by rw [HE0.out, if_pos hE])
          replace hE := Lib.hid hE
          go_wp2_with fail
          refine (HCI _ (OKV.below HTB.out B) (OKV.below HA.out B)).mono ?_
          rintro e w6 ⟨rfl, hb6⟩
          go_wp2_with fail
          refine (rfCheckRange _ _ _ _).mono ?_
          rintro e w7 ⟨rfl, rfl⟩
          go_wp2_with fail
          refine (rfFirst2 _ _ _ _ 3 _ (by exact newBlk _ _)).mono ?_
          rintro e w7 ⟨rfl, rfl⟩
          rw [← HE1.out]
          go_wp2_with fail
          go_meet
          exact ⟨rfl, hb6.alloc hb6.size _⟩
        · have hq : (T0 == 0) = false := by rw [beq_eq_false_iff_ne]; exact hE
          have HE1 := Lib.hid (show E0 = T0 by rw [HE0.out, if_neg hE])
          replace hE := Lib.hid hE
          go_wp2_with fail
          go_meet
          exact ⟨by rw [HE1.out], Below.refl _ _⟩
      case rest =>
        obtain ⟨rfl, hb8⟩ := hcut
        obtain ⟨v5, rfl⟩ : ∃ V, V = wc := ⟨_, rfl⟩
        replace H4 := Lib.hid (OKV.below H4.out hb8)
        replace B := tw B hb8
        clear hb8 HE0 HCI
        go_upto_if 44 with fail
        go_cut [9, 10] (fun s t X => s = .int .i64 EN ∧ SumsP V v5 t X)
        case first =>
          by_cases hE : E0 = 0
          · have hq : (E0 == 0) = true := by rw [hE]; rfl
            replace hE := Lib.hid hE
            go_wp2_with fail
            refine (HRN.out _ hE.out (OKV.below HTB.out B) (OKV.below HA.out B)).mono ?_
            rintro e w6 ⟨a6, c6, rfl, h6, hb6⟩
            have H6 := Lib.hid h6
            clear h6
            go_wp2
            go_meet
            exact ⟨rfl, a6, c6, rfl, H6.out, hb6⟩
          · have hq : (E0 == 0) = false := by rw [beq_eq_false_iff_ne]; exact hE
            have hz := Lib.hid (HNE.out hE)
            replace hE := Lib.hid hE
            go_wp2_with fail
            go_meet
            exact ⟨by rw [hz.out.1], none, 0, by rw [hz.out.2]; rfl, by rw [hz.out.2]; exact OKV.none _ _ _, Below.refl _ _⟩
        case rest =>
          obtain ⟨rfl, a9, c9, rfl, h9, hb9⟩ := hcut
          obtain ⟨v6, rfl⟩ : ∃ V, V = wc := ⟨_, rfl⟩
          have H9 := Lib.hid h9
          replace H4 := Lib.hid (OKV.below H4.out hb9)
          replace B := tw B hb9
          clear hb9 HRN HNE h9
          obtain ⟨i0, hi, hz0, hz1, hz2⟩ := info_parts info_sum6b
          have HI := Lib.hid hi
          have HZ0 := Lib.hid hz0
          have HZ1 := Lib.hid hz1
          have HZ2 := Lib.hid hz2
          clear hi hz0 hz1 hz2
          have hln := HLN.out
          go_wp2_with fail
          go_loopw [11, 54] (fun v i wr => ∃ j : Nat, j ≤ V.length ∧ i = .int .i64 j ∧ Hid (wr.ownsRow v6.heap.size 107 3 v j ((V.take j).flatMap Sm.c)) ∧ Below v6.heap.size v6 wr) (fun _ i _ => V.length - (intOf i).toNat)
          case atStart => exact ⟨0, Nat.zero_le _, rfl, World.ownsRow_nil _ _ _ _, Below.refl _ _⟩
          case round =>
            obtain ⟨j, hj, rfl, hown, hb⟩ := hrel
            by_cases hlt : j < V.length
            · have hki : (j : Int) < (V.length : Int) := by omega
              have hk0 : (0 : Int) ≤ (j : Int) := by omega
              have hbz := hb.size
              obtain ⟨b, off, hAe, hB, c0, c1, c2⟩ := atM (OKV.below H4.out hb).2.2.2 hlt
              subst hAe
              have HSN := Lib.hid (show (V.take (j + 1)).flatMap Sm.c = (V.take j).flatMap Sm.c ++ [.int .i64 V[j].l, .int .i64 V[j].w, .int .i64 V[j].a] by rw [List.take_succ_eq_append_getElem hlt, List.flatMap_append]; simp; rfl)
              generalize V[j].l = x0 at c0 HSN
              generalize V[j].w = x1 at c1 HSN
              generalize V[j].a = x2 at c2 HSN
              obtain ⟨w5', hw5, k5, hb5, hz5⟩ := boxS wr (.cells #[.int .i64 x0, .int .i64 x1, .int .i64 x2] 106)
              obtain ⟨d0, d1, d2, -, -, -⟩ := cel3 k5
              have hb5w := tw hb hb5
              have hown5 := Lib.hid (ownTo hown.out hb5)
              have hbz5 := hb5w.size
              go_wp2_with (at_builtin; refine wpList_append_own _ rfl _ _ 102 rfl v6.heap.size 107 i0 (.agg #[.int .i64 0, .int .i64 0, .int .i64 0]) 3 24 Tryz.underlying102 HI.out HZ0.out HZ1.out HZ2.out rfl (by decide) _ _ _ rfl (hown5.out.alloc _) ⟨w5'.heap.size, 0, none⟩ 1 1 [.int .i64 x0, .int .i64 x1, .int .i64 x2] rfl rfl (newsH _ _ _) ?c2 ?c3 ?c4 ?c5 ?_)
              case c2 => first | rfl | (intro u hu; simp at hu; rcases hu with rfl | rfl | rfl <;> rfl) | simp [Value.oneCell']
              case c3 => unfold maxLen; omega
              case c4 => omega
              case c5 => first | omega | (simp; omega)
              intro v' w6' hown6 hgrow6 _
              have hq6 : Below v6.heap.size v6 w6' := (hb5w.alloc hbz5 (.cells #[.int .i64 x0, .int .i64 x1, .int .i64 x2] 107)).grown hgrow6 (by simp; omega) (baseOf hown5.out)
              have HO6 := Lib.hid (show w6'.ownsRow v6.heap.size 107 3 v' (j + 1) ((V.take (j + 1)).flatMap Sm.c) by rw [HSN.out]; exact hown6)
              clear hown6 hgrow6 hown hown5
              go_wp2
              go_roundw
              case rel => exact ⟨j + 1, by omega, by go_num, HO6, hq6⟩
              case measure => simp [intOf]; omega
            · obtain rfl : j = V.length := by omega
              have hki : ¬ (V.length : Int) < (V.length : Int) := by omega
              have ho := hown.out
              rw [List.take_length] at ho
              obtain ⟨av, cv, rfl, hok⟩ := OKV.ownN Sm.c3 ho rfl
              have HOK := Lib.hid hok
              replace H9 := Lib.hid (OKV.below H9.out hb)
              replace B := tw B hb
              clear hok hown ho hb H4
              go_wp2_with fail
              refine (rfSameSums av a9 cv c9 V.length V.length V _ rfl rfl hln HOK.out.2.2.2 H9.out.2.2.2).mono ?_
              rintro e w10 ⟨rfl, hb10⟩
              go_wp2_with fail
              refine (awake6 _ (hT.below (tw B hb10))).mono ?_
              rintro e w20 ⟨rfl, hb20⟩
              go_wp2
              go_ret
              exact ⟨rfl, tw (tw B hb10) hb20⟩
end Go.Proofs.YtlkeejhaodedmaaGreatDoor

/- Sums of lines: what the law HangSums asks, plain mathematics. -/
namespace Go.Proofs.YtlkeejhaodedmaaGreatDoor
open Go.RowKit

def sumN (a : Nat) : List Lin → ByteArray → Nat
  | [], _ => 0
  | x :: r, s => (if nmE x.s s = true then lnN a x else 0) + sumN a r s
theorem sumN_app (a : Nat) (l m : List Lin) (s : ByteArray) : sumN a (l ++ m) s = sumN a l s + sumN a m s := by
  induction l with
  | nil => simp [sumN]
  | cons x r ih => simp only [List.cons_append, sumN, ih]; omega
theorem sumN_rev (a : Nat) (l : List Lin) (s : ByteArray) : sumN a l.reverse s = sumN a l s := by
  induction l with
  | nil => rfl
  | cons x r ih => rw [List.reverse_cons, sumN_app, ih]; simp only [sumN]; omega
theorem mget_sum (a : Nat) (l : List Lin) (s : ByteArray) : mget (lenS a l) s = (sumN a l s : Nat) := by
  have key : ∀ k, k ≤ l.length → mget (lenS a (l.take k)) s = (sumN a (l.take k) s : Nat) := by
    intro k
    induction k with
    | zero => intro _; simp [lenS, mget, sumN]
    | succ k ih =>
      intro hk
      rw [mget_step a l (by omega) s, ih (by omega), List.take_succ_eq_append_getElem (by omega), sumN_app]
      simp only [sumN]
      split <;> push_cast <;> omega
  have h := key l.length (Nat.le_refl _)
  rw [List.take_length] at h
  exact h
/-- The sums of one twine. -/
def smL (a : Nat) (l : List Lin) (t : Twn) : Sm := smOf t (sumN a l t.s)
theorem bil_eq (tb : List Twn) (l : List Lin) (a : Nat) : bilL tb l (a : Int) = tb.map (smL a l) := by
  rw [bilL, Int.toNat_natCast]
  congr 1
  funext t
  rw [smM, mget_sum, Int.toNat_natCast, smL]
theorem lst_all {α : Type} (f : α → Int) : ∀ (r bf : List α), (∀ x ∈ r, f x = 0) → lstE (fun _ x => f x) bf r = 0
  | [], _, _ => rfl
  | x :: r, bf, h => by rw [lstE, if_pos (h x (by simp))]; exact lst_all f r _ fun y hy => h y (by simp [hy])
theorem lns_iff (tb : List Twn) (l : List Lin) : lnsE tb l = 0 ↔ l.length ≤ 64 ∧ ∀ x ∈ l, linE tb x = 0 := by
  unfold lnsE
  constructor
  · intro h
    split at h
    · omega
    · refine ⟨by omega, fun x hx => ?_⟩
      obtain ⟨i, hi, rfl⟩ := List.getElem_of_mem hx
      exact lstE_zero _ l [] h i hi
  · rintro ⟨h1, h2⟩
    rw [if_neg (by omega)]
    exact lst_all _ l [] h2
theorem nmE_symm (a b : ByteArray) : nmE a b = nmE b a := by
  rw [Bool.eq_iff_iff, nmE_iff, nmE_iff]
  exact ⟨Eq.symm, Eq.symm⟩
theorem lst_twn : ∀ (r bf : List Twn), lstE twnE bf r = 0 ↔ (∀ x ∈ r, namE x.s = 0 ∧ rngH x.x 1 100000 = 0 ∧ rngH x.h 1 100 = 0 ∧ bf.any (nmN x.s) = false) ∧ r.Pairwise (fun x y => nmE x.s y.s = false)
  | [], bf => by simp [lstE]
  | x :: r, bf => by
    have ih := lst_twn r (bf ++ [x])
    rw [lstE, List.pairwise_cons]
    have hx : twnE bf x = 0 ↔ namE x.s = 0 ∧ rngH x.x 1 100000 = 0 ∧ rngH x.h 1 100 = 0 ∧ bf.any (nmN x.s) = false := by
      unfold twnE
      constructor
      · intro h
        obtain ⟨h1, h2, h3, h4⟩ := fst4_zero h
        refine ⟨h1, h3, h4, ?_⟩
        unfold newE at h2
        cases hq : bf.any (nmN x.s) with
        | false => rfl
        | true => rw [if_pos hq] at h2; cases h2
      · rintro ⟨h1, h2, h3, h4⟩
        have h5 : newE bf x = 0 := by unfold newE; rw [h4]; rfl
        rw [h1, h2, h3, h5]
        rfl
    constructor
    · intro h
      split at h
      · rename_i h0
        obtain ⟨i1, i2⟩ := ih.1 h
        refine ⟨?_, ?_, i2⟩
        · intro y hy
          rcases List.mem_cons.1 hy with rfl | hy
          · exact hx.1 h0
          · obtain ⟨j1, j2, j3, j4⟩ := i1 y hy
            rw [List.any_append, Bool.or_eq_false_iff] at j4
            exact ⟨j1, j2, j3, j4.1⟩
        · intro y hy
          have j4 := (i1 y hy).2.2.2
          rw [List.any_append, Bool.or_eq_false_iff] at j4
          simpa [nmN] using j4.2
      · rename_i h0
        exact absurd h h0
    · rintro ⟨h1, h2, h3⟩
      rw [if_pos (hx.2 (h1 x (by simp)))]
      refine ih.2 ⟨fun y hy => ?_, h3⟩
      obtain ⟨j1, j2, j3, j4⟩ := h1 y (by simp [hy])
      refine ⟨j1, j2, j3, ?_⟩
      rw [List.any_append, j4, Bool.false_or]
      simpa [nmN] using h2 y hy
theorem tws_rev {tb : List Twn} (h : twsE tb = 0) : twsE tb.reverse = 0 := by
  unfold twsE at h ⊢
  rw [List.length_reverse]
  split at h
  · omega
  · rw [if_neg (by assumption)]
    obtain ⟨h1, h2⟩ := (lst_twn tb []).1 h
    refine (lst_twn _ []).2 ⟨fun x hx => h1 x (List.mem_reverse.1 hx), ?_⟩
    rw [List.pairwise_reverse]
    exact h2.imp fun {x y} hxy => by rw [nmE_symm]; exact hxy
theorem lin_rev (tb : List Twn) (x : Lin) : linE tb.reverse x = linE tb x := by
  unfold linE knwE
  rw [List.any_reverse]
theorem smB_mono {t : Twn} {m n : Nat} (hh : 0 ≤ t.h) (h : m ≤ n) (hb : smB (smOf t n) = false) : smB (smOf t m) = false := by
  unfold smB smOf at hb ⊢
  have h2 := of_decide_eq_false hb
  simp only at h2
  refine decide_eq_false ?_
  simp only
  have e1 : weiN m t.x.toNat ≤ weiN n t.x.toNat := by unfold weiN; exact Nat.div_le_div_right (Nat.mul_le_mul h (Nat.le_refl _))
  have e2 : (m : Int) * t.h ≤ (n : Int) * t.h := Int.mul_le_mul_of_nonneg_right (by omega) hh
  omega
/-- A bill without an error. -/
structure Bil (tb : List Twn) (l : List Lin) (a : Nat) : Prop where
  tw : twsE tb = 0
  ln : lnsE tb l = 0
  al : a ≤ 100
  sm : ∀ t ∈ tb, smB (smL a l t) = false
theorem Bil.ok {tb : List Twn} {l : List Lin} {a : Nat} (h : Bil tb l a) : bilE tb l (a : Int) = 0 := by
  have h0 : bilE0 tb l (a : Int) = 0 := by
    unfold bilE0
    rw [h.tw, h.ln]
    have : rngH (a : Int) 0 100 = 0 := by
      have := h.al
      unfold rngH
      split
      · omega
      · rfl
    rw [this]
    rfl
  rw [bilE, if_pos h0, if_neg]
  intro hany
  obtain ⟨x, hx, hq⟩ := List.any_eq_true.1 hany
  rw [bil_eq] at hx
  obtain ⟨t, ht, rfl⟩ := List.mem_map.1 hx
  rw [h.sm t ht] at hq
  cases hq
theorem Bil.of {tb : List Twn} {l : List Lin} {a : Nat} (h1 : twsE tb = 0) (h2 : lnsE tb l = 0) (ha : a ≤ 100) (h : bilE tb l (a : Int) = 0) : Bil tb l a := by
  refine ⟨h1, h2, ha, fun t ht => ?_⟩
  have h0 : bilE0 tb l (a : Int) = 0 := by
    unfold bilE0
    rw [h1, h2]
    have : rngH (a : Int) 0 100 = 0 := by
      unfold rngH
      split
      · omega
      · rfl
    rw [this]
    rfl
  rw [bilE, if_pos h0] at h
  cases hq : smB (smL a l t) with
  | false => rfl
  | true =>
    rw [if_pos (List.any_eq_true.2 ⟨_, by rw [bil_eq]; exact List.mem_map.2 ⟨t, ht, rfl⟩, hq⟩)] at h
    cases h
theorem Bil.rev {tb : List Twn} {l : List Lin} {a : Nat} (h : Bil tb l a) : Bil tb l.reverse a := by
  refine ⟨h.tw, ?_, h.al, fun t ht => ?_⟩
  · obtain ⟨h1, h2⟩ := (lns_iff tb l).1 h.ln
    exact (lns_iff tb _).2 ⟨by rw [List.length_reverse]; exact h1, fun x hx => h2 x (List.mem_reverse.1 hx)⟩
  · rw [smL, sumN_rev]
    exact h.sm t ht
theorem Bil.tab {tb : List Twn} {l : List Lin} {a : Nat} (h : Bil tb l a) : Bil tb.reverse l a := by
  refine ⟨tws_rev h.tw, ?_, h.al, fun t ht => h.sm t (List.mem_reverse.1 ht)⟩
  obtain ⟨h1, h2⟩ := (lns_iff tb l).1 h.ln
  exact (lns_iff _ l).2 ⟨h1, fun x hx => by rw [lin_rev]; exact h2 x hx⟩
theorem Bil.part {tb : List Twn} {l m r : List Lin} {a : Nat} (h : Bil tb l a) (e : l = m ++ r) : Bil tb m a ∧ Bil tb r a := by
  obtain ⟨h1, h2⟩ := (lns_iff tb l).1 h.ln
  subst e
  rw [List.length_append] at h1
  have hh : ∀ t ∈ tb, 0 ≤ t.h := fun t ht => by have := (twsX_zero h.tw).2 t ht; omega
  refine ⟨⟨h.tw, (lns_iff tb m).2 ⟨by omega, fun x hx => h2 x (List.mem_append_left _ hx)⟩, h.al, fun t ht => ?_⟩, ⟨h.tw, (lns_iff tb r).2 ⟨by omega, fun x hx => h2 x (List.mem_append_right _ hx)⟩, h.al, fun t ht => ?_⟩⟩
  · have hs := h.sm t ht
    unfold smL at hs ⊢
    rw [sumN_app] at hs
    exact smB_mono (hh t ht) (Nat.le_add_right _ _) hs
  · have hs := h.sm t ht
    unfold smL at hs ⊢
    rw [sumN_app] at hs
    exact smB_mono (hh t ht) (Nat.le_add_left _ _) hs
/-- A bill without an error, as the program makes it. -/
theorem bilN (At : Option Addr) (ct nt : Nat) (tb : List Twn) (A : Option Addr) (c n : Nat) (l : List Lin) (a : Nat) (w : World) (h : Bil tb l a) (hnt : tb.length = nt) (hn : l.length = n) (hT : OKV Twn.c 3 w At ct tb) (hA : OKV Lin.c 4 w A c l) :
    Calls Tryz.prog 61 #[.slice At nt ct, .slice A n c, .int .i64 a] w fun e w' => ∃ b c', e = .returned (.tuple #[.slice b nt c', .int .i64 0]) ∧ OKV Sm.c 3 w' b c' (tb.map (smL a l)) ∧ Below w.heap.size w w' := by
  subst hnt hn
  have h1 := (twsX_zero h.tw).1
  have h2 := ((lns_iff tb l).1 h.ln).1
  have hb := hgBill At ct tb A c l (a : Int) w (by omega) (by omega) hT hA
  rw [h.ok, ozL0, bil_eq] at hb
  refine hb.mono ?_
  rintro e w' ⟨b, c', he, ho, hw⟩
  rw [List.length_map] at he
  exact ⟨b, c', he, ho, hw⟩
theorem lnB {tb : List Twn} {l : List Lin} {a : Nat} (h : lnsE tb l = 0) (ha : a ≤ 100) {x : Lin} (hx : x ∈ l) : lnN a x ≤ 20000000 := by
  have h2 := ((lns_iff tb l).1 h).2 x hx
  obtain ⟨r1, r2, r3, -⟩ := fst4_zero h2
  have g1 := rngH_zero r1
  have g2 := rngH_zero r2
  have g3 := rngH_zero r3
  have b1 : x.b.toNat * x.r.toNat ≤ 100000 * 100 := Nat.mul_le_mul (by omega) (by omega)
  have b2 : x.k.toNat * a ≤ 100000 * 100 := Nat.mul_le_mul (by omega) ha
  unfold lnN lenN
  omega
theorem lnE0 {tb : List Twn} {l : List Lin} {a : Nat} (h : lnsE tb l = 0) (ha : a ≤ 100) {x : Lin} (hx : x ∈ l) : lenE x.b x.k x.r (a : Int) = 0 := by
  have h2 := ((lns_iff tb l).1 h).2 x hx
  obtain ⟨r1, r2, r3, -⟩ := fst4_zero h2
  unfold lenE
  rw [r1, r2, r3]
  have : rngH (a : Int) 0 100 = 0 := by
    unfold rngH
    split
    · omega
    · rfl
  rw [this]
  rfl
theorem sumB {a : Nat} {l : List Lin} {t : Twn} (h : smB (smL a l t) = false) : sumN a l t.s ≤ 999999999 := by
  unfold smB smL smOf at h
  have := of_decide_eq_false h
  simp only at this
  omega
theorem weiB {tb : List Twn} (hw : twsE tb = 0) {a : Nat} {l : List Lin} {t : Twn} (ht : t ∈ tb) (h : smB (smL a l t) = false) : weiE (sumN a l t.s : Nat) t.x = 0 ∧ (sumN a l t.s : Int) * t.h ≤ 999999999 := by
  have h1 := sumB h
  have h2 := (twsX_zero hw).2 t ht
  unfold smB smL smOf at h
  have := of_decide_eq_false h
  simp only at this
  have h0 : weiE0 (sumN a l t.s : Nat) t.x = 0 := by
    unfold weiE0
    have e1 : rngH ((sumN a l t.s : Nat) : Int) 0 999999999 = 0 := by
      unfold rngH
      split
      · omega
      · rfl
    have e2 : rngH t.x 1 100000 = 0 := by
      unfold rngH
      split
      · omega
      · rfl
    rw [e1, e2]
    rfl
  refine ⟨?_, by omega⟩
  rw [weiE, if_pos h0, if_neg]
  rw [Int.toNat_natCast]
  omega
theorem sumT0 {l : List Lin} {a B : Nat} (h : ∀ x ∈ l, lnN a x ≤ B) (s : ByteArray) : ∀ m, m ≤ l.length → sumN a (l.take m) s ≤ m * B := by
  intro m
  induction m with
  | zero => intro _; simp [sumN]
  | succ m ih =>
    intro hm
    rw [List.take_succ_eq_append_getElem (by omega), sumN_app, Nat.succ_mul]
    have h1 := ih (by omega)
    have h2 := h l[m] (List.getElem_mem (show m < l.length by omega))
    generalize m * B = MB at h1 ⊢
    simp only [sumN]
    split <;> omega
theorem sumT {tb : List Twn} {l : List Lin} {a : Nat} (h : lnsE tb l = 0) (ha : a ≤ 100) (s : ByteArray) (m : Nat) (hm : m ≤ l.length) : sumN a (l.take m) s ≤ m * 20000000 :=
  sumT0 (fun _ hx => lnB h ha hx) s m hm
theorem smAt {W : World} {A : Option Addr} {c : Nat} {tb : List Twn} {f : Twn → Sm} (h : OKV Sm.c 3 W A c (tb.map f)) {i : Nat} (hi : i < tb.length) {T : Twn} (hT : tb[i] = T) : ∃ b off, A = some ⟨b, off, none⟩ ∧ W.cell? ⟨b, off + i * 3, none⟩ = some (.int .i64 (f T).l) ∧ W.cell? ⟨b, off + i * 3 + 1, none⟩ = some (.int .i64 (f T).w) ∧ W.cell? ⟨b, off + i * 3 + 2, none⟩ = some (.int .i64 (f T).a) := by
  obtain ⟨b, off, rfl, -, p0, p1, p2⟩ := atM h.2.2.2 (show i < (tb.map f).length by rw [List.length_map]; exact hi)
  rw [List.getElem_map, hT] at p0 p1 p2
  exact ⟨b, off, rfl, p0, p1, p2⟩
theorem cells5 {tb : List Twn} {l l1 l2 : List Lin} {a : Nat} {a9 a17 a19 a21 a23 : Option Addr} {c9 c17 c19 c21 c23 : Nat} {W : World}
    (h9 : OKV Sm.c 3 W a9 c9 (tb.map (smL a l))) (h17 : OKV Sm.c 3 W a17 c17 (tb.map (smL a l))) (h19 : OKV Sm.c 3 W a19 c19 (tb.reverse.map (smL a l)))
    (h21 : OKV Sm.c 3 W a21 c21 (tb.map (smL a l1))) (h23 : OKV Sm.c 3 W a23 c23 (tb.map (smL a l2))) {j : Nat} (hj : j < tb.length)
    {ts : ByteArray} {tx th : Int} (e1 : tb[j].s = ts) (e2 : tb[j].x = tx) (e3 : tb[j].h = th) :
    ∃ b9 o9 b17 o17 b19 o19 b21 o21 b23 o23, a9 = some ⟨b9, o9, none⟩ ∧ a17 = some ⟨b17, o17, none⟩ ∧ a19 = some ⟨b19, o19, none⟩ ∧ a21 = some ⟨b21, o21, none⟩ ∧ a23 = some ⟨b23, o23, none⟩ ∧
      W.cell? ⟨b9, o9 + j * 3, none⟩ = some (.int .i64 (sumN a l ts : Nat)) ∧ W.cell? ⟨b9, o9 + j * 3 + 1, none⟩ = some (.int .i64 (weiN (sumN a l ts) tx.toNat : Nat)) ∧ W.cell? ⟨b9, o9 + j * 3 + 2, none⟩ = some (.int .i64 ((sumN a l ts : Nat) * th)) ∧
      W.cell? ⟨b17, o17 + j * 3, none⟩ = some (.int .i64 (sumN a l ts : Nat)) ∧ W.cell? ⟨b17, o17 + j * 3 + 1, none⟩ = some (.int .i64 (weiN (sumN a l ts) tx.toNat : Nat)) ∧ W.cell? ⟨b17, o17 + j * 3 + 2, none⟩ = some (.int .i64 ((sumN a l ts : Nat) * th)) ∧
      W.cell? ⟨b19, o19 + (tb.length - 1 - j) * 3, none⟩ = some (.int .i64 (sumN a l ts : Nat)) ∧ W.cell? ⟨b19, o19 + (tb.length - 1 - j) * 3 + 1, none⟩ = some (.int .i64 (weiN (sumN a l ts) tx.toNat : Nat)) ∧ W.cell? ⟨b19, o19 + (tb.length - 1 - j) * 3 + 2, none⟩ = some (.int .i64 ((sumN a l ts : Nat) * th)) ∧
      W.cell? ⟨b21, o21 + j * 3, none⟩ = some (.int .i64 (sumN a l1 ts : Nat)) ∧ W.cell? ⟨b23, o23 + j * 3, none⟩ = some (.int .i64 (sumN a l2 ts : Nat)) := by
  subst e1 e2 e3
  obtain ⟨b9, o9, rfl, p0, p1, p2⟩ := smAt h9 hj rfl
  obtain ⟨b17, o17, rfl, q0, q1, q2⟩ := smAt h17 hj rfl
  obtain ⟨b21, o21, rfl, r0, -, -⟩ := smAt h21 hj rfl
  obtain ⟨b23, o23, rfl, s0, -, -⟩ := smAt h23 hj rfl
  have hjr : tb.length - 1 - j < tb.reverse.length := by rw [List.length_reverse]; omega
  obtain ⟨b19, o19, rfl, u0, u1, u2⟩ := smAt h19 hjr (T := tb[j]) (by rw [List.getElem_reverse]; congr 1; omega)
  exact ⟨b9, o9, b17, o17, b19, o19, b21, o21, b23, o23, rfl, rfl, rfl, rfl, rfl, p0, p1, p2, q0, q1, q2, u0, u1, u2, r0, s0⟩
theorem eqSumH (a b c : Int) (w : World) : (Op.equalIn 10000 106 (.agg #[.int .i64 a, .int .i64 b, .int .i64 c]) (.agg #[.int .i64 a, .int .i64 b, .int .i64 c])).run Tryz.prog w = .ok true w := by
  have u3 := Tryz.underlying3
  have a3 := Tryz.isAgg3
  have z3 := Tryz.sizeOf3
  have hS : Tryz.prog.underlying 106 = some (.struct (Tryz.prog.fieldsOf 106)) := by kernel_rfl
  have hp : Tryz.prog.stoodInHeld 106 = false := by kernel_rfl
  rw [show (10000 : Nat) = 9999 + 1 from rfl, run_equalIn_struct w 9999 106 _ _ hS hp]
  simp only [Program.fieldsOf, Tryz.underlying106]
  go_simp
end Go.Proofs.YtlkeejhaodedmaaGreatDoor

/- The reference's ratios and squares. -/
namespace Go.Proofs.YtlkeejhaodedmaaGreatDoor
open Go.RowKit

set_option maxHeartbeats 1000000 in
theorem rfDivisor (b : Nat) : ∀ (a : Nat) (w : World), a ≤ 9000000000000000000 → b ≤ 9000000000000000000 →
    Calls Tryz.prog 66 #[.int .i64 a, .int .i64 b] w fun e w' => e = .returned (.int .i64 (a.gcd b : Nat)) ∧ Below w.heap.size w w' := by
  induction b using Nat.strongRecOn with
  | _ b ih =>
    intro a w ha hb
    by_cases hz : b = 0
    · subst hz
      rw [Nat.gcd_zero_right]
      clear ih
      go_enter Tryz.func66, Tryz.ntmps66
      go_wp2
      go_ret
      exact ⟨rfl, Below.refl _ _⟩
    · have hz0 : ((b : Int) == 0) = false := by rw [beq_eq_false_iff_ne]; omega
      have hz1 : ¬ (b : Int) = 0 := by omega
      have hm := modN a b
      have hlt : a % b < b := Nat.mod_lt _ (by omega)
      have HI := fun w => ih (a % b) hlt b w hb (by omega)
      have e : b.gcd (a % b) = a.gcd b := by rw [Nat.gcd_comm a b, Nat.gcd_rec b a, Nat.gcd_comm]
      rw [e] at HI
      clear e ih
      generalize a.gcd b = g at HI ⊢
      generalize a % b = r at hm hlt HI
      have hw1 : IntKind.i64.wrap (r : Int) = (r : Int) := wr64 (by omega) (by omega)
      go_enter Tryz.func66, Tryz.ntmps66
      go_wp2_with fail
      refine (HI _).mono ?_
      rintro e w1 ⟨rfl, hb1⟩
      go_wp2
      go_ret
      exact ⟨rfl, hb1⟩
set_option maxHeartbeats 1000000 in
theorem rfSquare (a b : Nat) (w : World) (ha : a ≤ 9000000000000000000) (hb : b ≤ 9000000000000000000) (h : 0 < b) :
    Calls Tryz.prog 71 #[.int .i64 a, .int .i64 b] w fun e w' => e = .returned (.agg #[.int .i64 (qn a b), .int .i64 (qd a b)]) ∧ Below w.heap.size w w' := by
  unfold qn qd
  obtain ⟨g, hg⟩ : ∃ g, a.gcd b = g := ⟨_, rfl⟩
  have hg0 : 0 < g := by rw [← hg]; exact Nat.gcd_pos_of_pos_right _ h
  have hz1 : ¬ (g : Int) = 0 := by omega
  have hz0 : ((g : Int) != 0) = true := by rw [bne_iff_ne]; omega
  have h1 := divN a g
  have h2 := divN b g
  have h3 : a / g ≤ a := Nat.div_le_self _ _
  have h4 : b / g ≤ b := Nat.div_le_self _ _
  rw [hg]
  have HG := Lib.hid hg
  obtain ⟨u, hu⟩ : ∃ u, a / g = u := ⟨_, rfl⟩
  obtain ⟨v, hv⟩ : ∃ v, b / g = v := ⟨_, rfl⟩
  rw [hu] at h1 h3 ⊢
  rw [hv] at h2 h4 ⊢
  have hw1 : IntKind.i64.wrap (u : Int) = (u : Int) := wr64 (by omega) (by omega)
  have hw2 : IntKind.i64.wrap (v : Int) = (v : Int) := wr64 (by omega) (by omega)
  clear hu hv hg
  obtain ⟨w0, hw0, hB, hb0, hz⟩ := boxS w (.cells #[.int .i64 0, .int .i64 0] 24)
  have hg1 : ¬ g = 0 := by omega
  go_enter Tryz.func71, Tryz.ntmps71
  go_wp2_with fail
  refine (rfDivisor b a _ ha hb).mono ?_
  rintro e w1 ⟨rfl, hb1⟩
  rw [HG.out]
  have hB1 := blkT hB hb1
  have hbw := tw hb0 hb1
  obtain ⟨p0, p1, p2, p3⟩ := cel2 hB1
  obtain ⟨s1, s2⟩ := set2 hB1 (.int .i64 u) (.int .i64 v)
  obtain ⟨t0, t1, -, -⟩ := cel2 s1
  have hbf := hbw.grown s2 hbw.size (fun j e => by cases e; exact Nat.le_refl _)
  clear hB hb1 hB1 hbw hb0 hw0
  go_wp2_with fail
  go_region
  go_wp2
  exact bodyPost_ret (v := .agg #[.int .i64 u, .int .i64 v]) (by simp [results, Tryz.results71, go_sem, t0, t1]) rfl ⟨rfl, below_drew hbf⟩
theorem ratH_cases (n d : Int) : (¬ (1 ≤ n ∧ n ≤ 30 ∧ 1 ≤ d ∧ d ≤ 30) ∧ ratH n d = 3) ∨ ((1 ≤ n ∧ n ≤ 30 ∧ 1 ≤ d ∧ d ≤ 30) ∧ d < n ∧ ratH n d = 11) ∨ ((1 ≤ n ∧ n ≤ 30 ∧ 1 ≤ d ∧ d ≤ 30) ∧ n ≤ d ∧ n.toNat.gcd d.toNat ≠ 1 ∧ ratH n d = 1) ∨ ((1 ≤ n ∧ n ≤ 30 ∧ 1 ≤ d ∧ d ≤ 30) ∧ n ≤ d ∧ n.toNat.gcd d.toNat = 1 ∧ ratH n d = 0) := by
  unfold ratH
  simp only [fstE, rngH]
  repeat' split
  all_goals first | omega | (rename_i h; simp_all; omega) | simp_all
end Go.Proofs.YtlkeejhaodedmaaGreatDoor

/- The reference's checks, vertical ratios and fullness. -/
namespace Go.Proofs.YtlkeejhaodedmaaGreatDoor
open Go.RowKit

theorem sqH_cases (n d : Int) : (¬ (0 ≤ n ∧ n ≤ 4000000000000 ∧ 1 ≤ d ∧ d ≤ 810000) ∧ sqH n d = 3) ∨ ((0 ≤ n ∧ n ≤ 4000000000000 ∧ 1 ≤ d ∧ d ≤ 810000) ∧ n.toNat.gcd d.toNat ≠ 1 ∧ sqH n d = 1) ∨ ((0 ≤ n ∧ n ≤ 4000000000000 ∧ 1 ≤ d ∧ d ≤ 810000) ∧ n.toNat.gcd d.toNat = 1 ∧ sqH n d = 0) := by
  unfold sqH
  simp only [fstE, rngH]
  repeat' split
  all_goals first | omega | (rename_i h; simp_all; omega) | simp_all
set_option maxHeartbeats 2000000 in
set_option maxRecDepth 100000 in
theorem rfCheckRatio (a b : Int) (w : World) :
    Calls Tryz.prog 16 #[.agg #[.int .i64 a, .int .i64 b]] w fun e w' => e = .returned (.int .i64 (ratH a b)) ∧ Below w.heap.size w w' := by
  obtain ⟨w1, hw1, k1, hb1, hz1⟩ := boxS w (.cells #[.int .i64 a, .int .i64 b] 23)
  obtain ⟨c0, c1, -, -⟩ := cel2 k1
  clear k1
  by_cases g1 : a < 1
  · have hE : ratH a b = 3 := by have hc := ratH_cases a b; omega
    rw [hE]
    clear hE
    go_enter Tryz.func16, Tryz.ntmps16
    go_wp2
    go_ret
    exact ⟨rfl, hb1⟩
  by_cases g2 : 30 < a
  · have hE : ratH a b = 3 := by have hc := ratH_cases a b; omega
    rw [hE]
    clear hE
    go_enter Tryz.func16, Tryz.ntmps16
    go_wp2
    go_ret
    exact ⟨rfl, hb1⟩
  by_cases g3 : b < 1
  · have hE : ratH a b = 3 := by have hc := ratH_cases a b; omega
    rw [hE]
    clear hE
    go_enter Tryz.func16, Tryz.ntmps16
    go_wp2
    go_ret
    exact ⟨rfl, hb1⟩
  by_cases g4 : 30 < b
  · have hE : ratH a b = 3 := by have hc := ratH_cases a b; omega
    rw [hE]
    clear hE
    go_enter Tryz.func16, Tryz.ntmps16
    go_wp2
    go_ret
    exact ⟨rfl, hb1⟩
  by_cases g5 : b < a
  · have hE : ratH a b = 11 := by have hc := ratH_cases a b; omega
    rw [hE]
    clear hE
    go_enter Tryz.func16, Tryz.ntmps16
    go_wp2
    go_ret
    exact ⟨rfl, hb1⟩
  obtain ⟨P, rfl⟩ : ∃ P : Nat, a = (P : Int) := ⟨a.toNat, by omega⟩
  obtain ⟨D, rfl⟩ : ∃ D : Nat, b = (D : Int) := ⟨b.toNat, by omega⟩
  have HD := fun w => rfDivisor D P w (by omega) (by omega)
  have hc := ratH_cases (P : Int) (D : Int)
  rw [Int.toNat_natCast, Int.toNat_natCast] at hc
  obtain ⟨E, hE⟩ : ∃ E, ratH (P : Int) (D : Int) = E := ⟨_, rfl⟩
  rw [hE] at hc ⊢
  generalize P.gcd D = g at HD hc
  by_cases hg : g = 1
  · obtain rfl : E = 0 := by omega
    have hz : ((g : Int) != 1) = false := by rw [hg]; rfl
    clear hc hE hg
    go_enter Tryz.func16, Tryz.ntmps16
    go_wp2_with fail
    refine (HD _).mono ?_
    rintro e w3 ⟨rfl, hb3⟩
    go_wp2
    go_ret
    exact ⟨rfl, tw hb1 hb3⟩
  · obtain rfl : E = 1 := by omega
    have hz : ((g : Int) != 1) = true := by rw [bne_iff_ne]; omega
    clear hc hE hg
    go_enter Tryz.func16, Tryz.ntmps16
    go_wp2_with fail
    refine (HD _).mono ?_
    rintro e w3 ⟨rfl, hb3⟩
    go_wp2
    go_ret
    exact ⟨rfl, tw hb1 hb3⟩
set_option maxHeartbeats 2000000 in
set_option maxRecDepth 100000 in
theorem rfCheckSquare (a b : Int) (w : World) :
    Calls Tryz.prog 21 #[.agg #[.int .i64 a, .int .i64 b]] w fun e w' => e = .returned (.int .i64 (sqH a b)) ∧ Below w.heap.size w w' := by
  obtain ⟨w1, hw1, k1, hb1, hz1⟩ := boxS w (.cells #[.int .i64 a, .int .i64 b] 24)
  obtain ⟨c0, c1, -, -⟩ := cel2 k1
  clear k1
  by_cases g1 : a < 0
  · have hE : sqH a b = 3 := by have hc := sqH_cases a b; omega
    rw [hE]
    clear hE
    go_enter Tryz.func21, Tryz.ntmps21
    go_wp2
    go_ret
    exact ⟨rfl, hb1⟩
  by_cases g2 : 4000000000000 < a
  · have hE : sqH a b = 3 := by have hc := sqH_cases a b; omega
    rw [hE]
    clear hE
    go_enter Tryz.func21, Tryz.ntmps21
    go_wp2
    go_ret
    exact ⟨rfl, hb1⟩
  by_cases g3 : b < 1
  · have hE : sqH a b = 3 := by have hc := sqH_cases a b; omega
    rw [hE]
    clear hE
    go_enter Tryz.func21, Tryz.ntmps21
    go_wp2
    go_ret
    exact ⟨rfl, hb1⟩
  by_cases g4 : 810000 < b
  · have hE : sqH a b = 3 := by have hc := sqH_cases a b; omega
    rw [hE]
    clear hE
    go_enter Tryz.func21, Tryz.ntmps21
    go_wp2
    go_ret
    exact ⟨rfl, hb1⟩
  obtain ⟨P, rfl⟩ : ∃ P : Nat, a = (P : Int) := ⟨a.toNat, by omega⟩
  obtain ⟨D, rfl⟩ : ∃ D : Nat, b = (D : Int) := ⟨b.toNat, by omega⟩
  have HD := fun w => rfDivisor D P w (by omega) (by omega)
  have hc := sqH_cases (P : Int) (D : Int)
  rw [Int.toNat_natCast, Int.toNat_natCast] at hc
  obtain ⟨E, hE⟩ : ∃ E, sqH (P : Int) (D : Int) = E := ⟨_, rfl⟩
  rw [hE] at hc ⊢
  generalize P.gcd D = g at HD hc
  by_cases hg : g = 1
  · obtain rfl : E = 0 := by omega
    have hz : ((g : Int) != 1) = false := by rw [hg]; rfl
    clear hc hE hg
    go_enter Tryz.func21, Tryz.ntmps21
    go_wp2_with fail
    refine (HD _).mono ?_
    rintro e w3 ⟨rfl, hb3⟩
    go_wp2
    go_ret
    exact ⟨rfl, tw hb1 hb3⟩
  · obtain rfl : E = 1 := by omega
    have hz : ((g : Int) != 1) = true := by rw [bne_iff_ne]; omega
    clear hc hE hg
    go_enter Tryz.func21, Tryz.ntmps21
    go_wp2_with fail
    refine (HD _).mono ?_
    rintro e w3 ⟨rfl, hb3⟩
    go_wp2
    go_ret
    exact ⟨rfl, tw hb1 hb3⟩
set_option maxHeartbeats 1000000 in
set_option maxRecDepth 100000 in
theorem rfSecondary (P D : Nat) (w : World) (h1 : 1 ≤ P) (hP : P ≤ D) (hD : D ≤ 30) :
    Calls Tryz.prog 17 #[.agg #[.int .i64 P, .int .i64 D]] w fun e w' => e = .returned (.agg #[.int .i64 (qn (upN 1 P D) (D * D)), .int .i64 (qd (upN 1 P D) (D * D))]) ∧ Below w.heap.size w w' := by
  have hDD : 0 < D * D := Nat.mul_pos (by omega) (by omega)
  have hDD2 : D * D ≤ 30 * 30 := Nat.mul_le_mul hD hD
  have hU : upN 1 P D ≤ 900 := by unfold upN; omega
  have HQ := fun w => rfSquare (upN 1 P D) (D * D) w (by omega) (by omega) hDD
  have HU := Lib.hid (show (D : Int) * (D : Int) - (P : Int) * (P : Int) = (upN 1 P D : Nat) by rw [sqSub hP]; unfold upN; rw [Nat.one_mul])
  have HDD := Lib.hid (mulI D D)
  have b2 := mulB hD hD
  have b3 := mulB (Nat.le_trans hP hD) (Nat.le_trans hP hD)
  have b5 : 0 ≤ (D : Int) * (D : Int) - (P : Int) * (P : Int) ∧ (D : Int) * (D : Int) - (P : Int) * (P : Int) ≤ 900 := by rw [HU.out]; omega
  obtain ⟨b20, b21⟩ := b2
  obtain ⟨b30, b31⟩ := b3
  obtain ⟨b50, b51⟩ := b5
  clear hU hDD hDD2
  generalize upN 1 P D = U at HQ HU ⊢
  generalize hE : D * D = E at HQ HDD ⊢
  generalize qn U E = u at HQ ⊢
  generalize qd U E = v at HQ ⊢
  clear hE
  obtain ⟨w1, hw1, k1, hb1, hz1⟩ := boxS w (.cells #[.int .i64 P, .int .i64 D] 23)
  obtain ⟨w2, hw2, k2, hb2, hz2⟩ := boxS w1 (.cells #[.int .i64 0, .int .i64 0] 24)
  obtain ⟨p0, p1, -, -⟩ := cel2 (blkT k1 hb2)
  go_enter Tryz.func17, Tryz.ntmps17
  go_wp2_with fail
  rw [HU.out, HDD.out]
  refine (HQ _).mono ?_
  rintro e w3 ⟨rfl, hb3⟩
  have k3 := blkT k2 hb3
  obtain ⟨q0, q1, q2, q3⟩ := cel2 k3
  obtain ⟨s1, s2⟩ := set2 k3 (.int .i64 u) (.int .i64 v)
  obtain ⟨t0, t1, -, -⟩ := cel2 s1
  have hbw := tw (tw hb1 hb2) hb3
  have hbf := hbw.grown s2 hbw.size (fun j e => by cases e; exact hb1.size)
  go_wp2
  exact bodyPost_ret (v := .agg #[.int .i64 u, .int .i64 v]) (by simp [results, Tryz.results17, go_sem, t0, t1]) rfl ⟨rfl, hbf⟩
set_option maxHeartbeats 1000000 in
set_option maxRecDepth 100000 in
theorem rfFullness (P D : Nat) (w : World) (h1 : 1 ≤ P) (hP : P ≤ D) (hD : D ≤ 30) :
    Calls Tryz.prog 18 #[.agg #[.int .i64 P, .int .i64 D]] w fun e w' => e = .returned (.agg #[.int .i64 (qn (fuN P D) (D * D * (D * D))), .int .i64 (qd (fuN P D) (D * D * (D * D)))]) ∧ Below w.heap.size w w' := by
  have hU := fuN_le hP hD
  have hDD : 0 < D * D := Nat.mul_pos (by omega) (by omega)
  have hDD2 : D * D ≤ 30 * 30 := Nat.mul_le_mul hD hD
  have hD4 : D * D * (D * D) ≤ 900 * 900 := Nat.mul_le_mul hDD2 hDD2
  have HQ := fun w => rfSquare (fuN P D) (D * D * (D * D)) w (by omega) (by omega) (Nat.mul_pos hDD hDD)
  have HU := Lib.hid (fuNI hP)
  have HD4 := Lib.hid (show (D : Int) * (D : Int) * ((D : Int) * (D : Int)) = ((D * D * (D * D) : Nat) : Int) by push_cast; rfl)
  have b2 := mulB hD hD
  have b3 := mulB (Nat.le_trans hP hD) (Nat.le_trans hP hD)
  have b5 : 0 ≤ 4 * ((P : Int) * (P : Int)) * ((D : Int) * (D : Int) - (P : Int) * (P : Int)) ∧ 4 * ((P : Int) * (P : Int)) * ((D : Int) * (D : Int) - (P : Int) * (P : Int)) ≤ 3240000 := by rw [HU.out]; omega
  have b6 : 0 ≤ (D : Int) * (D : Int) * ((D : Int) * (D : Int)) ∧ (D : Int) * (D : Int) * ((D : Int) * (D : Int)) ≤ 810000 := by rw [HD4.out]; omega
  obtain ⟨b20, b21⟩ := b2
  obtain ⟨b30, b31⟩ := b3
  obtain ⟨b50, b51⟩ := b5
  obtain ⟨b60, b61⟩ := b6
  have w1' : IntKind.i64.wrap ((P : Int) * (P : Int)) = (P : Int) * (P : Int) := wr64 (by omega) (by omega)
  have w2' : IntKind.i64.wrap ((D : Int) * (D : Int)) = (D : Int) * (D : Int) := wr64 (by omega) (by omega)
  clear hU hDD hDD2 hD4
  generalize fuN P D = U at HQ HU ⊢
  generalize hE : D * D * (D * D) = E at HQ HD4 ⊢
  generalize qn U E = u at HQ ⊢
  generalize qd U E = v at HQ ⊢
  clear hE
  obtain ⟨w1, hw1, k1, hb1, hz1⟩ := boxS w (.cells #[.int .i64 P, .int .i64 D] 23)
  obtain ⟨w2, hw2, k2, hb2, hz2⟩ := boxS w1 (.cells #[.int .i64 0, .int .i64 0] 24)
  obtain ⟨p0, p1, -, -⟩ := cel2 (blkT k1 hb2)
  go_enter Tryz.func18, Tryz.ntmps18
  go_wp2_with fail
  go_quiet (fail)
  have hb2n := below_drewN hb2 nq
  have k2n : (w2.drewN nq).heap[w1.heap.size]? = some (.cells #[.int .i64 0, .int .i64 0] 24 (0, 0)) := k2
  generalize World.drewN w2 nq = w2' at *
  go_wp2_with fail
  rw [HU.out, HD4.out]
  refine (HQ _).mono ?_
  rintro e w3 ⟨rfl, hb3⟩
  have k3 := blkT k2n hb3
  obtain ⟨q0, q1, q2, q3⟩ := cel2 k3
  obtain ⟨s1, s2⟩ := set2 k3 (.int .i64 u) (.int .i64 v)
  obtain ⟨t0, t1, -, -⟩ := cel2 s1
  have hbw := tw (tw hb1 hb2n) hb3
  have hbf := hbw.grown s2 hbw.size (fun j e => by cases e; exact hb1.size)
  go_wp2
  exact bodyPost_ret (v := .agg #[.int .i64 u, .int .i64 v]) (by simp [results, Tryz.results18, go_sem, t0, t1]) rfl ⟨rfl, hbf⟩
end Go.Proofs.YtlkeejhaodedmaaGreatDoor

/- The reference's ropes: ShortSections, CheckSections, Ties. -/
namespace Go.Proofs.YtlkeejhaodedmaaGreatDoor
open Go.RowKit

set_option maxHeartbeats 1000000 in
set_option maxRecDepth 100000 in
theorem rfShortSections (A : Option Addr) (c : Nat) (l : List Sec) (w : World) (hA : OKV Sec.c 3 w A c l) :
    Calls Tryz.prog 38 #[.slice A l.length c] w (BoolP (l.length ≤ 33) w) := by
  have HA := Lib.hid hA
  have hm : l.length ≤ maxLen := Nat.le_trans hA.1 hA.2.1
  unfold maxLen at hm
  clear hA
  by_cases hlen : 5 < l.length ∧ l.length ≠ 33
  · have h1 : (5 : Int) < (l.length : Int) := by omega
    have h2 : ((l.length : Int) != 33) = true := by rw [bne_iff_ne]; omega
    go_enter Tryz.func38, Tryz.ntmps38
    go_wp2_with fail
    go_ret
    exact ⟨false, rfl, (fun h => by cases h), rfl⟩
  · have hle : l.length ≤ 33 := by omega
    have HLE := Lib.hid hle
    have HLL := Lib.hid hlen
    go_enter Tryz.func38, Tryz.ntmps38
    go_upto_region 1 with fail
    go_cut [11] (fun s X => s = .bool false ∧ w = X)
    case first =>
      by_cases h6 : 5 < l.length
      · have h33 : l.length = 33 := by have := HLL.out; omega
        have h1 : (5 : Int) < (l.length : Int) := by omega
        have h2 : ((l.length : Int) != 33) = false := by rw [h33]; rfl
        have H33 := Lib.hid h33
        clear h33
        go_wp2_with fail
        go_meet
        exact ⟨rfl, rfl⟩
      · have h1 : ¬ (5 : Int) < (l.length : Int) := by omega
        go_wp2_with fail
        go_meet
        exact ⟨rfl, rfl⟩
    case rest =>
      obtain ⟨rfl, rfl⟩ := hcut
      clear hlen
      go_wp2_with fail
      go_loopw [3] (fun i wr => ∃ k : Nat, k ≤ l.length ∧ i = .int .i64 k ∧ w = wr) (fun i _ => l.length - (intOf i).toNat)
      case atStart => exact ⟨0, Nat.zero_le _, rfl, rfl⟩
      case round =>
        obtain ⟨k, hk, rfl, rfl⟩ := hrel
        by_cases hlt : k < l.length
        · have hki : (k : Int) < (l.length : Int) := by omega
          have hk0 : (0 : Int) ≤ (k : Int) := by omega
          obtain ⟨b, off, hAe, hB, c0, c1, c2⟩ := atS HA.out.2.2.2 hlt
          subst hAe
          generalize l[k].m = q at c0
          by_cases hq : 12 < q
          · by_cases hq3 : q ≤ 300
            · go_wp2_with fail
              go_ret
              exact ⟨false, rfl, (fun h => by cases h), rfl⟩
            · go_wp2_with fail
              go_roundw
              case rel => exact ⟨k + 1, by omega, by go_num, trivial⟩
              case measure => simp [intOf]; omega
          · go_wp2_with fail
            go_roundw
            case rel => exact ⟨k + 1, by omega, by go_num, trivial⟩
            case measure => simp [intOf]; omega
        · obtain rfl : k = l.length := by omega
          have hki : ¬ (l.length : Int) < (l.length : Int) := by omega
          go_wp2_with fail
          go_ret
          exact ⟨true, rfl, (fun _ => by first | trivial | exact HLE.out), rfl⟩
set_option maxHeartbeats 4000000 in
set_option maxRecDepth 100000 in
theorem rfTies (M T : Nat) (w : World) (g1 : 1 ≤ M) (g2 : M ≤ 300) (g3 : 1 ≤ T) (g4 : T ≤ M) :
    Calls Tryz.prog 46 #[.int .i64 M, .int .i64 T] w (SliP ic 1 (tiesL M T T) w) := by
  obtain ⟨i0, hi, hz0, hz1, hz2⟩ := info_parts infoHI
  have HI := Lib.hid hi
  have HZ0 := Lib.hid hz0
  have HZ1 := Lib.hid hz1
  have HZ2 := Lib.hid hz2
  clear hi hz0 hz1 hz2
  have hT0 : ¬ (T : Int) = 0 := by omega
  have hT0n : ¬ T = 0 := by omega
  go_enter Tryz.func46, Tryz.ntmps46
  go_wp2_with fail
  go_loopw [5, 6] (fun v i wr => ∃ k : Nat, k ≤ T ∧ i = .int .i64 k ∧ Hid (wr.ownsRow w.heap.size 3 1 v k ((tiesL M T k).flatMap ic)) ∧ Below w.heap.size w wr) (fun _ i _ => T - (intOf i).toNat)
  case atStart => exact ⟨0, Nat.zero_le _, rfl, World.ownsRow_nil _ _ _ _, Below.refl _ _⟩
  case round =>
    obtain ⟨k, hk, rfl, hown, hb⟩ := hrel
    by_cases hlt : k < T
    · have hki : (k : Int) < (T : Int) := by omega
      have hbz := hb.size
      have p1 : (k + 1) * M ≤ 300 * 300 := Nat.mul_le_mul (by omega) (by omega)
      have p2 : k * M ≤ 300 * 300 := Nat.mul_le_mul (by omega) (by omega)
      have l1 : (k + 1) * M / T ≤ 90000 := Nat.le_trans (Nat.div_le_self _ _) p1
      have l2 : k * M / T ≤ 90000 := Nat.le_trans (Nat.div_le_self _ _) p2
      have t1 : (((k : Int) + 1) * (M : Int)).tdiv (T : Int) = (((k + 1) * M / T : Nat) : Int) := by rw [← divN]; push_cast; rfl
      have t2 : ((k : Int) * (M : Int)).tdiv (T : Int) = ((k * M / T : Nat) : Int) := by rw [← divN]; push_cast; rfl
      have wa : IntKind.i64.wrap ((k : Int) + 1) = (k : Int) + 1 := wr64 (by omega) (by omega)
      have wb : IntKind.i64.wrap (((k : Int) + 1) * (M : Int)) = ((k : Int) + 1) * (M : Int) := by
        have e : ((k : Int) + 1) * (M : Int) = (((k + 1) * M : Nat) : Int) := by push_cast; rfl
        rw [e]; exact wr64 (by omega) (by omega)
      have wc : IntKind.i64.wrap ((k : Int) * (M : Int)) = (k : Int) * (M : Int) := by
        rw [mulI]; exact wr64 (by omega) (by omega)
      have HT := Lib.hid (show (((k + 1) * M / T : Nat) : Int) - ((k * M / T : Nat) : Int) = tieN M T k from rfl)
      generalize (k + 1) * M / T = x at t1 l1 HT
      generalize k * M / T = y at t2 l2 HT
      have wx : IntKind.i64.wrap (x : Int) = (x : Int) := wr64 (by omega) (by omega)
      have wy : IntKind.i64.wrap (y : Int) = (y : Int) := wr64 (by omega) (by omega)
      have wd : IntKind.i64.wrap ((x : Int) - (y : Int)) = (x : Int) - (y : Int) := wr64 (by omega) (by omega)
      clear p1 p2
      go_wp2_with fail
      go_region_law (refine step_append_lies _ rfl (.tmp 12) (.tmp 25) 45 rfl w.heap.size 3 i0 (.int .i64 0) 1 8 Tryz.underlying45 HI.out HZ0.out HZ1.out HZ2.out rfl (by decide) u5 k ((tiesL M T k).flatMap ic) (by simp [Act.eval]) (by first | exact hown.out.alloc _ | exact (hown.out.drew).alloc _) _ 1 1 [.int .i64 ((x : Int) - (y : Int))] (by first | (simp [Act.eval]; done) | (simp [Act.eval]; rfl)) rfl (by exact newsH _ _ _) (by intro u hu; simp at hu; subst hu; rfl) (by decide) (by unfold maxLen; omega) (by omega) (by simp; omega) _ rfl ?_; intro gx cap w5 hown5 hgrow5 _ _)
      all_goals
        have hq5 : Below w.heap.size w w5 := by
          first
            | exact (hb.alloc hbz (.cells #[.int .i64 ((x : Int) - (y : Int))] 3)).grown hgrow5 (by simp; omega) (baseOf hown.out)
            | exact ((below_drew hb).alloc hbz (.cells #[.int .i64 ((x : Int) - (y : Int))] 3)).grown hgrow5 (by simp; omega) (baseOf hown.out)
            | exact (below_drew (hb.alloc hbz (.cells #[.int .i64 ((x : Int) - (y : Int))] 3))).grown hgrow5 (by simp; omega) (baseOf hown.out)
        have HO5 := Lib.hid (show w5.ownsRow w.heap.size 3 1 (.slice (some ⟨gx, 0, none⟩) (k + 1) cap) (k + 1) ((tiesL M T (k + 1)).flatMap ic) by rw [tiesL_succ, ← HT.out]; exact hown5)
        clear hown5 hgrow5 hown
        go_wp2
        go_roundw
        case rel => exact ⟨k + 1, by omega, by go_num, HO5, hq5⟩
        case measure => simp [intOf]; omega
    · obtain rfl : k = T := by omega
      obtain ⟨a, cv, rfl, hok⟩ := OKV.ownN ic1 hown.out (tiesL_length M k k)
      have HOK := Lib.hid hok
      have HL := Lib.hid (tiesL_length M k k)
      clear hok hown
      go_wp2
      go_ret
      exact ⟨a, cv, by rw [HL.out]; rfl, HOK.out, hb⟩
theorem keepS {W w1 w2 : World} {b o : Nat} {x y z : Value} (zb : b < W.heap.size) (k : w1.cell? ⟨b, o, none⟩ = some x ∧ w1.cell? ⟨b, o + 1, none⟩ = some y ∧ w1.cell? ⟨b, o + 2, none⟩ = some z ∧ Below W.heap.size W w1) (hb : Below w1.heap.size w1 w2) :
    w2.cell? ⟨b, o, none⟩ = some x ∧ w2.cell? ⟨b, o + 1, none⟩ = some y ∧ w2.cell? ⟨b, o + 2, none⟩ = some z ∧ Below W.heap.size W w2 := by
  obtain ⟨a0, a1, a2, c⟩ := k
  have := c.size
  exact ⟨(hb.cell (p := ⟨b, _, none⟩) (by show b < _; omega)).trans a0, (hb.cell (p := ⟨b, _, none⟩) (by show b < _; omega)).trans a1, (hb.cell (p := ⟨b, _, none⟩) (by show b < _; omega)).trans a2, tw c hb⟩
set_option maxHeartbeats 4000000 in
set_option maxRecDepth 100000 in
theorem rfCheckSections (A : Option Addr) (c : Nat) (l : List Sec) (w : World) (hl : l.length ≤ 1000) (hA : OKV Sec.c 3 w A c l) :
    Calls Tryz.prog 43 #[.slice A l.length c] w fun e w' => e = .returned (.int .i64 (secsE l)) ∧ Below w.heap.size w w' := by
  have HA := Lib.hid hA
  clear hA
  by_cases h0 : l.length = 0
  · have hi : ((l.length : Int) == 0) = true := by rw [h0]; rfl
    rw [secsE, if_pos h0]
    replace h0 := Lib.hid h0
    go_enter Tryz.func43, Tryz.ntmps43
    go_wp2_with fail
    go_ret
    exact ⟨rfl, Below.refl _ _⟩
  · have hi0 : ((l.length : Int) == 0) = false := by rw [beq_eq_false_iff_ne]; omega
    by_cases hlen : 32 < l.length
    · have hi : (32 : Int) < (l.length : Int) := by omega
      rw [secsE, if_neg h0, if_pos hlen]
      go_enter Tryz.func43, Tryz.ntmps43
      go_wp2_with fail
      go_ret
      exact ⟨rfl, Below.refl _ _⟩
    · have hi : ¬ (32 : Int) < (l.length : Int) := by omega
      rw [secsE, if_neg h0, if_neg hlen]
      have HST := Lib.hid (show lstE (fun _ s => secE s) [] l = lstE (fun _ s => secE s) (l.take 0) (l.drop 0) by simp)
      obtain ⟨E, hE⟩ : ∃ E, lstE (fun _ s => secE s) [] l = E := ⟨_, rfl⟩
      rw [hE] at HST ⊢
      clear hE
      go_enter Tryz.func43, Tryz.ntmps43
      go_wp2_with fail
      go_loopw [3] (fun i wr => ∃ k : Nat, k ≤ l.length ∧ i = .int .i64 k ∧ Hid (E = lstE (fun _ s => secE s) (l.take k) (l.drop k)) ∧ Below w.heap.size w wr) (fun i _ => l.length - (intOf i).toNat)
      case atStart => exact ⟨0, Nat.zero_le _, rfl, HST, Below.refl _ _⟩
      case round =>
        clear HST
        obtain ⟨k, hk, rfl, HS, hb⟩ := hrel
        by_cases hlt : k < l.length
        · have hki : (k : Int) < (l.length : Int) := by omega
          have hk0 : (0 : Int) ≤ (k : Int) := by omega
          obtain ⟨b, off, hAe, hB, c0, c1, c2⟩ := atS (OKV.below HA.out hb).2.2.2 hlt
          subst hAe
          have HSt := Lib.hid (show E = if secE l[k] = 0 then lstE (fun _ s => secE s) (l.take (k + 1)) (l.drop (k + 1)) else secE l[k] from HS.out.trans (lstE_step (fun _ s => secE s) l hlt))
          have HFF := Lib.hid (show fstE [rngH l[k].m 1 300, ratH l[k].n l[k].d] = secE l[k] from rfl)
          generalize secE l[k] = F at HSt HFF
          generalize l[k].m = x at c0 HFF
          generalize l[k].n = y at c1 HFF
          generalize l[k].d = z at c2 HFF
          have B5 := Below.refl wr.heap.size wr
          go_wp2_with fail
          go_region_held3 (fun X => X.cell? ⟨b, off + k * 3, none⟩ = some (.int .i64 x) ∧ X.cell? ⟨b, off + k * 3 + 1, none⟩ = some (.int .i64 y) ∧ X.cell? ⟨b, off + k * 3 + 2, none⟩ = some (.int .i64 z) ∧ Below wr.heap.size wr X)
            (first | exact ⟨c0, c1, c2, B5⟩ | exact ⟨c0, c1, c2, below_drew B5⟩ | exact keepS hB (by assumption) (by assumption) | exact keepS hB (by assumption) ((Below.refl _ _).alloc (Nat.le_refl _) _) | assumption | exact keepS hB (by assumption) (below_drew (Below.refl _ _)) | go_keep)
            (first
              | (go_at_call 27; refine (rfCheckRange _ _ _ _).mono ?_; rintro e w' ⟨rfl, rfl⟩)
              | (go_at_call 16; refine (rfCheckRatio _ _ _).mono ?_; rintro e w' ⟨rfl, hbx⟩)
              | (go_at_call 26; refine (rfFirst2 _ _ _ _ 3 _ (by exact newBlk _ _)).mono ?_; rintro e w' ⟨rfl, rfl⟩))
          all_goals
            rename_i hH
            rw [HFF.out]
            obtain ⟨-, -, -, hb6⟩ := hH
            have hb7 := tw hb hb6
            clear c0 c1 c2 B5 hb6
            by_cases hF : F = 0
            · have HE2 := Lib.hid (show E = lstE (fun _ s => secE s) (l.take (k + 1)) (l.drop (k + 1)) by rw [HSt.out, if_pos hF])
              subst hF
              go_wp2_with fail
              go_roundw
              case rel => exact ⟨k + 1, by omega, by go_num, HE2, hb7⟩
              case measure => simp [intOf]; omega
            · have HE2 := Lib.hid (show E = F by rw [HSt.out, if_neg hF])
              have hFn := nzH hF
              clear hF
              go_wp2_with fail
              go_ret
              exact ⟨ret_i HE2.out.symm, hb7⟩
        · obtain rfl : k = l.length := by omega
          have hki : ¬ (l.length : Int) < (l.length : Int) := by omega
          have HE := Lib.hid (HS.out.trans (lstE_end (fun _ s => secE s) l))
          go_wp2_with fail
          go_ret
          exact ⟨ret_i HE.out.symm, hb⟩
end Go.Proofs.YtlkeejhaodedmaaGreatDoor

/- The reference's sizes. -/
namespace Go.Proofs.YtlkeejhaodedmaaGreatDoor
open Go.RowKit

set_option maxHeartbeats 1000000 in
theorem rfRatio (a b : Nat) (w : World) (ha : a ≤ 9000000000000000000) (hb : b ≤ 9000000000000000000) (h : 0 < b) :
    Calls Tryz.prog 81 #[.int .i64 a, .int .i64 b] w fun e w' => e = .returned (.agg #[.int .i64 (qn a b), .int .i64 (qd a b)]) ∧ Below w.heap.size w w' := by
  unfold qn qd
  obtain ⟨g, hg⟩ : ∃ g, a.gcd b = g := ⟨_, rfl⟩
  have hg0 : 0 < g := by rw [← hg]; exact Nat.gcd_pos_of_pos_right _ h
  have hz1 : ¬ (g : Int) = 0 := by omega
  have hz0 : ((g : Int) != 0) = true := by rw [bne_iff_ne]; omega
  have h1 := divN a g
  have h2 := divN b g
  have h3 : a / g ≤ a := Nat.div_le_self _ _
  have h4 : b / g ≤ b := Nat.div_le_self _ _
  rw [hg]
  have HG := Lib.hid hg
  obtain ⟨u, hu⟩ : ∃ u, a / g = u := ⟨_, rfl⟩
  obtain ⟨v, hv⟩ : ∃ v, b / g = v := ⟨_, rfl⟩
  rw [hu] at h1 h3 ⊢
  rw [hv] at h2 h4 ⊢
  have hw1 : IntKind.i64.wrap (u : Int) = (u : Int) := wr64 (by omega) (by omega)
  have hw2 : IntKind.i64.wrap (v : Int) = (v : Int) := wr64 (by omega) (by omega)
  clear hu hv hg
  obtain ⟨w0, hw0, hB, hb0, hz⟩ := boxS w (.cells #[.int .i64 0, .int .i64 0] 23)
  have hg1 : ¬ g = 0 := by omega
  go_enter Tryz.func81, Tryz.ntmps81
  go_wp2_with fail
  refine (rfDivisor b a _ ha hb).mono ?_
  rintro e w1 ⟨rfl, hb1⟩
  rw [HG.out]
  have hB1 := blkT hB hb1
  have hbw := tw hb0 hb1
  obtain ⟨p0, p1, p2, p3⟩ := cel2 hB1
  obtain ⟨s1, s2⟩ := set2 hB1 (.int .i64 u) (.int .i64 v)
  obtain ⟨t0, t1, -, -⟩ := cel2 s1
  have hbf := hbw.grown s2 hbw.size (fun j e => by cases e; exact Nat.le_refl _)
  clear hB hb1 hB1 hbw hb0 hw0
  go_wp2_with fail
  go_region
  go_wp2
  exact bodyPost_ret (v := .agg #[.int .i64 u, .int .i64 v]) (by simp [results, Tryz.results81, go_sem, t0, t1]) rfl ⟨rfl, below_drew hbf⟩
def netE2 (b m : Int) : Int := fstE [rngH b 1 100, rngH m 1 300]
set_option maxHeartbeats 1000000 in
theorem rfCheckNetting (b m : Int) (w : World) :
    Calls Tryz.prog 28 #[.int .i64 b, .int .i64 m] w fun e w' => e = .returned (.int .i64 (netE2 b m)) ∧ Below w.heap.size w w' := by
  have HE := Lib.hid (show fstE [rngH b 1 100, rngH m 1 300] = netE2 b m from rfl)
  generalize netE2 b m = E at HE ⊢
  go_enter Tryz.func28, Tryz.ntmps28
  go_wp2_with fail
  refine (rfCheckRange _ _ _ _).mono ?_
  rintro e w2 ⟨rfl, rfl⟩
  go_wp2_with fail
  refine (rfCheckRange _ _ _ _).mono ?_
  rintro e w2 ⟨rfl, rfl⟩
  go_wp2_with fail
  refine (rfFirst2 _ _ _ _ 3 _ (by exact newBlk _ _)).mono ?_
  rintro e w2 ⟨rfl, rfl⟩
  rw [HE.out]
  go_wp2
  go_ret
  exact ⟨rfl, (Below.refl _ _).alloc (Nat.le_refl _) _⟩
theorem spanI (b m : Nat) : 2 * (b : Int) * (m : Int) = ((2 * b * m : Nat) : Int) := by push_cast; rfl
theorem span_le {b m : Nat} (hb : b ≤ 100) (hm : m ≤ 300) : 2 * b * m ≤ 60000 := Nat.le_trans (Nat.mul_le_mul (Nat.mul_le_mul (Nat.le_refl 2) hb) hm) (by decide)
set_option maxHeartbeats 1000000 in
set_option maxRecDepth 100000 in
theorem rfWidth (P D b m : Nat) (w : World) (h1 : 1 ≤ P) (hP : P ≤ D) (hD : D ≤ 30) (hb : b ≤ 100) (hm : m ≤ 300) :
    Calls Tryz.prog 30 #[.agg #[.int .i64 P, .int .i64 D], .int .i64 b, .int .i64 m] w fun e w' => e = .returned (.agg #[.int .i64 (qn (2 * b * m * P) D : Nat), .int .i64 (qd (2 * b * m * P) D : Nat)]) ∧ Below w.heap.size w w' := by
  have hs := span_le hb hm
  have hsP : 2 * b * m * P ≤ 60000 * 30 := Nat.mul_le_mul hs (Nat.le_trans hP hD)
  have HQ := fun w => rfRatio (2 * b * m * P) D w (by omega) (by omega) (by omega)
  have h3 := spanI b m
  have wa : IntKind.i64.wrap (2 * (b : Int)) = 2 * (b : Int) := wr64 (by omega) (by omega)
  have wb : IntKind.i64.wrap (2 * (b : Int) * (m : Int)) = 2 * (b : Int) * (m : Int) := by rw [h3]; exact wr64 (by omega) (by omega)
  have h4 : 2 * (b : Int) * (m : Int) * (P : Int) = ((2 * b * m * P : Nat) : Int) := by push_cast; rfl
  have wc : IntKind.i64.wrap (2 * (b : Int) * (m : Int) * (P : Int)) = 2 * (b : Int) * (m : Int) * (P : Int) := by rw [h4]; exact wr64 (by omega) (by omega)
  have HU := Lib.hid h4
  clear h3 h4
  generalize 2 * b * m * P = U at HQ HU hsP ⊢
  generalize qn U D = u at HQ ⊢
  generalize qd U D = v at HQ ⊢
  obtain ⟨w1, hw1, k1, hb1, hz1⟩ := boxS w (.cells #[.int .i64 P, .int .i64 D] 23)
  obtain ⟨w2, hw2, k2, hb2, hz2⟩ := boxS w1 (.cells #[.int .i64 0, .int .i64 0] 23)
  obtain ⟨p0, p1, -, -⟩ := cel2 (blkT k1 hb2)
  go_enter Tryz.func30, Tryz.ntmps30
  go_wp2_with fail
  rw [HU.out]
  refine (HQ _).mono ?_
  rintro e w3 ⟨rfl, hb3⟩
  have k3 := blkT k2 hb3
  obtain ⟨q0, q1, q2, q3⟩ := cel2 k3
  obtain ⟨s1, s2⟩ := set2 k3 (.int .i64 u) (.int .i64 v)
  obtain ⟨t0, t1, -, -⟩ := cel2 s1
  have hbw := tw (tw hb1 hb2) hb3
  have hbf := hbw.grown s2 hbw.size (fun j e => by cases e; exact hb1.size)
  go_wp2
  exact bodyPost_ret (v := .agg #[.int .i64 u, .int .i64 v]) (by simp [results, Tryz.results30, go_sem, t0, t1]) rfl ⟨rfl, hbf⟩
set_option maxHeartbeats 1000000 in
set_option maxRecDepth 100000 in
theorem rfHeight (P D b m : Nat) (w : World) (h1 : 1 ≤ P) (hP : P ≤ D) (hD : D ≤ 30) (hb : b ≤ 100) (hm : m ≤ 300) :
    Calls Tryz.prog 31 #[.agg #[.int .i64 P, .int .i64 D], .int .i64 b, .int .i64 m] w fun e w' => e = .returned (.agg #[.int .i64 (qn (upN (2 * b * m) P D) (D * D) : Nat), .int .i64 (qd (upN (2 * b * m) P D) (D * D) : Nat)]) ∧ Below w.heap.size w w' := by
  have hs := span_le hb hm
  have h3 := spanI b m
  have wa0 : IntKind.i64.wrap (2 * (b : Int)) = 2 * (b : Int) := wr64 (by omega) (by omega)
  have HS := Lib.hid h3
  have wb0 : IntKind.i64.wrap (2 * (b : Int) * (m : Int)) = ((2 * b * m : Nat) : Int) := by rw [h3]; exact wr64 (by omega) (by omega)
  clear h3
  generalize 2 * b * m = L at hs HS wb0 ⊢
  have hU := upN_le (P := P) hs hD
  have hDD : 0 < D * D := Nat.mul_pos (by omega) (by omega)
  have hDD2 : D * D ≤ 30 * 30 := Nat.mul_le_mul hD hD
  have HQ := fun w => rfSquare (upN L P D) (D * D) w (by omega) (by omega) hDD
  have HU := Lib.hid (upNI (L := L) hP)
  have HDD := Lib.hid (mulI D D)
  have b1 := mulB hs hs
  have b2 := mulB hD hD
  have b3 := mulB (Nat.le_trans hP hD) (Nat.le_trans hP hD)
  have b4 := sqSub hP
  have b5 : 0 ≤ (L : Int) * (L : Int) * ((D : Int) * (D : Int) - (P : Int) * (P : Int)) ∧ (L : Int) * (L : Int) * ((D : Int) * (D : Int) - (P : Int) * (P : Int)) ≤ 3240000000000 := by rw [HU.out]; omega
  obtain ⟨b10, b11⟩ := b1
  obtain ⟨b20, b21⟩ := b2
  obtain ⟨b30, b31⟩ := b3
  obtain ⟨b50, b51⟩ := b5
  clear b4 hU hDD hDD2
  generalize upN L P D = U at HQ HU ⊢
  generalize hE : D * D = E at HQ HDD ⊢
  generalize qn U E = u at HQ ⊢
  generalize qd U E = v at HQ ⊢
  clear hE
  obtain ⟨w1, hw1, k1, hb1, hz1⟩ := boxS w (.cells #[.int .i64 P, .int .i64 D] 23)
  obtain ⟨w2, hw2, k2, hb2, hz2⟩ := boxS w1 (.cells #[.int .i64 0, .int .i64 0] 24)
  obtain ⟨p0, p1, -, -⟩ := cel2 (blkT k1 hb2)
  go_enter Tryz.func31, Tryz.ntmps31
  go_wp2_with fail
  rw [HU.out, HDD.out]
  refine (HQ _).mono ?_
  rintro e w3 ⟨rfl, hb3⟩
  have k3 := blkT k2 hb3
  obtain ⟨q0, q1, q2, q3⟩ := cel2 k3
  obtain ⟨s1, s2⟩ := set2 k3 (.int .i64 u) (.int .i64 v)
  obtain ⟨t0, t1, -, -⟩ := cel2 s1
  have hbw := tw (tw hb1 hb2) hb3
  have hbf := hbw.grown s2 hbw.size (fun j e => by cases e; exact hb1.size)
  go_wp2
  exact bodyPost_ret (v := .agg #[.int .i64 u, .int .i64 v]) (by simp [results, Tryz.results31, go_sem, t0, t1]) rfl ⟨rfl, hbf⟩
end Go.Proofs.YtlkeejhaodedmaaGreatDoor

/- The reference's Rope. -/
namespace Go.Proofs.YtlkeejhaodedmaaGreatDoor
open Go.RowKit

theorem secOk_take {l : List Sec} (h : SecOk l) (k : Nat) : SecOk (l.take k) := fun i hi => by
  rw [List.getElem_take]
  exact h i (by rw [List.length_take] at hi; omega)
theorem sumW_take {b : Nat} {l : List Sec} (hb : b ≤ 100) (hv : SecOk l) (hl : l.length ≤ 32) (k : Nat) : sumW (widL b (l.take k)) ≤ 4500000000000000000 :=
  sumW_wid hb (secOk_take hv k) (by rw [List.length_take]; omega)
/-- A product and a quotient as the reference reckons them. -/
structure Wd (B M P D W : Nat) where
  x1 : Nat
  x2 : Nat
  x3 : Nat
  q : Nat
  e1 : 2 * (B : Int) = (x1 : Int)
  e2 : (x1 : Int) * (M : Int) = (x2 : Int)
  e3 : (x2 : Int) * (P : Int) = (x3 : Int)
  e4 : (2329089562800 : Int).tdiv (D : Int) = (q : Int)
  e5 : (x3 : Int) * (q : Int) = ((M * W : Nat) : Int)
  b1 : x1 ≤ 200
  b2 : x2 ≤ 60000
  b3 : x3 ≤ 1800000
  b4 : q ≤ 2329089562800
def wdOf {B M P D : Nat} (hB : B ≤ 100) (hM : M ≤ 300) (hP : P ≤ 30) : Wd B M P D (2 * B * 1 * P * (2329089562800 / D)) :=
  ⟨2 * B, 2 * B * M, 2 * B * M * P, 2329089562800 / D, by push_cast; rfl, by push_cast; rfl, by push_cast; rfl, divN 2329089562800 D, by
    rw [← Int.natCast_mul]
    congr 1
    generalize 2329089562800 / D = q
    grind, by omega, Nat.le_trans (Nat.mul_le_mul (show 2 * B ≤ 200 by omega) hM) (by decide), Nat.le_trans (Nat.mul_le_mul (Nat.mul_le_mul (show 2 * B ≤ 200 by omega) hM) hP) (by decide), Nat.div_le_self _ _⟩
set_option maxHeartbeats 4000000 in
set_option maxRecDepth 100000 in
theorem rfRopeN (A : Option Addr) (c : Nat) (l : List Sec) (B : Nat) (w : World) (hl : l.length ≤ 32) (hv : SecOk l) (hB : B ≤ 100) (hA : OKV Sec.c 3 w A c l) (E : Int) (u v : Nat) (hu : qn (sumW (widL B l)) 2329089562800 = u) (hw : qd (sumW (widL B l)) 2329089562800 = v) (hE : (if larB (u : Int) (v : Int) = true then 4 else 0) = E) :
    Calls Tryz.prog 44 #[.slice A l.length c, .int .i64 B] w fun e w' => e = .returned (.tuple #[.agg #[.int .i64 (oz E u), .int .i64 (oz E v)], .int .i64 E]) ∧ Below w.heap.size w w' := by
  obtain ⟨w1, hw1, k1, hb1, hz1⟩ := boxS w (.cells #[.int .i64 0, .int .i64 0] 23)
  have HA := Lib.hid hA
  have HV := Lib.hid hv
  have HE := Lib.hid hE
  have HR := fun w => rfRatio (sumW (widL B l)) 2329089562800 w (Nat.le_trans (sumW_wid hB hv hl) (by decide)) (by decide) (by decide)
  rw [hu, hw] at HR
  clear hA hv hE hu hw
  go_enter Tryz.func44, Tryz.ntmps44
  go_wp2_with fail
  go_loopw [6, 7] (fun s i wr => ∃ k : Nat, k ≤ l.length ∧ i = .int .i64 k ∧ s = .int .i64 ((sumW (widL B (l.take k)) : Nat) : Int) ∧ wr.heap[w.heap.size]? = some (.cells #[.int .i64 0, .int .i64 0] 23 (0, 0)) ∧ Below w.heap.size w wr) (fun _ i _ => l.length - (intOf i).toNat)
  case atStart => exact ⟨0, Nat.zero_le _, rfl, rfl, k1, hb1⟩
  case round =>
    clear k1 hb1
    obtain ⟨k, hk, rfl, rfl, kz, hb⟩ := hrel
    by_cases hlt : k < l.length
    · have hki : (k : Int) < (l.length : Int) := by omega
      have hk0 : (0 : Int) ≤ (k : Int) := by omega
      obtain ⟨b, off, hAe, hBb, c0, c1, c2⟩ := atS (OKV.below HA.out hb).2.2.2 hlt
      subst hAe
      obtain ⟨M, P, D, h1, h2, h3, m1, m2, m3, m4, m5, -⟩ := HV.out k hlt
      have W0 := wdOf (B := B) (M := M) (P := P) (D := D) hB m2 (by omega)
      have hN := sumW_take hB HV.out hl (k + 1)
      have HN := Lib.hid (show sumW (widL B (l.take (k + 1))) = sumW (widL B (l.take k)) + M * (2 * B * 1 * P * (2329089562800 / D)) by
        rw [widL_succ B l hlt, sumW_app]
        simp only [sumW, widE, h1, h2, h3, Int.toNat_natCast]
        omega)
      rw [HN.out] at hN
      rw [h1] at c0
      rw [h2] at c1
      rw [h3] at c2
      generalize sumW (widL B (l.take k)) = S at HN hN ⊢
      obtain ⟨x1, x2, x3, q, e1, e2, e3, e4, e5, b1, b2, b3, b4⟩ := W0
      generalize M * (2 * B * 1 * P * (2329089562800 / D)) = Y at HN hN e5
      have hD0 : ¬ (D : Int) = 0 := by omega
      have hD1 : ((D : Int) != 0) = true := by rw [bne_iff_ne]; omega
      have v1 : IntKind.i64.wrap (x1 : Int) = (x1 : Int) := wr64 (by omega) (by omega)
      have v2 : IntKind.i64.wrap (x2 : Int) = (x2 : Int) := wr64 (by omega) (by omega)
      have v3 : IntKind.i64.wrap (x3 : Int) = (x3 : Int) := wr64 (by omega) (by omega)
      have v4 : IntKind.i64.wrap (q : Int) = (q : Int) := wr64 (by omega) (by omega)
      have v5 : IntKind.i64.wrap (Y : Int) = (Y : Int) := wr64 (by omega) (by omega)
      have v6 : IntKind.i64.wrap ((S : Int) + (Y : Int)) = (S : Int) + (Y : Int) := wr64 (by omega) (by omega)
      clear h1 h2 h3
      go_wp2_with fail
      go_quiet (fail)
      go_wp2_with fail
      go_roundw
      case rel => exact ⟨k + 1, by omega, by go_num, by rw [HN.out]; push_cast; rfl, kz, below_drewN hb _⟩
      case measure => simp [intOf]; omega
    · obtain rfl : k = l.length := by omega
      have hki : ¬ (l.length : Int) < (l.length : Int) := by omega
      rw [List.take_length]
      go_wp2_with fail
      refine (HR _).mono ?_
      rintro e w3 ⟨rfl, hb3⟩
      obtain ⟨w4, hw4, k4, hb4, hz4⟩ := boxS w3 (.cells #[.int .i64 u, .int .i64 v] 23)
      obtain ⟨x0, x1, -, -⟩ := cel2 k4
      have k5 := blkT (blkT kz hb3) hb4
      have hbw := tw (tw hb hb3) hb4
      obtain ⟨q0, q1, q2, q3⟩ := cel2 k5
      by_cases hlb : larB (u : Int) (v : Int) = true
      · have HE4 := Lib.hid (show E = 4 by rw [← HE.out, if_pos hlb])
        obtain ⟨s1, s2⟩ := set2 k5 (.int .i64 0) (.int .i64 0)
        obtain ⟨t0, t1, -, -⟩ := cel2 s1
        have hbf := hbw.grown s2 hbw.size (fun j e => by cases e; exact Nat.le_refl _)
        have hor : 999999999 < (u : Int) ∨ 999999999 < (v : Int) := of_decide_eq_true hlb
        clear hlb
        by_cases a1 : 999999999 < (u : Int)
        · go_wp2
          exact bodyPost_ret (v := .tuple #[.agg #[.int .i64 0, .int .i64 0], .int .i64 4]) (by simp [results, Tryz.results44, go_sem, t0, t1]) rfl ⟨by rw [HE4.out, ozE (by decide), ozE (by decide)], hbf⟩
        · have a2 : 999999999 < (v : Int) := by omega
          clear hor
          go_wp2
          exact bodyPost_ret (v := .tuple #[.agg #[.int .i64 0, .int .i64 0], .int .i64 4]) (by simp [results, Tryz.results44, go_sem, t0, t1]) rfl ⟨by rw [HE4.out, ozE (by decide), ozE (by decide)], hbf⟩
      · have HE4 := Lib.hid (show E = 0 by rw [← HE.out, if_neg hlb])
        have hor : ¬ (999999999 < (u : Int) ∨ 999999999 < (v : Int)) := fun h => hlb (decide_eq_true h)
        have a1 : ¬ 999999999 < (u : Int) := by omega
        have a2 : ¬ 999999999 < (v : Int) := by omega
        obtain ⟨s1, s2⟩ := set2 k5 (.int .i64 u) (.int .i64 v)
        obtain ⟨t0, t1, -, -⟩ := cel2 s1
        have hbf := hbw.grown s2 hbw.size (fun j e => by cases e; exact Nat.le_refl _)
        clear hlb hor
        go_wp2
        exact bodyPost_ret (v := .tuple #[.agg #[.int .i64 u, .int .i64 v], .int .i64 0]) (by simp [results, Tryz.results44, go_sem, t0, t1]) rfl ⟨by rw [HE4.out, oz0, oz0], hbf⟩
end Go.Proofs.YtlkeejhaodedmaaGreatDoor

/- The reference's Marks. -/
namespace Go.Proofs.YtlkeejhaodedmaaGreatDoor
open Go.RowKit

theorem marksN_app (l m : List (Nat × Nat)) : marksN (l ++ m) = marksN l ++ numsL (sumW l) m := by
  simp [marksN, numsL_app]
/-- The marks so far: whole sections, and k meshes of the next one. -/
def mrk (b : Nat) (l : List Sec) (i W k : Nat) : List Rt := (marksN (widL b (l.take i)) ++ (List.range k).map fun j => sumW (widL b (l.take i)) + (j + 1) * W).map markR
theorem mrk_zero (b : Nat) (l : List Sec) (i W : Nat) : mrk b l i W 0 = (marksN (widL b (l.take i))).map markR := by simp [mrk]
theorem mrk_succ (b : Nat) (l : List Sec) (i W k : Nat) : mrk b l i W (k + 1) = mrk b l i W k ++ [markR (sumW (widL b (l.take i)) + (k + 1) * W)] := by simp [mrk, List.range_succ]
theorem mrk_end (b : Nat) (l : List Sec) {i : Nat} (h : i < l.length) {M W : Nat} (e : widE b l[i] = (M, W)) : mrk b l i W M = (marksN (widL b (l.take (i + 1)))).map markR := by
  rw [widL_succ b l h, marksN_snoc, e, mrk]
theorem mrk_len (b : Nat) (l : List Sec) (i W k : Nat) : (mrk b l i W k).length = cntW (widL b (l.take i)) + 1 + k := by
  rw [mrk, List.length_map, List.length_append, marksN_len, List.length_map, List.length_range]
theorem mrk_mem (b : Nat) (l : List Sec) {i : Nat} (h : i < l.length) {M W : Nat} (e : widE b l[i] = (M, W)) {k : Nat} (hk : k < M) : markR (sumW (widL b (l.take i)) + (k + 1) * W) ∈ (marksN (widL b l)).map markR := by
  have e1 : widL b l = widL b (l.take (i + 1)) ++ widL b (l.drop (i + 1)) := by unfold widL; rw [← List.map_append, List.take_append_drop]
  rw [e1, marksN_app, List.map_append]
  refine List.mem_append_left _ ?_
  rw [widL_succ b l h, marksN_snoc, e]
  exact List.mem_map.2 ⟨_, List.mem_append_right _ (List.mem_map.2 ⟨k, List.mem_range.2 hk, rfl⟩), rfl⟩
theorem cntW_le (b : Nat) {l : List Sec} (hv : SecOk l) (i : Nat) : cntW (widL b (l.take i)) ≤ i * 300 := by
  induction i with
  | zero => simp [widL, cntW]
  | succ i ih =>
    rcases Nat.lt_or_ge i l.length with h | h
    · obtain ⟨M, P, D, h1, h2, h3, m1, m2, -⟩ := hv i h
      have e : (widE b l[i]).1 = M := by simp only [widE, h1, Int.toNat_natCast]
      have e2 : cntW [widE b l[i]] = M := by rw [cntW, cntW, e]; rfl
      rw [widL_succ b l h, cntW_app, e2]
      clear e e2
      generalize cntW (widL b (l.take i)) = z at ih ⊢
      omega
    · rw [List.take_of_length_le (by omega)]
      rw [List.take_of_length_le h] at ih
      exact Nat.le_trans ih (Nat.mul_le_mul (Nat.le_succ i) (Nat.le_refl _))
set_option maxHeartbeats 8000000 in
set_option maxRecDepth 100000 in
theorem rfMarksN (A : Option Addr) (c : Nat) (l : List Sec) (B : Nat) (w : World) (hl : l.length ≤ 32) (hv : SecOk l) (hB : B ≤ 100) (hA : OKV Sec.c 3 w A c l) (E : Int) (hE : (if ((marksN (widL B l)).map markR).any larR = true then 4 else 0) = E) :
    Calls Tryz.prog 45 #[.slice A l.length c, .int .i64 B] w (ListP Rt.c 2 (ozL E ((marksN (widL B l)).map markR)) E w) := by
  have HA := Lib.hid hA
  have HV := Lib.hid hv
  have HE := Lib.hid hE
  obtain ⟨i0, hi, hz0, hz1, hz2⟩ := info_parts infoHR
  have HI := Lib.hid hi
  have HZ0 := Lib.hid hz0
  have HZ1 := Lib.hid hz1
  have HZ2 := Lib.hid hz2
  clear hi hz0 hz1 hz2 hA hv hE
  obtain ⟨w1, hw1, k1, hb1, hz1⟩ := boxS w (.cells #[.int .i64 0, .int .i64 1] 23)
  have HO := World.ownsRow_lit (base := w.heap.size) (e := 23) (size := 2) w #[.int .i64 0, .int .i64 1] 1 (Nat.le_refl _) (by unfold maxLen; omega) rfl
  rw [hw1] at HO
  have hm0 : ((marksN (widL B (l.take 0))).map markR).flatMap Rt.c = [.int .i64 0, .int .i64 1] := by
    have e1 : marksN (widL B (l.take 0)) = [0] := by simp [widL, marksN, numsL]
    have e2 : markR 0 = ⟨0, 1⟩ := by
      unfold markR qn qd
      rw [Nat.gcd_zero_left]
      rfl
    rw [e1]
    simp [e2, Rt.c]
  have HO1 := Lib.hid (show w1.ownsRow w.heap.size 23 2 (.slice (some ⟨w.heap.size, 0, none⟩) 1 1) 1 (((marksN (widL B (l.take 0))).map markR).flatMap Rt.c) by rw [hm0]; exact HO)
  have hl0 : (marksN (widL B (l.take 0))).length = 1 := by simp [widL, marksN, numsL]
  have HN0 := Lib.hid (show ∀ x ∈ (marksN (widL B (l.take 0))).map markR, larR x = false by
    have e1 : marksN (widL B (l.take 0)) = [0] := by simp [widL, marksN, numsL]
    rw [e1]
    intro x hx
    simp at hx
    subst hx
    have e2 : markR 0 = ⟨0, 1⟩ := by
      unfold markR qn qd
      rw [Nat.gcd_zero_left]
      rfl
    rw [e2]
    rfl)
  have HL0 := Lib.hid hl0
  clear HO hm0 hl0
  go_enter Tryz.func45, Tryz.ntmps45
  go_wp2_with fail
  go_loopw [6, 7, 8] (fun v s i wr => ∃ k n : Nat, k ≤ l.length ∧ i = .int .i64 k ∧ s = .int .i64 ((sumW (widL B (l.take k)) : Nat) : Int) ∧ Hid ((marksN (widL B (l.take k))).length = n) ∧ Hid (wr.ownsRow w.heap.size 23 2 v n (((marksN (widL B (l.take k))).map markR).flatMap Rt.c)) ∧ Hid (∀ x ∈ (marksN (widL B (l.take k))).map markR, larR x = false) ∧ Below w.heap.size w wr) (fun _ _ i _ => l.length - (intOf i).toNat)
  case atStart => exact ⟨0, 1, Nat.zero_le _, rfl, rfl, HL0, HO1, HN0, hb1⟩
  case round =>
    clear HO1 HN0 HL0 hb1 k1
    obtain ⟨i, n, hik, rfl, rfl, HL, hown, HN, hb⟩ := hrel
    by_cases hlt : i < l.length
    · have hki : (i : Int) < (l.length : Int) := by omega
      have hk0 : (0 : Int) ≤ (i : Int) := by omega
      obtain ⟨M, P, D, h1, h2, h3, m1, m2, m3, m4, m5, -⟩ := HV.out i hlt
      have HC := Lib.hid (fun (X : World) (h : Below w.heap.size w X) => by
        have h' := atS (OKV.below HA.out h).2.2.2 hlt
        rw [h1, h2, h3] at h'
        exact h')
      obtain ⟨W, hW⟩ : ∃ W, 2 * B * 1 * P * (2329089562800 / D) = W := ⟨_, rfl⟩
      have HWE := Lib.hid (show widE B l[i] = (M, W) by rw [← hW]; simp only [widE, h1, h2, h3, Int.toNat_natCast])
      have hwl := (widE_le (b := B) hB h1 h2 h3 m2 m4).2
      rw [show (widE B l[i]).2 = W by rw [HWE.out]] at hwl
      obtain ⟨x1, x2, x3, q, e1, e2, e3, e4, e5, b1, b2, b3, b4⟩ := wdOf (B := B) (M := 1) (P := P) (D := D) hB (by decide) (by omega)
      rw [hW] at e5
      simp only [Nat.one_mul] at e5
      have e2' : x2 = x1 := by
        have : (x1 : Int) * ((1 : Nat) : Int) = (x1 : Int) := Int.mul_one _
        omega
      subst e2'
      clear e2 hW h1 h2 h3
      have hS9 := sumW_take hB HV.out hl (i + 1)
      have HSS := Lib.hid (show sumW (widL B (l.take (i + 1))) = sumW (widL B (l.take i)) + M * W by
        rw [widL_succ B l hlt, sumW_app, HWE.out]
        simp only [sumW]
        omega)
      rw [HSS.out] at hS9
      have hcn := cntW_le B HV.out i
      have hn9 : n = cntW (widL B (l.take i)) + 1 := by rw [← HL.out, marksN_len]
      have hn8 : n ≤ 9601 := by
        have : i * 300 ≤ 32 * 300 := Nat.mul_le_mul (by omega) (Nat.le_refl _)
        omega
      have HL2 := Lib.hid (show ∀ k, (mrk B l i W k).length = n + k from fun k => by rw [mrk_len]; omega)
      have HMS := Lib.hid (mrk_succ B l i W)
      have HME := Lib.hid (mrk_end B l hlt HWE.out)
      have HMM := Lib.hid (fun k (h : k < M) => mrk_mem B l hlt HWE.out h)
      have HST := Lib.hid (show Hid (wr.ownsRow w.heap.size 23 2 u6 n ((mrk B l i W 0).flatMap Rt.c)) ∧ ∀ x ∈ mrk B l i W 0, larR x = false by rw [mrk_zero]; exact ⟨hown, HN.out⟩)
      have HLX := Lib.hid (show (marksN (widL B (l.take (i + 1)))).length = n + M by
        have h2 := HL2.out M
        rw [HME.out, List.length_map] at h2
        exact h2)
      clear hn9 hcn HL hown HN
      generalize sumW (widL B (l.take i)) = S at HSS HMS HMM hS9 ⊢
      go_wp2_with fail
      go_loopw [6, 7, 9] (fun v s j wz => ∃ k : Nat, k ≤ M ∧ j = .int .i64 k ∧ s = .int .i64 ((S + k * W : Nat) : Int) ∧ Hid (wz.ownsRow w.heap.size 23 2 v (n + k) ((mrk B l i W k).flatMap Rt.c)) ∧ Hid (∀ x ∈ mrk B l i W k, larR x = false) ∧ Below w.heap.size w wz) (fun _ _ j _ => M - (intOf j).toNat)
      case atStart => exact ⟨0, Nat.zero_le _, rfl, by rw [Nat.zero_mul]; rfl, HST.out.1, Lib.hid HST.out.2, hb⟩
      case round =>
        clear HST hb
        obtain ⟨k, hkM, rfl, rfl, hown, HN, hb⟩ := hrel
        obtain ⟨b, off, hAe, hBb, c0, c1, c2⟩ := HC.out wr hb
        subst hAe
        by_cases hkl : k < M
        · have hkj : (k : Int) < (M : Int) := by omega
          have hle : (k + 1) * W ≤ M * W := Nat.mul_le_mul (by omega) (Nat.le_refl _)
          have hsum : ((S + k * W : Nat) : Int) + (W : Int) = ((S + (k + 1) * W : Nat) : Int) := by rw [Nat.add_mul]; omega
          have HMk := Lib.hid (HMM.out k hkl)
          have HMSk := Lib.hid (HMS.out k)
          have hR := fun w => rfRatio (S + (k + 1) * W) 2329089562800 w (by omega) (by decide) (by decide)
          have hkw : k * W ≤ M * W := Nat.mul_le_mul (by omega) (Nat.le_refl _)
          have hSk : S + k * W ≤ 4500000000000000000 := by omega
          have hSk1 : S + (k + 1) * W ≤ 4500000000000000000 := by omega
          have HMR : Hid (markR (S + (k + 1) * W) = ⟨(qn (S + (k + 1) * W) 2329089562800 : Nat), (qd (S + (k + 1) * W) 2329089562800 : Nat)⟩) := Lib.hid rfl
          generalize S + k * W = S1 at hsum hSk ⊢
          generalize hS2 : S + (k + 1) * W = S2 at hsum hSk1 hR HMR HMk HMSk
          have HS2 := Lib.hid hS2
          clear hS2
          generalize qn S2 2329089562800 = u at hR HMR
          generalize qd S2 2329089562800 = v at hR HMR
          generalize markR S2 = mk at HMR HMk HMSk
          have hD0 : ¬ (D : Int) = 0 := by omega
          have hD1 : ((D : Int) != 0) = true := by rw [bne_iff_ne]; omega
          have v1 : IntKind.i64.wrap (x2 : Int) = (x2 : Int) := wr64 (by omega) (by omega)
          have v3 : IntKind.i64.wrap (x3 : Int) = (x3 : Int) := wr64 (by omega) (by omega)
          have v4 : IntKind.i64.wrap (q : Int) = (q : Int) := wr64 (by omega) (by omega)
          have v5 : IntKind.i64.wrap (W : Int) = (W : Int) := wr64 (by omega) (by omega)
          have v6 : IntKind.i64.wrap (S2 : Int) = (S2 : Int) := wr64 (by omega) (by omega)
          clear hle hkw
          go_wp2_with fail
          go_quiet (fail)
          have hb5 := below_drewN hb nq
          have hown5 := Lib.hid (ownTo hown.out (below_drewN (Below.refl _ _) nq))
          generalize World.drewN wr nq = w5 at hb5 hown5 ⊢
          clear c0 c1 c2 hb hown
          go_wp2_with fail
          refine (hR _).mono ?_
          rintro e w6 ⟨rfl, hb6⟩
          obtain ⟨w7, hw7, k7, hb7, hz7⟩ := boxS w6 (.cells #[.int .i64 u, .int .i64 v] 23)
          obtain ⟨q0, q1, -, -⟩ := cel2 k7
          have hbf := tw (tw hb5 hb6) hb7
          have hown7 := Lib.hid (ownTo (ownTo hown5.out hb6) hb7)
          clear hb5 hown5 hb6 hb7 hR
          by_cases hbad : 999999999 < (u : Int) ∨ 999999999 < (v : Int)
          · have HE4 := Lib.hid (show E = 4 by
              rw [← HE.out, if_pos]
              refine List.any_eq_true.2 ⟨mk, HMk.out, ?_⟩
              rw [HMR.out, larR, larB]
              exact decide_eq_true hbad)
            by_cases a1 : 999999999 < (u : Int)
            · clear hbad
              go_wp2_with fail
              go_ret2
              exact ⟨none, 0, by rw [HE4.out, ozLE (by decide)]; rfl, by rw [HE4.out, ozLE (by decide)]; exact OKV.none _ _ _, hbf⟩
            · have a2 : 999999999 < (v : Int) := by omega
              clear hbad
              go_wp2_with fail
              go_ret2
              exact ⟨none, 0, by rw [HE4.out, ozLE (by decide)]; rfl, by rw [HE4.out, ozLE (by decide)]; exact OKV.none _ _ _, hbf⟩
          · have a1 : ¬ 999999999 < (u : Int) := by omega
            have a2 : ¬ 999999999 < (v : Int) := by omega
            have HNN := Lib.hid (show ∀ x ∈ mrk B l i W (k + 1), larR x = false by
              rw [HMSk.out]
              intro x hx
              rcases List.mem_append.1 hx with h | h
              · exact HN.out x h
              · rw [List.mem_singleton.1 h, HMR.out, larR, larB]
                exact decide_eq_false hbad)
            have HSN := Lib.hid (show (mrk B l i W (k + 1)).flatMap Rt.c = (mrk B l i W k).flatMap Rt.c ++ [.int .i64 (u : Int), .int .i64 (v : Int)] by
              rw [HMSk.out, List.flatMap_append, HMR.out]
              simp [Rt.c])
            have hbz := hbf.size
            clear hbad
            go_wp2_with (at_builtin; refine wpList_append_own _ rfl _ _ 65 rfl w.heap.size 23 i0 (.agg #[.int .i64 0, .int .i64 0]) 2 16 Tryz.underlying65 HI.out HZ0.out HZ1.out HZ2.out rfl (by decide) _ _ _ rfl (hown7.out.alloc _) ⟨w7.heap.size, 0, none⟩ 1 1 [.int .i64 (u : Int), .int .i64 (v : Int)] rfl rfl (newsH _ _ _) ?c2 ?c3 ?c4 ?c5 ?_)
            case c2 => first | rfl | (intro u hu; simp at hu; rcases hu with rfl | rfl <;> rfl) | simp [Value.oneCell']
            case c3 => unfold maxLen; omega
            case c4 => omega
            case c5 => first | omega | (simp; omega)
            intro v' w10 hown10 hgrow10 _
            have hq10 : Below w.heap.size w w10 := (hbf.alloc hbz (.cells #[.int .i64 (u : Int), .int .i64 (v : Int)] 23)).grown hgrow10 (by simp; omega) (baseOf hown7.out)
            have HO10 := Lib.hid (show w10.ownsRow w.heap.size 23 2 v' (n + (k + 1)) ((mrk B l i W (k + 1)).flatMap Rt.c) by rw [HSN.out]; exact hown10)
            have hSN := hsum
            clear hown10 hgrow10 hown7
            go_wp2
            go_roundw
            case rel => exact ⟨k + 1, by omega, by go_num, by rw [HS2.out], HO10, HNN, hq10⟩
            case measure => simp [intOf]; omega
        · obtain rfl : M = k := by omega
          have hkj : ¬ (M : Int) < (M : Int) := by omega
          have HOW := Lib.hid (show wr.ownsRow w.heap.size 23 2 u6 (n + M) (((marksN (widL B (l.take (i + 1)))).map markR).flatMap Rt.c) by rw [← HME.out]; exact hown.out)
          have HNN := Lib.hid (show ∀ x ∈ (marksN (widL B (l.take (i + 1)))).map markR, larR x = false by rw [← HME.out]; exact HN.out)
          go_wp2_with fail
          go_roundw
          case rel => exact ⟨i + 1, n + M, by omega, by go_num, by rw [HSS.out], HLX, HOW, HNN, hb⟩
          case measure => simp [intOf]; omega
    · obtain rfl : i = l.length := by omega
      have hki : ¬ (l.length : Int) < (l.length : Int) := by omega
      have ho := hown.out
      have hn := HN.out
      have hL := HL.out
      rw [List.take_length] at ho hn hL
      have HE2 := Lib.hid (show E = 0 by
        rw [← HE.out, if_neg]
        intro h
        obtain ⟨x, hx, hq⟩ := List.any_eq_true.1 h
        rw [hn x hx] at hq
        cases hq)
      obtain ⟨av, cv, rfl, hok⟩ := OKV.ownN Rt.c2 ho (by rw [List.length_map]; exact hL)
      have HOK := Lib.hid hok
      have HLL := Lib.hid hL
      clear hok hown ho hn hL
      go_wp2_with fail
      go_ret2
      refine ⟨av, cv, ?_, ?_, hb⟩
      · rw [HE2.out, ozL0, List.length_map, HLL.out]; rfl
      · rw [HE2.out, ozL0]; exact HOK.out
end Go.Proofs.YtlkeejhaodedmaaGreatDoor

/- The law HangRopes. -/
namespace Go.Proofs.YtlkeejhaodedmaaGreatDoor
open Go.RowKit

theorem tie_if (m t : Int) : tieE m t = if rngH m 1 300 = 0 then rngH t 1 m else rngH m 1 300 := by
  unfold tieE
  simp only [fstE]
  repeat' split
  all_goals first | rfl | omega | simp_all
theorem boxP {W : World} (o : Obj) : ∃ g w1, W.heap.size = g ∧ W.alloc o = w1 ∧ w1.heap[g]? = some o ∧ Below g W w1 ∧ g < w1.heap.size := ⟨_, _, rfl, rfl, newBlk _ _, (Below.refl _ _).alloc (Nat.le_refl _) _, by simp⟩
/-- A slice that reads as a list, and nothing below n has changed. -/
def RowsP {α : Type} (cd : α → List Value) (k : Nat) (L : List α) (t : Value) (X : World) : Prop := ∃ a c, t = .slice a L.length c ∧ OKV cd k X a c L
set_option maxHeartbeats 16000000 in
set_option maxRecDepth 100000 in
theorem lawRopesW (A : Option Addr) (c : Nat) (l : List Sec) (b n0 n1 E0 u v EN EM ET : Int) (L : List Rt) (TL : List Int) (w : World) (hT : Tab w) (hA : OKV Sec.c 3 w A c l)
    (h0 : fstE [secsE l, rngH b 1 100] = E0) (hte : (if rngH n0 1 300 = 0 then rngH n1 1 n0 else rngH n0 1 300) = ET)
    (HRp : ∀ A c w, OKV Sec.c 3 w A c l → l.length ≤ 33 → Calls Tryz.prog 39 #[.slice A l.length c, .int .i64 b] w fun e w' => e = .returned (.tuple #[.agg #[.int .i64 u, .int .i64 v], .int .i64 EN]) ∧ Below w.heap.size w w')
    (HMk : ∀ A c w, OKV Sec.c 3 w A c l → l.length ≤ 33 → Calls Tryz.prog 41 #[.slice A l.length c, .int .i64 b] w (ListP Rt.c 2 L EM w))
    (HTi : ∀ w, Calls Tryz.prog 42 #[.int .i64 n0, .int .i64 n1] w (ListP ic 1 TL ET w))
    (RRp : E0 = 0 → ∀ w, OKV Sec.c 3 w A c l → Calls Tryz.prog 44 #[.slice A l.length c, .int .i64 b] w fun e w' => e = .returned (.tuple #[.agg #[.int .i64 u, .int .i64 v], .int .i64 EN]) ∧ Below w.heap.size w w')
    (RMk : E0 = 0 → ∀ w, OKV Sec.c 3 w A c l → Calls Tryz.prog 45 #[.slice A l.length c, .int .i64 b] w (ListP Rt.c 2 L EM w))
    (rro : E0 ≠ 0 → u = 0 ∧ v = 0 ∧ EN = E0 ∧ EM = E0 ∧ L = [])
    (RTi : ET = 0 → ∀ w, Calls Tryz.prog 46 #[.int .i64 n0, .int .i64 n1] w (SliP ic 1 TL w)) (rti : ET ≠ 0 → TL = [])
    (hL : L.length ≤ 100000) (hTL : TL.length ≤ 100000) :
    Calls Tryz.prog 6 #[.slice A l.length c, .int .i64 b, .agg #[.int .i64 n0, .int .i64 n1]] w fun e w' => e = .returned (.bool true) ∧ Below w.heap.size w w' := by
  have H0 := Lib.hid h0
  have HTE := Lib.hid hte
  have HRR := Lib.hid RRp
  have HRM := Lib.hid RMk
  have Hrr := Lib.hid rro
  have HRT := Lib.hid RTi
  have Hrt := Lib.hid rti
  have HLL := Lib.hid hL
  have HTL := Lib.hid hTL
  have HPR := Lib.hid HRp
  have HPM := Lib.hid HMk
  clear h0 hte RRp RMk rro RTi rti hL hTL HRp HMk
  obtain ⟨w1, hw1, k5, hb1, hz1⟩ := boxS w (.cells #[.int .i64 n0, .int .i64 n1] 51)
  have HA := Lib.hid hA
  have HSH := fun w h => rfShortSections A c l w h
  clear hA
  go_enter Tryz.func6, Tryz.ntmps6
  go_wp2_with fail
  refine (HSH _ (OKV.below HA.out hb1)).mono ?_
  rintro e w2 ⟨p, rfl, hp, rfl⟩
  cases p
  · clear hp HSH HTi
    go_wp2_with fail
    refine (awake6 _ (hT.below hb1)).mono ?_
    rintro e w20 ⟨rfl, hb20⟩
    go_wp2
    go_ret
    exact ⟨rfl, tw hb1 hb20⟩
  · have hl : l.length ≤ 33 := hp rfl
    have HCV := fun w h => law_sections A c l w (by omega) h
    have HCS := fun w h => rfCheckSections A c l w (by omega) h
    have HLE := Lib.hid hl
    clear hp HSH hl
    go_wp2_with fail
    refine (HCV _ (OKV.below HA.out hb1)).mono ?_
    rintro e w3 ⟨a3, c3, rfl, h3, hb3⟩
    have H3 := Lib.hid h3
    replace k5 := blkT k5 hb3
    have B := tw hb1 hb3
    clear h3 hb1 hb3
    go_wp2_with fail
    refine (HPR.out _ _ _ H3.out HLE.out).mono ?_
    rintro e w4 ⟨rfl, hb4⟩
    obtain ⟨w5, hw5, k7, hb5, hz5⟩ := boxS w4 (.cells #[.int .i64 u, .int .i64 v] 23)
    replace k5 := blkT (blkT k5 hb4) hb5
    replace B := tw (tw B hb4) hb5
    clear hb4 hb5 H3
    go_wp2_with fail
    refine (HCV _ (OKV.below HA.out B)).mono ?_
    rintro e w6 ⟨a6, c6, rfl, h6, hb6⟩
    have H6 := Lib.hid h6
    replace k5 := blkT k5 hb6
    replace k7 := blkT k7 hb6
    replace B := tw B hb6
    clear h6 hb6
    go_wp2_with fail
    refine (HPM.out _ _ _ H6.out HLE.out).mono ?_
    rintro e w7 ⟨a9, c9, rfl, h9, hb7⟩
    have H9 := Lib.hid h9
    replace k5 := blkT k5 hb7
    replace k7 := blkT k7 hb7
    replace B := tw B hb7
    clear h9 hb7 H6
    obtain ⟨c0, c1, -, -⟩ := cel2 k5
    go_wp2_with fail
    refine (HTi _).mono ?_
    rintro e w8 ⟨a11, c11, rfl, h11, hb8⟩
    have H11 := Lib.hid h11
    replace H9 := Lib.hid (OKV.below H9.out hb8)
    replace k5 := blkT k5 hb8
    replace k7 := blkT k7 hb8
    replace B := tw B hb8
    clear h11 hb8 c0 c1 HTi
    go_wp2_with fail
    refine (HCS _ (OKV.below HA.out B)).mono ?_
    rintro e w9 ⟨rfl, hb9⟩
    go_wp2_with fail
    refine (rfCheckRange _ _ _ _).mono ?_
    rintro e w10 ⟨rfl, rfl⟩
    go_wp2_with fail
    refine (rfFirst2 _ _ _ _ 3 _ (by exact newBlk _ _)).mono ?_
    rintro e w10 ⟨rfl, rfl⟩
    rw [H0.out]
    obtain ⟨w11, hw11, hb11⟩ : ∃ w11, w9.alloc (.cells #[.int .i64 (secsE l), .int .i64 (rngH b 1 100)] 3) = w11 ∧ Below w8.heap.size w8 w11 := ⟨_, rfl, hb9.alloc hb9.size _⟩
    rw [hw11]
    replace H11 := Lib.hid (OKV.below H11.out hb11)
    replace H9 := Lib.hid (OKV.below H9.out hb11)
    replace k5 := blkT k5 hb11
    replace k7 := blkT k7 hb11
    replace B := tw B hb11
    clear hw11 hb9 hb11 HCS HCV
    obtain ⟨c0, c1, -, -⟩ := cel2 k5
    go_wp2_with fail
    refine (rfCheckRange _ _ _ _).mono ?_
    rintro e w12 ⟨rfl, rfl⟩
    obtain ⟨E8, hE8⟩ : ∃ x, rngH n0 1 300 = x := ⟨_, rfl⟩
    rw [hE8] at HTE ⊢
    clear hE8
    go_upto_if 56 with fail
    go_cut [15] (fun s X => s = .int .i64 ET ∧ w11 = X)
    case first =>
      by_cases hE : E8 = 0
      · have hq : (E8 == 0) = true := by rw [hE]; rfl
        have HE1 := Lib.hid (show ET = rngH n1 1 n0 by rw [← HTE.out, if_pos hE])
        replace hE := Lib.hid hE
        go_wp2_with fail
        refine (rfCheckRange _ _ _ _).mono ?_
        rintro e w13 ⟨rfl, rfl⟩
        go_wp2
        go_meet
        exact ⟨by rw [HE1.out], rfl⟩
      · have hq : (E8 == 0) = false := by rw [beq_eq_false_iff_ne]; exact hE
        have HE1 := Lib.hid (show ET = E8 by rw [← HTE.out, if_neg hE])
        replace hE := Lib.hid hE
        go_wp2_with fail
        go_meet
        exact ⟨by rw [HE1.out], rfl⟩
    case rest =>
      obtain ⟨rfl, rfl⟩ := hcut
      obtain ⟨g16, v1, hg16, hv1, k16, hbv1, hzv1⟩ := boxP (W := w11) (.cells #[.int .i64 0, .int .i64 0] 23)
      have z7 := blkSz k7
      have z5' := blkSz k5
      have hbv : Below w11.heap.size w11 v1 := by rw [hg16]; exact hbv1
      have H11w := H11
      have H9w := H9
      have k5w := Lib.hid k5
      have k7w := Lib.hid k7
      have Bw := Lib.hid B
      replace H11 := Lib.hid (OKV.below H11.out hbv)
      replace H9 := Lib.hid (OKV.below H9.out hbv)
      replace k5 := blkT k5 hbv
      replace k7 := blkT k7 hbv
      replace B := tw B hbv
      have HB11 := Lib.hid hbv
      clear hbv hbv1 c0 c1
      go_upto_if 63 with fail
      go_cut [13, 14, 17] (fun s t q X => s = .int .i64 EN ∧ t = .int .i64 EM ∧ RowsP Rt.c 2 L q X ∧ X.heap[g16]? = some (.cells #[.int .i64 u, .int .i64 v] 23 (0, 0)) ∧ Below g16 v1 X)
      case first =>
        by_cases hE : E0 = 0
        · have hq : (E0 == 0) = true := by rw [hE]; rfl
          replace hE := Lib.hid hE
          go_wp2_with fail
          refine (HRR.out hE.out _ (OKV.below HA.out B)).mono ?_
          rintro e x1 ⟨rfl, hx1⟩
          have k16a := blkT k16 hx1
          obtain ⟨q0, q1, q2, q3⟩ := cel2 k16a
          obtain ⟨s1, s2⟩ := set2 k16a (.int .i64 u) (.int .i64 v)
          have hB1 := (hx1.mono (Nat.le_of_lt hzv1)).grown s2 (Nat.le_of_lt (blkSz k16a)) (fun j e => by cases e; exact Nat.le_refl _)
          have hBw := (tw B hx1).grown s2 (tw B hx1).size (fun j e => by cases e; rw [← hg16]; have := HB11.out.size; have := B.size; omega)
          go_wp2_with fail
          generalize (x1.setCell ⟨g16, 0, none⟩ (.int .i64 u)).setCell ⟨g16, 1, none⟩ (.int .i64 v) = x2 at s1 hB1 hBw ⊢
          clear q0 q1 q2 q3 s2 k16a hx1
          refine (HRM.out hE.out _ (OKV.below HA.out hBw)).mono ?_
          rintro e x3 ⟨a17, c17, rfl, h17, hx3⟩
          have H17 := Lib.hid h17
          clear h17
          have hB3 := hB1.trans (hx3.mono (Nat.le_of_lt (blkSz s1)))
          have s3 := blkT s1 hx3
          go_wp2
          go_meet
          exact ⟨rfl, rfl, ⟨a17, c17, rfl, H17.out⟩, s3, hB3⟩
        · have hq : (E0 == 0) = false := by rw [beq_eq_false_iff_ne]; exact hE
          have hz := Lib.hid (Hrr.out hE)
          replace hE := Lib.hid hE
          go_wp2_with fail
          go_meet
          obtain ⟨y1, y2, y3, y4, y5⟩ := hz.out
          exact ⟨by rw [y3], by rw [y4], ⟨none, 0, by rw [y5]; rfl, by rw [y5]; exact OKV.none _ _ _⟩, by rw [y1, y2]; exact k16, Below.refl _ _⟩
      case rest =>
        obtain ⟨rfl, rfl, ⟨a17, c17, rfl, h17⟩, k16, hb⟩ := hcut
        obtain ⟨v4, rfl⟩ : ∃ V, V = wc := ⟨_, rfl⟩
        have H17 := Lib.hid h17
        have hbg : Below w11.heap.size w11 v4 := HB11.out.trans (by rw [hg16]; exact hb)
        have H11 := Lib.hid (OKV.below H11w.out hbg)
        have H9 := Lib.hid (OKV.below H9w.out hbg)
        have k5 := blkT k5w.out hbg
        have k7 := blkT k7w.out hbg
        have B := tw Bw.out hbg
        clear hbg hb h17 HRR HRM Hrr HPR HPM H11w H9w
        obtain ⟨c0, c1, -, -⟩ := cel2 k5
        go_upto_if 77 with fail
        go_cut [18] (fun s X => RowsP ic 1 TL s X ∧ Below v4.heap.size v4 X)
        case first =>
          by_cases hE : ET = 0
          · have hq : (ET == 0) = true := by rw [hE]; rfl
            replace hE := Lib.hid hE
            go_wp2_with fail
            refine (HRT.out hE.out _).mono ?_
            rintro e x1 ⟨a18, c18, rfl, h18, hx1⟩
            have H18 := Lib.hid h18
            clear h18
            go_wp2
            go_meet
            exact ⟨⟨a18, c18, rfl, H18.out⟩, hx1⟩
          · have hq : (ET == 0) = false := by rw [beq_eq_false_iff_ne]; exact hE
            have hz := Lib.hid (Hrt.out hE)
            replace hE := Lib.hid hE
            go_wp2_with fail
            go_meet
            exact ⟨⟨none, 0, by rw [hz.out]; rfl, by rw [hz.out]; exact OKV.none _ _ _⟩, Below.refl _ _⟩
        case rest =>
          obtain ⟨⟨a18, c18, rfl, h18⟩, hb⟩ := hcut
          obtain ⟨v6, rfl⟩ : ∃ V, V = wc := ⟨_, rfl⟩
          have H18 := Lib.hid h18
          replace H17 := Lib.hid (OKV.below H17.out hb)
          replace H11 := Lib.hid (OKV.below H11.out hb)
          replace H9 := Lib.hid (OKV.below H9.out hb)
          replace k7 := blkT k7 hb
          replace k16 := blkT k16 hb
          replace B := tw B hb
          clear h18 hb c0 c1 k5 HRT Hrt HTE
          obtain ⟨c0, c1, -, -⟩ := cel2 k7
          obtain ⟨c2, c3, -, -⟩ := cel2 k16
          have f1 := fun w => eqRat u v u v true (by simp) w
          have hgA := guardRat
          go_wp2_with fail
          refine (rfSameRatios a9 a17 c9 c17 L.length L.length L _ rfl rfl HLL.out H9.out.2.2.2 H17.out.2.2.2).mono ?_
          rintro e x1 ⟨rfl, hx1⟩
          replace H18 := Lib.hid (OKV.below H18.out hx1)
          replace H11 := Lib.hid (OKV.below H11.out hx1)
          replace B := tw B hx1
          clear c0 c1 c2 c3 k7 k16 hx1
          go_wp2_with fail
          refine (rfSameInts a11 a18 c11 c18 TL.length TL.length TL _ rfl rfl HTL.out H11.out.2.2.2 H18.out.2.2.2).mono ?_
          rintro e x2 ⟨rfl, hx2⟩
          replace B := tw B hx2
          go_wp2_with fail
          refine (awake6 _ (hT.below B)).mono ?_
          rintro e w20 ⟨rfl, hb20⟩
          go_wp2
          go_ret
          exact ⟨rfl, tw B hb20⟩
theorem lawHangRopes (A : Option Addr) (c : Nat) (l : List Sec) (b n0 n1 : Int) (w : World) (hT : Tab w) (hA : OKV Sec.c 3 w A c l) :
    Calls Tryz.prog 6 #[.slice A l.length c, .int .i64 b, .agg #[.int .i64 n0, .int .i64 n1]] w fun e w' => e = .returned (.bool true) ∧ Below w.heap.size w w' := by
  refine lawRopesW A c l b n0 n1 (ropE l b) _ _ (ropeE l b) (marE l b) (tieE n0 n1) (ozL (marE l b) (marL l b)) (ozL (tieE n0 n1) (tiesL n0.toNat n1.toNat n1.toNat)) w hT hA rfl (tie_if n0 n1).symm
    (fun A c w h hl => hgRope A c l b w (by omega) h) (fun A c w h hl => hgMarks A c l b w (by omega) h) (fun w => hgTies n0 n1 w) ?_ ?_ ?_ ?_ (fun h => ozLE h _) ?_ ?_
  · intro hz w h
    obtain ⟨r1, r2⟩ := fst2_zero hz
    obtain ⟨l1, l2, hv⟩ := secsE_zero r1
    have g := rngH_zero r2
    obtain ⟨B, rfl⟩ : ∃ B : Nat, b = (B : Int) := ⟨b.toNat, by omega⟩
    have hS : ropS l (B : Int) = sumW (widL B l) := by rw [ropS, Int.toNat_natCast]
    have hE : (if larB ((qn (sumW (widL B l)) 2329089562800 : Nat) : Int) ((qd (sumW (widL B l)) 2329089562800 : Nat) : Int) = true then 4 else 0) = ropeE l (B : Int) := by rw [ropeE, if_pos hz, hS]
    rw [hS]
    exact rfRopeN A c l B w l2 hv (by omega) h _ _ _ rfl rfl hE
  · intro hz w h
    obtain ⟨r1, r2⟩ := fst2_zero hz
    obtain ⟨l1, l2, hv⟩ := secsE_zero r1
    have g := rngH_zero r2
    obtain ⟨B, rfl⟩ : ∃ B : Nat, b = (B : Int) := ⟨b.toNat, by omega⟩
    have hM : marL l (B : Int) = (marksN (widL B l)).map markR := by rw [marL, Int.toNat_natCast]
    have hE : (if ((marksN (widL B l)).map markR).any larR = true then 4 else 0) = marE l (B : Int) := by rw [marE, if_pos hz, hM]
    rw [hM]
    exact rfMarksN A c l B w l2 hv (by omega) h _ hE
  · intro h
    have e1 : ropeE l b = ropE l b := by rw [ropeE, if_neg h]
    have e2 : marE l b = ropE l b := by rw [marE, if_neg h]
    rw [e1, e2]
    exact ⟨ozE h _, ozE h _, rfl, rfl, ozLE h _⟩
  · intro hz w
    have h2 := tie_if n0 n1
    rw [hz] at h2
    by_cases g : rngH n0 1 300 = 0
    · rw [if_pos g] at h2
      have g1 := rngH_zero g
      have g2 := rngH_zero h2.symm
      obtain ⟨M, rfl⟩ : ∃ M : Nat, n0 = (M : Int) := ⟨n0.toNat, by omega⟩
      obtain ⟨T, rfl⟩ : ∃ T : Nat, n1 = (T : Int) := ⟨n1.toNat, by omega⟩
      rw [hz, ozL0]
      simp only [Int.toNat_natCast]
      exact rfTies M T w (by omega) (by omega) (by omega) (by omega)
    · rw [if_neg g] at h2
      exact absurd h2.symm g
  · unfold ozL
    split
    · rename_i hz
      have hr : ropE l b = 0 := by
        rw [marE] at hz
        split at hz
        · assumption
        · exact hz
      obtain ⟨r1, r2⟩ := fst2_zero hr
      obtain ⟨l1, l2, hv⟩ := secsE_zero r1
      have hc := cntW_le b.toNat hv l.length
      rw [List.take_length] at hc
      rw [marL, List.length_map, marksN_len]
      have : l.length * 300 ≤ 32 * 300 := Nat.mul_le_mul l2 (Nat.le_refl _)
      omega
    · simp
  · unfold ozL
    split
    · rename_i hz
      have h2 := tie_if n0 n1
      rw [hz] at h2
      by_cases g : rngH n0 1 300 = 0
      · rw [if_pos g] at h2
        have g1 := rngH_zero g
        have g2 := rngH_zero h2.symm
        rw [tiesL_length]
        omega
      · rw [if_neg g] at h2
        exact absurd h2.symm g
    · simp
end Go.Proofs.YtlkeejhaodedmaaGreatDoor

/- The reference's Compare, Root and Fullest. -/
namespace Go.Proofs.YtlkeejhaodedmaaGreatDoor
open Go.RowKit

set_option maxHeartbeats 1000000 in
set_option maxRecDepth 100000 in
theorem rfCompare (a b c d : Nat) (w : World) (ha : a ≤ 4000000000000) (hb : b ≤ 810000) (hc : c ≤ 4000000000000) (hd : d ≤ 810000) :
    Calls Tryz.prog 35 #[.agg #[.int .i64 a, .int .i64 b], .agg #[.int .i64 c, .int .i64 d]] w fun e w' => e = .returned (.int .i64 (cmpH ((a : Int) * d) ((c : Int) * b))) ∧ Below w.heap.size w w' := by
  have b1 := mulB ha hd
  have b2 := mulB hc hb
  obtain ⟨b10, b11⟩ := b1
  obtain ⟨b20, b21⟩ := b2
  obtain ⟨w1, hw1, k1, hb1, hz1⟩ := boxS w (.cells #[.int .i64 a, .int .i64 b] 24)
  obtain ⟨w2, hw2, k2, hb2, hz2⟩ := boxS w1 (.cells #[.int .i64 c, .int .i64 d] 24)
  obtain ⟨c0, c1, -, -⟩ := cel2 (blkT k1 hb2)
  obtain ⟨d0, d1, -, -⟩ := cel2 k2
  unfold cmpH
  have hB := tw hb1 hb2
  have wx : IntKind.i64.wrap ((a : Int) * (d : Int)) = (a : Int) * (d : Int) := wr64 (by omega) (by omega)
  have wy : IntKind.i64.wrap ((c : Int) * (b : Int)) = (c : Int) * (b : Int) := wr64 (by omega) (by omega)
  by_cases h1 : (a : Int) * d < (c : Int) * b
  · rw [if_pos h1]
    go_enter Tryz.func35, Tryz.ntmps35
    go_wp2_with fail
    go_region
    go_wp2_with fail
    go_ret
    exact ⟨rfl, below_drew hB⟩
  · rw [if_neg h1]
    by_cases h2 : (c : Int) * b < (a : Int) * d
    · rw [if_pos h2]
      go_enter Tryz.func35, Tryz.ntmps35
      go_wp2_with fail
      go_region
      go_wp2_with fail
      go_ret
      exact ⟨rfl, below_drew hB⟩
    · rw [if_neg h2]
      go_enter Tryz.func35, Tryz.ntmps35
      go_wp2_with fail
      go_region
      go_wp2_with fail
      go_ret
      exact ⟨rfl, below_drew hB⟩
theorem tenK_pow {K : Nat} (h : K ≤ 2) : tenK (K : Int) = 10 ^ K := by
  have : K = 0 ∨ K = 1 ∨ K = 2 := by omega
  rcases this with rfl | rfl | rfl <;> rfl
theorem pow_le {j : Nat} (h : j ≤ 2) : 10 ^ j ≤ 100 := by
  have : j = 0 ∨ j = 1 ∨ j = 2 := by omega
  rcases this with rfl | rfl | rfl <;> decide
theorem pow_pos' (j : Nat) : 1 ≤ 10 ^ j := Nat.pos_of_ne_zero (by simp)
set_option maxHeartbeats 4000000 in
set_option maxRecDepth 100000 in
theorem rfRootN (a b K T r u v : Nat) (w : World) (ha : a ≤ 4000000000000) (hb0 : 1 ≤ b) (hb9 : b ≤ 810000) (hk : K ≤ 2) (hT : 10 ^ K = T) (hU : ∀ r', IsRt (a * T * T / b) r' → r' = r)
    (HR : ∀ w, Calls Tryz.prog 81 #[.int .i64 r, .int .i64 T] w fun e w' => e = .returned (.agg #[.int .i64 u, .int .i64 v]) ∧ Below w.heap.size w w') :
    Calls Tryz.prog 36 #[.agg #[.int .i64 a, .int .i64 b], .int .i64 K] w fun e w' => e = .returned (.agg #[.int .i64 u, .int .i64 v]) ∧ Below w.heap.size w w' := by
  have t1 : T ≤ 100 := by rw [← hT]; exact pow_le hk
  have m1 : a * T ≤ 4000000000000 * 100 := Nat.mul_le_mul ha t1
  have m2 : a * T * T ≤ 4000000000000 * 100 * 100 := Nat.mul_le_mul m1 t1
  have m3 : a * T * T / b ≤ 4000000000000 * 100 * 100 := Nat.le_trans (Nat.div_le_self _ _) m2
  have hn : ((a : Int) * (T : Int) * (T : Int)).tdiv (b : Int) = ((a * T * T / b : Nat) : Int) := by rw [← divN]; push_cast; rfl
  have i1 : (a : Int) * (T : Int) = ((a * T : Nat) : Int) := by push_cast; rfl
  have i2 : (a : Int) * (T : Int) * (T : Int) = ((a * T * T : Nat) : Int) := by push_cast; rfl
  have w1 : IntKind.i64.wrap ((a : Int) * (T : Int)) = (a : Int) * (T : Int) := by rw [i1]; exact wr64 (by omega) (by omega)
  have w2 : IntKind.i64.wrap ((a : Int) * (T : Int) * (T : Int)) = (a : Int) * (T : Int) * (T : Int) := by rw [i2]; exact wr64 (by omega) (by omega)
  have hN0 : 0 * 0 ≤ a * T * T / b ∧ a * T * T / b < 1000000000 * 1000000000 := ⟨Nat.zero_le _, Nat.lt_of_le_of_lt m3 (by decide)⟩
  generalize a * T * T / b = N at hU m3 hn hN0
  have HU := Lib.hid hU
  have HT := Lib.hid hT
  have hb1 : ¬ (b : Int) = 0 := by omega
  have hb2 : ((b : Int) != 0) = true := by rw [bne_iff_ne]; omega
  have w3 : IntKind.i64.wrap (N : Int) = (N : Int) := wr64 (by omega) (by omega)
  clear i1 i2 m1 m2 hU hT
  obtain ⟨w1', hw1, k1, hb1', hz1⟩ := boxS w (.cells #[.int .i64 a, .int .i64 b] 24)
  obtain ⟨w2', hw2, k2, hb2', hz2⟩ := boxS w1' (.cells #[.int .i64 0, .int .i64 0] 23)
  obtain ⟨c0, c1, -, -⟩ := cel2 (blkT k1 hb2')
  go_enter Tryz.func36, Tryz.ntmps36
  go_wp2_with fail
  go_loopg [5, 6] K (fun g t i wi => ∃ j : Nat, j ≤ K ∧ g = K - j ∧ t = .int .i64 (10 ^ j : Nat) ∧ i = .int .i64 j ∧ w2' = wi)
  case atStart => exact ⟨0, Nat.zero_le _, by omega, rfl, rfl, rfl⟩
  case round =>
    obtain ⟨j, hj, hg, rfl, rfl, rfl⟩ := hrel
    by_cases hlt : j < K
    · have p1 := pow_le (show j ≤ 2 by omega)
      have HP := Lib.hid (show 10 ^ j * 10 = 10 ^ (j + 1) from (Nat.pow_succ ..).symm)
      generalize 10 ^ j = x at p1 HP
      have hl : (j : Int) < (K : Int) := by omega
      have wx : IntKind.i64.wrap ((x : Int) * 10) = (x : Int) * 10 := wr64 (by omega) (by omega)
      go_wp2_with fail
      go_roundg (K - (j + 1))
      case measure => omega
      case rel => exact ⟨j + 1, by omega, rfl, by rw [← HP.out]; push_cast; rfl, by go_num, rfl⟩
    · obtain rfl : j = K := by omega
      rw [HT.out]
      have hl : ¬ (j : Int) < (j : Int) := by omega
      go_wp2_with fail
      go_loopg [7, 8] 1000000000 (fun g lo hi wi => ∃ x y : Nat, x < y ∧ y ≤ 1000000000 ∧ y ≤ g + x ∧ x * x ≤ N ∧ N < y * y ∧ lo = .int .i64 x ∧ hi = .int .i64 y ∧ w2' = wi)
      case atStart => exact ⟨0, 1000000000, by decide, by decide, by omega, hN0.1, hN0.2, rfl, rfl, rfl⟩
      case round =>
        obtain ⟨x, y, h1, h2, h3, h4, h5, rfl, rfl, rfl⟩ := hrel
        have wd : IntKind.i64.wrap ((y : Int) - (x : Int)) = (y : Int) - (x : Int) := wr64 (by omega) (by omega)
        by_cases hone : x + 1 = y
        · subst hone
          obtain rfl : x = r := HU.out x ⟨h4, h5⟩
          have hc : ¬ (1 : Int) < ((x + 1 : Nat) : Int) - (x : Int) := by omega
          clear h4 h5
          go_wp2_with fail
          refine (HR _).mono ?_
          rintro e w3 ⟨rfl, hb3⟩
          have k3 := blkT k2 hb3
          obtain ⟨q0, q1, q2, q3⟩ := cel2 k3
          obtain ⟨s1, s2⟩ := set2 k3 (.int .i64 u) (.int .i64 v)
          obtain ⟨t0, t1, -, -⟩ := cel2 s1
          have hbw := tw (tw hb1' hb2') hb3
          have hbf := hbw.grown s2 hbw.size (fun j e => by cases e; exact hb1'.size)
          go_wp2
          exact bodyPost_ret (v := .agg #[.int .i64 u, .int .i64 v]) (by simp [results, Tryz.results36, go_sem, t0, t1]) rfl ⟨rfl, hbf⟩
        · have hc : (1 : Int) < (y : Int) - (x : Int) := by omega
          have ws : IntKind.i64.wrap ((x : Int) + (y : Int)) = (x : Int) + (y : Int) := wr64 (by omega) (by omega)
          have hm : ((x : Int) + (y : Int)).tdiv 2 = (((x + y) / 2 : Nat) : Int) := by rw [← divN]; push_cast; rfl
          have hm1 : x < (x + y) / 2 ∧ (x + y) / 2 < y := by omega
          obtain ⟨hm2, hm3⟩ := hm1
          generalize (x + y) / 2 = m at hm hm2 hm3
          have wm : IntKind.i64.wrap (m : Int) = (m : Int) := wr64 (by omega) (by omega)
          have b1 := mulB (show m ≤ 1000000000 by omega) (show m ≤ 1000000000 by omega)
          obtain ⟨b10, b11⟩ := b1
          have wmm : IntKind.i64.wrap ((m : Int) * (m : Int)) = (m : Int) * (m : Int) := wr64 (by omega) (by omega)
          have emm : ((m * m : Nat) : Int) = (m : Int) * (m : Int) := by push_cast; rfl
          by_cases hle : m * m ≤ N
          · have hl : (m : Int) * (m : Int) ≤ (N : Int) := by omega
            have HLE := Lib.hid hle
            have H5 := Lib.hid h5
            clear hle h4 h5 emm
            go_wp2_with fail
            go_roundg (y - m)
            case measure => omega
            case rel => exact ⟨m, y, hm3, h2, by omega, HLE.out, H5.out, rfl, rfl, rfl⟩
          · have hl : ¬ (m : Int) * (m : Int) ≤ (N : Int) := by omega
            have HLE := Lib.hid (show N < m * m by omega)
            have H4 := Lib.hid h4
            clear hle h4 h5 emm
            go_wp2_with fail
            go_roundg (m - x)
            case measure => omega
            case rel => exact ⟨x, m, hm2, by omega, by omega, H4.out, HLE.out, rfl, rfl, rfl⟩
theorem rfRoot (a b : Nat) (k : Int) (w : World) (ha : a ≤ 4000000000000) (hb0 : 1 ≤ b) (hb9 : b ≤ 810000) (hk0 : 0 ≤ k) (hk : k ≤ 2) :
    Calls Tryz.prog 36 #[.agg #[.int .i64 a, .int .i64 b], .int .i64 k] w fun e w' => e = .returned (.agg #[.int .i64 (qn (rtQ a b k) (tenK k) : Nat), .int .i64 (qd (rtQ a b k) (tenK k) : Nat)]) ∧ Below w.heap.size w w' := by
  obtain ⟨K, rfl⟩ : ∃ K : Nat, k = (K : Int) := ⟨k.toNat, by omega⟩
  have hK : K ≤ 2 := by omega
  have t1 := pow_le hK
  have t2 := pow_pos' K
  unfold rtQ
  rw [tenK_pow hK]
  simp only [Int.toNat_natCast]
  have m1 : a * 10 ^ K ≤ 4000000000000 * 100 := Nat.mul_le_mul ha t1
  have m2 : a * 10 ^ K * 10 ^ K ≤ 4000000000000 * 100 * 100 := Nat.mul_le_mul m1 t1
  have m3 : a * 10 ^ K * 10 ^ K / b ≤ 4000000000000 * 100 * 100 := Nat.le_trans (Nat.div_le_self _ _) m2
  have hrl : isq (a * 10 ^ K * 10 ^ K / b) ≤ 1000000000 := isq_le_of (Nat.lt_of_le_of_lt m3 (by decide))
  exact rfRootN a b K _ _ _ _ w ha hb0 hb9 hK rfl (fun r' h => (isq_eq h).symm) (fun w => rfRatio _ _ w (by omega) (by omega) (by omega))
end Go.Proofs.YtlkeejhaodedmaaGreatDoor

/- Roots and decimals: plain mathematics. -/
namespace Go.Proofs.YtlkeejhaodedmaaGreatDoor
open Go.RowKit

theorem IsRt.mono {n m r s : Nat} (h : IsRt n r) (k : IsRt m s) (hn : n ≤ m) : r ≤ s := by
  rcases Nat.lt_or_ge s r with h' | h'
  · have := Nat.mul_le_mul (show s + 1 ≤ r by omega) (show s + 1 ≤ r by omega)
    have := h.1
    have := k.2
    omega
  · exact h'
theorem IsRt.ten {n m r s : Nat} (h : IsRt n r) (k : IsRt m s) (h1 : 100 * n ≤ m) (h2 : m < 100 * (n + 1)) : 10 * r ≤ s ∧ s < 10 * (r + 1) := by
  obtain ⟨a1, a2⟩ := h
  obtain ⟨b1, b2⟩ := k
  constructor
  · rcases Nat.lt_or_ge s (10 * r) with h' | h'
    · have := Nat.mul_le_mul (show s + 1 ≤ 10 * r by omega) (show s + 1 ≤ 10 * r by omega)
      have e : 10 * r * (10 * r) = 100 * (r * r) := by grind
      omega
    · exact h'
  · rcases Nat.lt_or_ge s (10 * (r + 1)) with h' | h'
    · exact h'
    · have := Nat.mul_le_mul h' h'
      have e : 10 * (r + 1) * (10 * (r + 1)) = 100 * ((r + 1) * (r + 1)) := by grind
      omega
theorem dec_step {a b : Nat} (t : Nat) (hb : 0 < b) : 100 * (a * t * t / b) ≤ a * (t * 10) * (t * 10) / b ∧ a * (t * 10) * (t * 10) / b < 100 * (a * t * t / b + 1) := by
  have e : a * (t * 10) * (t * 10) = 100 * (a * t * t) := by grind
  rw [e]
  generalize a * t * t = x
  constructor
  · rw [Nat.le_div_iff_mul_le hb, Nat.mul_assoc]
    exact Nat.mul_le_mul (Nat.le_refl _) (Nat.div_mul_le_self _ _)
  · rw [Nat.div_lt_iff_lt_mul hb, Nat.mul_assoc]
    refine Nat.mul_lt_mul_of_pos_left ?_ (by decide)
    have e1 := Nat.div_add_mod x b
    have := Nat.mod_lt x hb
    rw [Nat.mul_comm] at e1
    rw [Nat.add_mul]
    omega
theorem cross_le {a b c d : Nat} (t : Nat) (hb : 0 < b) (hd : 0 < d) (h : a * d ≤ c * b) : a * t * t / b ≤ c * t * t / d := by
  rw [Nat.le_div_iff_mul_le hd]
  have h1 : a * t * t / b * d * b ≤ c * t * t * b := by
    have h2 := Nat.div_mul_le_self (a * t * t) b
    have h3 : a * t * t / b * d * b = a * t * t / b * b * d := by grind
    have h4 : a * t * t * d ≤ c * t * t * b := by
      have e1 : a * t * t * d = a * d * (t * t) := by grind
      have e2 : c * t * t * b = c * b * (t * t) := by grind
      rw [e1, e2]
      exact Nat.mul_le_mul h (Nat.le_refl _)
    rw [h3]
    exact Nat.le_trans (Nat.mul_le_mul h2 (Nat.le_refl _)) h4
  exact Nat.le_of_mul_le_mul_right h1 hb
theorem qd_all {a b : Nat} (h : 0 < b) : b % qd a b = 0 ∧ 0 < qd a b ∧ qn a b * (b / qd a b) = a ∧ (qn a b).gcd (qd a b) = 1 ∧ qn a b ≤ a ∧ qd a b ≤ b ∧ b / qd a b ≤ b := by
  have hg : 0 < a.gcd b := Nat.gcd_pos_of_pos_right _ h
  obtain ⟨x, hx⟩ := Nat.gcd_dvd_left a b
  obtain ⟨y, hy⟩ := Nat.gcd_dvd_right a b
  have e1 : qn a b = x := by unfold qn; rw [Nat.div_eq_iff_eq_mul_right hg (Nat.gcd_dvd_left a b)]; exact hx
  have e2 : qd a b = y := by unfold qd; rw [Nat.div_eq_iff_eq_mul_right hg (Nat.gcd_dvd_right a b)]; exact hy
  have hy0 : 0 < y := by
    rcases Nat.eq_zero_or_pos y with h0 | h0
    · rw [h0, Nat.mul_zero] at hy; omega
    · exact h0
  have e3 : b / y = a.gcd b := by rw [Nat.div_eq_iff_eq_mul_left hy0 ⟨_, by rw [Nat.mul_comm]; exact hy⟩]; exact hy
  refine ⟨?_, by rw [e2]; exact hy0, ?_, ?_, by unfold qn; exact Nat.div_le_self _ _, by unfold qd; exact Nat.div_le_self _ _, Nat.div_le_self _ _⟩
  · rw [e2]; exact Nat.mod_eq_zero_of_dvd ⟨_, by rw [Nat.mul_comm]; exact hy⟩
  · rw [e1, e2, e3, Nat.mul_comm]; exact hx.symm
  · unfold qn qd; exact Nat.gcd_div_gcd_div_gcd_of_pos_right h
end Go.Proofs.YtlkeejhaodedmaaGreatDoor

/- Sums of widths: what the law HangJoins asks, plain mathematics; its sane and adds. -/
namespace Go.Proofs.YtlkeejhaodedmaaGreatDoor
open Go.RowKit

theorem marks_at (b : Nat) (l : List Sec) {i : Nat} (h : i < l.length) {M W : Nat} (e : widE b l[i] = (M, W)) {k : Nat} (hk : k ≤ M) : (marksN (widL b l))[cntW (widL b (l.take i)) + k]? = some (sumW (widL b (l.take i)) + k * W) := by
  have e1 : widL b l = widL b (l.take (i + 1)) ++ widL b (l.drop (i + 1)) := by unfold widL; rw [← List.map_append, List.take_append_drop]
  have e2 : marksN (widL b (l.take (i + 1))) = marksN (widL b (l.take i)) ++ (List.range M).map fun j => sumW (widL b (l.take i)) + (j + 1) * W := by
    rw [widL_succ b l h, marksN_snoc, e]
  have hl1 := marksN_len (widL b (l.take i))
  have hlast := marksN_last (widL b (l.take i))
  rw [e1, marksN_app, e2]
  generalize numsL (sumW (widL b (l.take (i + 1)))) (widL b (l.drop (i + 1))) = R
  generalize marksN (widL b (l.take i)) = A at hl1 hlast ⊢
  generalize sumW (widL b (l.take i)) = S at hlast ⊢
  generalize cntW (widL b (l.take i)) = c at hl1 hlast ⊢
  rw [List.append_assoc]
  rcases Nat.eq_zero_or_pos k with h0 | h0
  · subst h0
    rw [Nat.add_zero, List.getElem?_append_left (by omega), hlast, Nat.zero_mul, Nat.add_zero]
  · rw [List.getElem?_append_right (by omega), hl1, List.getElem?_append_left (by rw [List.length_map, List.length_range]; omega), List.getElem?_map, List.getElem?_range (by omega)]
    have : c + k - (c + 1) + 1 = k := by omega
    simp only [Option.map_some]
    rw [this]
def whole : Nat := 2329089562800
theorem whole_dvd : ∀ d : Fin 30, 2329089562800 % (d.val + 1) = 0 := by decide +kernel
theorem whole_mul {d : Nat} (h1 : 1 ≤ d) (h2 : d ≤ 30) : d * (2329089562800 / d) = 2329089562800 := by
  have h := whole_dvd ⟨d - 1, by omega⟩
  simp only [show d - 1 + 1 = d by omega] at h
  have := Nat.div_add_mod 2329089562800 d
  omega
theorem dvd_mul_div {a b c : Nat} (h1 : a % b = 0) (h2 : b % c = 0) (hb : 0 < b) (hc : 0 < c) : a / c = a / b * (b / c) := by
  obtain ⟨x, rfl⟩ := Nat.dvd_of_mod_eq_zero h1
  obtain ⟨y, rfl⟩ := Nat.dvd_of_mod_eq_zero h2
  rw [Nat.mul_div_cancel_left _ hc, Nat.mul_div_cancel_left _ hb, Nat.mul_assoc, Nat.mul_div_cancel_left _ hc, Nat.mul_comm]
/-- The parts of a sum of widths. -/
structure Prt (N n d : Nat) : Prop where
  h1 : 2329089562800 % d = 0
  h2 : 0 < d
  h3 : n * (2329089562800 / d) = N
  h4 : n ≤ 2000000 * d
  h5 : d ≤ 2329089562800
theorem prt_mark {N : Nat} (h : N ≤ 4500000000000000000) : Prt N (qn N 2329089562800) (qd N 2329089562800) := by
  obtain ⟨a1, a2, a3, a4, a5, a6, a7⟩ := qd_all (a := N) (b := 2329089562800) (by decide)
  refine ⟨a1, a2, a3, ?_, a6⟩
  unfold qn qd
  have hg : 0 < N.gcd 2329089562800 := Nat.gcd_pos_of_pos_right _ (by decide)
  obtain ⟨y, hy⟩ := Nat.gcd_dvd_right N 2329089562800
  have e : 2329089562800 / N.gcd 2329089562800 = y := by rw [Nat.div_eq_iff_eq_mul_right hg (Nat.gcd_dvd_right _ _)]; exact hy
  rw [e]
  refine Nat.le_of_lt_succ ((Nat.div_lt_iff_lt_mul hg).2 ?_)
  have : (2000000 * y).succ * N.gcd 2329089562800 = 2000000 * (N.gcd 2329089562800 * y) + N.gcd 2329089562800 := by grind
  rw [this, ← hy]
  omega
theorem prt_width {B P D : Nat} (hB : B ≤ 100) (hP : P ≤ D) (h1 : 1 ≤ D) (h2 : D ≤ 30) (M : Nat) (hM : M ≤ 300) : Prt (M * (2 * B * 1 * P * (2329089562800 / D))) (qn (2 * B * M * P) D) (qd (2 * B * M * P) D) := by
  obtain ⟨a1, a2, a3, a4, a5, a6, a7⟩ := qd_all (a := 2 * B * M * P) (b := D) (by omega)
  have hw := whole_mul h1 h2
  have hd : 2329089562800 % D = 0 := by rw [← hw]; exact Nat.mul_mod_right _ _
  obtain ⟨x, hx⟩ := Nat.dvd_of_mod_eq_zero a1
  refine ⟨?_, a2, ?_, ?_, by omega⟩
  · refine Nat.mod_eq_zero_of_dvd (Nat.dvd_trans ⟨x, hx⟩ (Nat.dvd_of_mod_eq_zero hd))
  · rw [dvd_mul_div hd a1 (by omega) a2]
    generalize 2329089562800 / D = q at *
    have : qn (2 * B * M * P) D * (q * (D / qd (2 * B * M * P) D)) = qn (2 * B * M * P) D * (D / qd (2 * B * M * P) D) * q := by grind
    rw [this, a3]
    grind
  · have h3 : 2 * B * M * P ≤ 2 * 100 * 300 * 30 := Nat.mul_le_mul (Nat.mul_le_mul (Nat.mul_le_mul (Nat.le_refl 2) hB) hM) (by omega)
    omega
theorem one_rope {B P D M : Nat} (h1 : 1 ≤ D) (h2 : D ≤ 30) : qn (M * (2 * B * 1 * P * (2329089562800 / D))) 2329089562800 = qn (2 * B * M * P) D ∧ qd (M * (2 * B * 1 * P * (2329089562800 / D))) 2329089562800 = qd (2 * B * M * P) D := by
  have hw := whole_mul h1 h2
  have hq : 0 < 2329089562800 / D := by
    rcases Nat.eq_zero_or_pos (2329089562800 / D) with h | h
    · rw [h] at hw; omega
    · exact h
  generalize 2329089562800 / D = q at hw hq ⊢
  have e : M * (2 * B * 1 * P * q) = 2 * B * M * P * q := by grind
  rw [e, ← hw]
  unfold qn qd
  rw [Nat.gcd_mul_right, Nat.mul_div_mul_right _ _ hq, Nat.mul_div_mul_right _ _ hq]
  exact ⟨rfl, rfl⟩
set_option maxHeartbeats 1000000 in
set_option maxRecDepth 100000 in
theorem lawSane (n d : Nat) (w : World) (h1 : n ≤ 999999999) (h2 : 0 < d) (h3 : d ≤ 999999999) :
    Calls Tryz.prog 67 #[.agg #[.int .i64 n, .int .i64 d]] w fun e w' => e = .returned (.bool true) ∧ Below w.heap.size w w' := by
  obtain ⟨w1, hw1, k1, hb1, hz1⟩ := boxS w (.cells #[.int .i64 n, .int .i64 d] 23)
  obtain ⟨c0, c1, -, -⟩ := cel2 k1
  have a1 : (0 : Int) ≤ (n : Int) := by omega
  have a2 : (n : Int) ≤ 999999999 := by omega
  have a3 : (0 : Int) < (d : Int) := by omega
  have a4 : (d : Int) ≤ 999999999 := by omega
  go_enter Tryz.func67, Tryz.ntmps67
  go_wp2_with fail
  go_ret
  exact ⟨rfl, hb1⟩
set_option maxHeartbeats 2000000 in
set_option maxRecDepth 100000 in
theorem lawAdds (n d n' d' n2 d2 N N' : Nat) (w : World) (p : Prt N n d) (p' : Prt N' n' d') (p2 : Prt (N + N') n2 d2) (hN : N + N' ≤ 4500000000000000000) :
    Calls Tryz.prog 68 #[.agg #[.int .i64 n, .int .i64 d], .agg #[.int .i64 n', .int .i64 d'], .agg #[.int .i64 n2, .int .i64 d2]] w fun e w' => e = .returned (.bool true) ∧ Below w.heap.size w w' := by
  obtain ⟨a1, a2, a3, a4, a5⟩ := p
  obtain ⟨b1, b2, b3, b4, b5⟩ := p'
  obtain ⟨c1, c2, c3, c4, c5⟩ := p2
  have m1 : (2329089562800 : Int).tmod (d : Int) = 0 := by rw [show (2329089562800 : Int) = ((2329089562800 : Nat) : Int) from rfl, modN, a1]; rfl
  have m2 : (2329089562800 : Int).tmod (d' : Int) = 0 := by rw [show (2329089562800 : Int) = ((2329089562800 : Nat) : Int) from rfl, modN, b1]; rfl
  have m3 : (2329089562800 : Int).tmod (d2 : Int) = 0 := by rw [show (2329089562800 : Int) = ((2329089562800 : Nat) : Int) from rfl, modN, c1]; rfl
  have q1 : (2329089562800 : Int).tdiv (d : Int) = ((2329089562800 / d : Nat) : Int) := divN _ _
  have q2 : (2329089562800 : Int).tdiv (d' : Int) = ((2329089562800 / d' : Nat) : Int) := divN _ _
  have q3 : (2329089562800 : Int).tdiv (d2 : Int) = ((2329089562800 / d2 : Nat) : Int) := divN _ _
  have x1 : 2329089562800 / d ≤ 2329089562800 := Nat.div_le_self _ _
  have x2 : 2329089562800 / d' ≤ 2329089562800 := Nat.div_le_self _ _
  have x3 : 2329089562800 / d2 ≤ 2329089562800 := Nat.div_le_self _ _
  have e1 : (n : Int) * ((2329089562800 / d : Nat) : Int) = (N : Int) := by rw [← Int.natCast_mul, a3]
  have e2 : (n' : Int) * ((2329089562800 / d' : Nat) : Int) = (N' : Int) := by rw [← Int.natCast_mul, b3]
  have e3 : (n2 : Int) * ((2329089562800 / d2 : Nat) : Int) = (N : Int) + (N' : Int) := by
    rw [← Int.natCast_mul, c3, Int.natCast_add]
  clear a1 b1 c1 a3 b3 c3
  generalize 2329089562800 / d = y1 at q1 x1 e1
  generalize 2329089562800 / d' = y2 at q2 x2 e2
  generalize 2329089562800 / d2 = y3 at q3 x3 e3
  have v1 : IntKind.i64.wrap (y1 : Int) = (y1 : Int) := wr64 (by omega) (by omega)
  have v2 : IntKind.i64.wrap (y2 : Int) = (y2 : Int) := wr64 (by omega) (by omega)
  have v3 : IntKind.i64.wrap (y3 : Int) = (y3 : Int) := wr64 (by omega) (by omega)
  have v4 : IntKind.i64.wrap (N : Int) = (N : Int) := wr64 (by omega) (by omega)
  have v5 : IntKind.i64.wrap (N' : Int) = (N' : Int) := wr64 (by omega) (by omega)
  have v6 : IntKind.i64.wrap ((N : Int) + (N' : Int)) = (N : Int) + (N' : Int) := wr64 (by omega) (by omega)
  have v7 : IntKind.i64.wrap (2000000 * (d : Int)) = 2000000 * (d : Int) := wr64 (by omega) (by omega)
  have v8 : IntKind.i64.wrap (2000000 * (d' : Int)) = 2000000 * (d' : Int) := wr64 (by omega) (by omega)
  have v9 : IntKind.i64.wrap (2000000 * (d2 : Int)) = 2000000 * (d2 : Int) := wr64 (by omega) (by omega)
  have r1 : ¬ 2000000 * (d : Int) < (n : Int) := by omega
  have r2 : ¬ 2000000 * (d' : Int) < (n' : Int) := by omega
  have r3 : ¬ 2000000 * (d2 : Int) < (n2 : Int) := by omega
  have s1 : ¬ (d : Int) = 0 := by omega
  have s2 : ¬ (d' : Int) = 0 := by omega
  have s3 : ¬ (d2 : Int) = 0 := by omega
  have s4 : ((d : Int) != 0) = true := by rw [bne_iff_ne]; exact s1
  have s5 : ((d' : Int) != 0) = true := by rw [bne_iff_ne]; exact s2
  have s6 : ((d2 : Int) != 0) = true := by rw [bne_iff_ne]; exact s3
  obtain ⟨w1, hw1, k1, hb1, hz1⟩ := boxS w (.cells #[.int .i64 n, .int .i64 d] 23)
  obtain ⟨w2, hw2, k2, hb2, hz2⟩ := boxS w1 (.cells #[.int .i64 n', .int .i64 d'] 23)
  obtain ⟨w3, hw3, k3, hb3, hz3⟩ := boxS w2 (.cells #[.int .i64 n2, .int .i64 d2] 23)
  obtain ⟨g0, g1, -, -⟩ := cel2 (blkT (blkT k1 hb2) hb3)
  obtain ⟨g2, g3, -, -⟩ := cel2 (blkT k2 hb3)
  obtain ⟨g4, g5, -, -⟩ := cel2 k3
  have B := tw (tw hb1 hb2) hb3
  clear a4 b4 c4 hN
  go_enter Tryz.func68, Tryz.ntmps68
  go_wp2_with fail
  go_quiet (fail)
  go_wp2_with fail
  go_ret
  exact ⟨rfl, below_drewN B _⟩
end Go.Proofs.YtlkeejhaodedmaaGreatDoor

/- The law HangJoins: what it reads and calls. -/
namespace Go.Proofs.YtlkeejhaodedmaaGreatDoor
open Go.RowKit

theorem okv_take {α : Type} {enc : α → List Value} {k : Nat} {w : World} {A : Option Addr} {c : Nat} {l : List α} (h : OKV enc k w A c l) (n : Nat) : OKV enc k w A c (l.take n) :=
  ⟨Nat.le_trans (by rw [List.length_take]; omega) h.1, h.2.1, h.2.2.1, h.2.2.2.take n⟩
theorem okv_drop {α : Type} {enc : α → List Value} {k : Nat} {w : World} {b off : Nat} {c : Nat} {l : List α} (h : OKV enc k w (some ⟨b, off, none⟩) c l) (n : Nat) (hn : n ≤ l.length) : OKV enc k w (some ⟨b, off + n * k, none⟩) (c - n) (l.drop n) := by
  refine ⟨?_, ?_, (fun h => by cases h), fun hp => ?_⟩
  · have := h.1
    rw [List.length_drop]
    omega
  · have := h.2.1
    omega
  · rw [List.length_drop] at hp
    obtain ⟨b', off', e, hB, hc⟩ := h.2.2.2 (by omega)
    injection e with e
    injection e with e1 e2
    subst e1 e2
    refine ⟨b, off + n * k, rfl, hB, fun i hi j u hu => ?_⟩
    rw [List.length_drop] at hi
    rw [List.getElem_drop] at hu
    have h2 := hc (n + i) (by omega) j u hu
    rw [Nat.add_mul] at h2
    rw [show off + n * k + i * k + j = off + (n * k + i * k) + j by omega]
    exact h2
theorem widthN (P D B M : Nat) (w : World) (h1 : 1 ≤ P) (h2 : P ≤ D) (h3 : D ≤ 30) (hg : P.gcd D = 1) (hB1 : 1 ≤ B) (hB : B ≤ 100) (hM1 : 1 ≤ M) (hM : M ≤ 300) :
    Calls Tryz.prog 24 #[.agg #[.int .i64 P, .int .i64 D], .int .i64 B, .int .i64 M] w fun e w' => e = .returned (.tuple #[.agg #[.int .i64 (qn (2 * B * M * P) D : Nat), .int .i64 (qd (2 * B * M * P) D : Nat)], .int .i64 0]) ∧ Below w.heap.size w w' := by
  have h := hgWidth (P : Int) (D : Int) (B : Int) (M : Int) w
  have e0 : hunH (P : Int) (D : Int) (B : Int) (M : Int) = 0 := by
    unfold hunH ratH
    simp only [fstE, rngH, Int.toNat_natCast, hg]
    repeat' split
    all_goals first | rfl | omega | simp_all
  rw [e0] at h
  simp only [oz0, Int.toNat_natCast] at h
  exact h
theorem marL_len (l : List Sec) (b : Int) : (marL l b).length = totM l + 1 := by
  rw [marL, List.length_map, marksN_len, cntW_wid]
/-- What a rope that has no error is. -/
structure Jn (l : List Sec) (B : Nat) : Prop where
  ok : SecOk l
  n1 : 1 ≤ l.length
  n2 : l.length ≤ 32
  b1 : 1 ≤ B
  b2 : B ≤ 100
  small : ∀ x ∈ marL l (B : Int), larR x = false
theorem jn_of {l : List Sec} {b : Int} (h1 : secsE l = 0) (h2 : rngH b 1 100 = 0) (h3 : marE l b = 0) : ∃ B : Nat, b = (B : Int) ∧ Jn l B := by
  obtain ⟨l1, l2, hv⟩ := secsE_zero h1
  have g := rngH_zero h2
  refine ⟨b.toNat, by omega, hv, l1, l2, by omega, by omega, ?_⟩
  rw [Int.toNat_of_nonneg (by omega)]
  have hz : ropE l b = 0 := by unfold ropE; rw [h1, h2]; rfl
  rw [marE, if_pos hz] at h3
  intro x hx
  cases hq : larR x with
  | false => rfl
  | true =>
    rw [if_pos (List.any_eq_true.2 ⟨x, hx, hq⟩)] at h3
    cases h3
theorem ropE_of {l : List Sec} {B : Nat} (h : Jn l B) {m : List Sec} (hm : SecOk m) (h1 : 1 ≤ m.length) (h2 : m.length ≤ 32) : ropE m (B : Int) = 0 := by
  have hs : secsE m = 0 := by
    unfold secsE
    rw [if_neg (by omega), if_neg (by omega)]
    have key : ∀ (r bf : List Sec), (∀ s ∈ r, secE s = 0) → lstE (fun _ s => secE s) bf r = 0 := by
      intro r
      induction r with
      | nil => intro bf _; rfl
      | cons x r ih => intro bf hx; rw [lstE, if_pos (hx x (by simp))]; exact ih _ fun s hs => hx s (by simp [hs])
    refine key m [] fun s hs => ?_
    obtain ⟨i, hi, rfl⟩ := List.getElem_of_mem hs
    obtain ⟨M, P, D, e1, e2, e3, v1, v2, v3, v4, v5, v6⟩ := hm i hi
    unfold secE ratH
    rw [e1, e2, e3]
    simp only [fstE, rngH, Int.toNat_natCast, v6]
    repeat' split
    all_goals first | rfl | omega | simp_all
  have hr : rngH (B : Int) 1 100 = 0 := by
    have := h.b1
    have := h.b2
    unfold rngH
    split
    · omega
    · rfl
  unfold ropE
  rw [hs, hr]
  rfl
theorem small_sum {l : List Sec} {B : Nat} (h : Jn l B) {i k M W : Nat} (hi : i < l.length) (e : widE B l[i] = (M, W)) (hk : k ≤ M) : larR (markR (sumW (widL B (l.take i)) + k * W)) = false := by
  refine h.small _ ?_
  rw [marL, Int.toNat_natCast]
  exact List.mem_map.2 ⟨_, List.mem_of_getElem? (marks_at B l hi e hk), rfl⟩
theorem secOk_drop {l : List Sec} (h : SecOk l) (k : Nat) : SecOk (l.drop k) := fun i hi => by
  rw [List.getElem_drop]
  exact h (k + i) (by rw [List.length_drop] at hi; omega)
/-- A part from the beginning has no error. -/
theorem marE_take {l : List Sec} {B : Nat} (h : Jn l B) {k : Nat} (h1 : 1 ≤ k) (h2 : k ≤ l.length) : marE (l.take k) (B : Int) = 0 ∧ marL (l.take k) (B : Int) = (marL l (B : Int)).take (totM (l.take k) + 1) := by
  have hz := ropE_of h (secOk_take h.ok k) (by rw [List.length_take]; omega) (by rw [List.length_take]; have := h.n2; omega)
  have e1 : widL B l = widL B (l.take k) ++ widL B (l.drop k) := by unfold widL; rw [← List.map_append, List.take_append_drop]
  have hL : marL (l.take k) (B : Int) = (marL l (B : Int)).take (totM (l.take k) + 1) := by
    rw [marL, marL, Int.toNat_natCast, e1, marksN_app, List.map_append]
    exact (List.take_left' (by rw [List.length_map, marksN_len, cntW_wid])).symm
  refine ⟨?_, hL⟩
  rw [marE, if_pos hz, if_neg]
  intro hany
  obtain ⟨x, hx, hq⟩ := List.any_eq_true.1 hany
  rw [hL] at hx
  rw [h.small x (List.mem_of_mem_take hx)] at hq
  cases hq
theorem ropeE_jn {l : List Sec} {B : Nat} (h : Jn l B) : ropeE l (B : Int) = 0 := by
  have hz := ropE_of h h.ok h.n1 h.n2
  rw [ropeE, if_pos hz, if_neg]
  intro hl
  have hm := marksN_last (widL B l)
  have h2 := h.small (markR (sumW (widL B l))) (by rw [marL, Int.toNat_natCast]; exact List.mem_map.2 ⟨_, List.mem_of_getElem? hm, rfl⟩)
  rw [ropS, Int.toNat_natCast] at hl
  rw [larR, markR] at h2
  rw [hl] at h2
  cases h2
end Go.Proofs.YtlkeejhaodedmaaGreatDoor
