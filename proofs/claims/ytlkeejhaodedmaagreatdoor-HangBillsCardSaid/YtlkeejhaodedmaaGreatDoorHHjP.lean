/- HangBills: Bill returns what the reference returns, or its first error, for all tables and lines that the statement asks about. -/
import Derived.Test.YtlkeejhaodedmaaGreatDoorH4
import Derived.BigQuiet
import Derived.Deep.DeepCutAuto
import Derived.StillTailTactics
import Derived.Deep.Slices
import Derived.Deep.Fields
/- The law HangWeights. -/
namespace Go.Proofs.YtlkeejhaodedmaaGreatDoor
open Go.RowKit

set_option maxHeartbeats 400000 in
theorem rfCheckRange (n lo hi : Int) (w : World) :
    Calls Tryz.prog 27 #[.int .i64 n, .int .i64 lo, .int .i64 hi] w fun e w' => e = .returned (.int .i64 (rngH n lo hi)) ∧ w = w' := by
  unfold rngH
  by_cases h1 : n < lo
  · go_enter Tryz.func27, Tryz.ntmps27
    go_wp2
    go_ret
    simp
  · by_cases h2 : hi < n
    all_goals
      go_enter Tryz.func27, Tryz.ntmps27
      go_wp2
      go_ret
      simp <;> omega
set_option maxHeartbeats 400000 in
theorem rfFirst (b c : Nat) (es : List Int) (w : World) (hn : es.length ≤ 100) (hc : ∀ i (h : i < es.length), w.cell? ⟨b, i, none⟩ = some (.int .i64 es[i])) :
    Calls Tryz.prog 26 #[.slice (some ⟨b, 0, none⟩) es.length c] w fun e w' => e = .returned (.int .i64 (fstE es)) ∧ w = w' := by
  have HC := Lib.hid hc
  have hn' : (es.length : Int) ≤ 100 := by omega
  clear hc
  go_enter Tryz.func26, Tryz.ntmps26
  go_wp2_with fail
  go_loop [3] (fun i => ∃ k : Nat, k ≤ es.length ∧ i = .int .i64 k ∧ fstE es = fstE (es.drop k)) (fun i => es.length - (intOf i).toNat)
  case atStart => exact ⟨0, Nat.zero_le _, rfl, rfl⟩
  case round =>
    obtain ⟨k, hk, rfl, he⟩ := hrel
    have HE := Lib.hid he
    clear he
    by_cases hlt : k < es.length
    · have hcell := HC.out k hlt
      by_cases hz : es[k] = 0
      · have HF := Lib.hid (show fstE (es.drop k) = fstE (es.drop (k + 1)) by
          rw [List.drop_eq_getElem_cons hlt]
          simp only [fstE, hz, if_true])
        rw [hz] at hcell
        clear hz
        go_wp2
        go_round
        case rel => exact ⟨k + 1, by omega, by go_num, HE.out.trans HF.out⟩
        case measure => simp [intOf]; omega
      · have HF := Lib.hid (show fstE (es.drop k) = es[k] by
          rw [List.drop_eq_getElem_cons hlt]
          simp only [fstE, if_neg hz])
        have hz1 : (es[k] != 0) = true := by rw [bne_iff_ne]; exact hz
        clear hz
        go_wp2
        go_ret
        exact ⟨ret_i (HE.out.trans HF.out).symm, rfl⟩
    · obtain rfl : k = es.length := by omega
      have HF := Lib.hid (show fstE (es.drop es.length) = 0 by rw [List.drop_length]; rfl)
      go_wp2
      go_ret
      exact ⟨ret_i (HE.out.trans HF.out).symm, rfl⟩
theorem rfFirst2 (g d : Nat) (a b : Int) (t : TypeId) (w : World) (h : w.heap[g]? = some (.cells #[.int .i64 a, .int .i64 b] t (0, 0))) :
    Calls Tryz.prog 26 #[.slice (some ⟨g, 0, none⟩) 2 d] w fun e w' => e = .returned (.int .i64 (fstE [a, b])) ∧ w = w' :=
  rfFirst g d [a, b] w (by simp) (errs2 h)
theorem rfFirst4 (g d : Nat) (a b c e' : Int) (t : TypeId) (w : World) (h : w.heap[g]? = some (.cells #[.int .i64 a, .int .i64 b, .int .i64 c, .int .i64 e'] t (0, 0))) :
    Calls Tryz.prog 26 #[.slice (some ⟨g, 0, none⟩) 4 d] w fun e w' => e = .returned (.int .i64 (fstE [a, b, c, e'])) ∧ w = w' :=
  rfFirst g d [a, b, c, e'] w (by simp) (errs4 h)
set_option maxHeartbeats 1000000 in
set_option maxRecDepth 100000 in
theorem rfCheckCounts (b k r a : Int) (w : World) :
    Calls Tryz.prog 57 #[.int .i64 b, .int .i64 k, .int .i64 r, .int .i64 a] w fun e w' => e = .returned (.int .i64 (lenE b k r a)) ∧ Below w.heap.size w w' := by
  have HE := Lib.hid (show fstE [rngH b 0 100000, rngH k 0 100000, rngH r 1 100, rngH a 0 100] = lenE b k r a from rfl)
  generalize lenE b k r a = E at HE ⊢
  go_enter Tryz.func57, Tryz.ntmps57
  go_wp2_with fail
  refine (rfCheckRange _ _ _ _).mono ?_
  rintro e w2 ⟨rfl, rfl⟩
  go_wp2_with fail
  refine (rfCheckRange _ _ _ _).mono ?_
  rintro e w2 ⟨rfl, rfl⟩
  go_wp2_with fail
  refine (rfCheckRange _ _ _ _).mono ?_
  rintro e w2 ⟨rfl, rfl⟩
  go_wp2_with fail
  refine (rfCheckRange _ _ _ _).mono ?_
  rintro e w2 ⟨rfl, rfl⟩
  go_wp2_with fail
  refine (rfFirst4 _ _ _ _ _ _ 3 _ (by exact newBlk _ _)).mono ?_
  rintro e w2 ⟨rfl, rfl⟩
  rw [HE.out]
  go_wp2
  go_ret
  exact ⟨rfl, (Below.refl _ _).alloc (Nat.le_refl _) _⟩
set_option maxHeartbeats 400000 in
theorem rfLength (b k r a : Nat) (w : World) (hb : b ≤ 100000) (hk : k ≤ 100000) (hr : r ≤ 100) (ha : a ≤ 100) :
    Calls Tryz.prog 58 #[.int .i64 b, .int .i64 k, .int .i64 r, .int .i64 a] w fun e w' => e = .returned (.int .i64 (lenN b k r a : Nat)) ∧ w = w' := by
  obtain ⟨b10, b11⟩ := mulB hb hr
  obtain ⟨b20, b21⟩ := mulB hk ha
  have HE := Lib.hid (show (b : Int) * r + (k : Int) * a = (lenN b k r a : Nat) by unfold lenN; push_cast; rfl)
  have w1 : IntKind.i64.wrap ((b : Int) * r) = (b : Int) * r := wr64 (by omega) (by omega)
  have w2 : IntKind.i64.wrap ((k : Int) * a) = (k : Int) * a := wr64 (by omega) (by omega)
  have w3 : IntKind.i64.wrap ((b : Int) * r + (k : Int) * a) = (b : Int) * r + (k : Int) * a := wr64 (by omega) (by omega)
  go_enter Tryz.func58, Tryz.ntmps58
  go_wp2
  go_ret
  exact ⟨ret_i HE.out, rfl⟩
set_option maxHeartbeats 1000000 in
theorem rfWeight (l t : Nat) (w : World) (hl : l ≤ 2000000000) (ht : t ≤ 100000) :
    Calls Tryz.prog 59 #[.int .i64 l, .int .i64 t] w fun e w' => e = .returned (.tuple #[.int .i64 (if 999999999 < weiN l t then 0 else (weiN l t : Nat)), .int .i64 (if 999999999 < weiN l t then 4 else 0)]) ∧ w = w' := by
  obtain ⟨b10, b11⟩ := mulB hl ht
  have HE := Lib.hid (show ((l : Int) * t).tdiv 1000 = (weiN l t : Nat) by rw [mulI]; exact divN _ 1000)
  have w1 : IntKind.i64.wrap ((l : Int) * t) = (l : Int) * t := wr64 (by omega) (by omega)
  have hwl : weiN l t ≤ 200000000000 := by
    have := Nat.mul_le_mul hl ht
    unfold weiN
    omega
  have HQ := HE.out
  by_cases hn : 999999999 < weiN l t
  · rw [if_pos hn, if_pos hn]
    generalize weiN l t = n at HE hwl hn HQ
    have w2 : IntKind.i64.wrap (((l : Int) * t).tdiv 1000) = ((l : Int) * t).tdiv 1000 := by rw [HE.out]; exact wr64 (by omega) (by omega)
    have hni : (999999999 : Int) < ((l : Int) * t).tdiv 1000 := by rw [HE.out]; omega
    clear hn HQ
    go_enter Tryz.func59, Tryz.ntmps59
    go_wp2
    go_ret2
    exact ⟨rfl, rfl⟩
  · rw [if_neg hn, if_neg hn]
    generalize weiN l t = n at HE hwl hn HQ ⊢
    have w2 : IntKind.i64.wrap (((l : Int) * t).tdiv 1000) = ((l : Int) * t).tdiv 1000 := by rw [HE.out]; exact wr64 (by omega) (by omega)
    have hni : ¬ (999999999 : Int) < ((l : Int) * t).tdiv 1000 := by rw [HE.out]; omega
    clear hn HQ
    go_enter Tryz.func59, Tryz.ntmps59
    go_wp2
    go_ret2
    exact ⟨by first | rfl | (rw [← HE.out]; rfl), rfl⟩
set_option maxHeartbeats 8000000 in
set_option maxRecDepth 100000 in
theorem lawWeightsW (n0 n1 n2 n3 l t X E1 Y E2 : Int) (w : World) (hT : Tab w)
    (HL : ∀ w, Calls Tryz.prog 55 #[.int .i64 n0, .int .i64 n1, .int .i64 n2, .int .i64 n3] w fun e w' => e = .returned (.tuple #[.int .i64 X, .int .i64 E1]) ∧ Below w.heap.size w w')
    (HW : ∀ w, Calls Tryz.prog 56 #[.int .i64 l, .int .i64 t] w fun e w' => e = .returned (.tuple #[.int .i64 Y, .int .i64 E2]) ∧ Below w.heap.size w w')
    (HC : ∀ w, Calls Tryz.prog 57 #[.int .i64 n0, .int .i64 n1, .int .i64 n2, .int .i64 n3] w fun e w' => e = .returned (.int .i64 E1) ∧ Below w.heap.size w w')
    (h1 : E1 = 0 → ∀ w, Calls Tryz.prog 58 #[.int .i64 n0, .int .i64 n1, .int .i64 n2, .int .i64 n3] w fun e w' => e = .returned (.int .i64 X) ∧ w = w') (h1' : E1 ≠ 0 → X = 0)
    (h2 : weiE0 l t = 0 → ∀ w, Calls Tryz.prog 59 #[.int .i64 l, .int .i64 t] w fun e w' => e = .returned (.tuple #[.int .i64 Y, .int .i64 E2]) ∧ w = w') (h2' : weiE0 l t ≠ 0 → Y = 0 ∧ E2 = weiE0 l t) :
    Calls Tryz.prog 8 #[.agg #[.int .i64 n0, .int .i64 n1, .int .i64 n2, .int .i64 n3], .int .i64 l, .int .i64 t] w fun e w' => e = .returned (.bool true) ∧ Below w.heap.size w w' := by
  obtain ⟨w1, hw1, k1, B, hz1⟩ := boxS w (.cells #[.int .i64 n0, .int .i64 n1, .int .i64 n2, .int .i64 n3] 88)
  obtain ⟨a0, a1, a2, a3, -, -, -, -⟩ := cel4 k1
  have HF := Lib.hid (show fstE [rngH l 0 999999999, rngH t 1 100000] = weiE0 l t from rfl)
  by_cases g1 : E1 = 0 <;> by_cases g2 : weiE0 l t = 0
  · have HRL := h1 g1
    have HRW := h2 g2
    subst g1
    rw [g2] at HF
    clear h1 h2 h1' h2' g2
    go_enter Tryz.func8, Tryz.ntmps8
    go_wp2_with fail
    refine (HL _).mono ?_
    rintro e w2 ⟨rfl, hb⟩
    replace B := B.trans (hb.mono B.size)
    obtain ⟨c0, c1, c2, c3, -, -, -, -⟩ := cel4 (blkT k1 hb)
    have k2 := blkT k1 hb
    clear hb
    go_wp2_with fail
    refine (HW _).mono ?_
    rintro e w3 ⟨rfl, hb⟩
    replace B := B.trans (hb.mono B.size)
    replace k2 := blkT k2 hb
    obtain ⟨d0, d1, d2, d3, -, -, -, -⟩ := cel4 k2
    clear hb c0 c1 c2 c3
    go_wp2_with fail
    refine (HC _).mono ?_
    rintro e w4 ⟨rfl, hb⟩
    replace B := B.trans (hb.mono B.size)
    replace k2 := blkT k2 hb
    clear hb d0 d1 d2 d3
    go_wp2_with fail
    refine (rfCheckRange _ _ _ _).mono ?_
    rintro e w5 ⟨rfl, rfl⟩
    go_wp2_with fail
    refine (rfCheckRange _ _ _ _).mono ?_
    rintro e w5 ⟨rfl, rfl⟩
    obtain ⟨w5, hw5, k5, hb, hz⟩ := boxS w4 (.cells #[.int .i64 (rngH l 0 999999999), .int .i64 (rngH t 1 100000)] 3)
    replace B := B.trans (hb.mono B.size)
    replace k2 := blkT k2 hb
    obtain ⟨d0, d1, d2, d3, -, -, -, -⟩ := cel4 k2
    clear hb hz
    go_wp2_with fail
    refine (rfFirst2 _ _ _ _ 3 _ k5).mono ?_
    rintro e w6 ⟨rfl, rfl⟩
    rw [HF.out]
    clear k5
    go_wp2_with fail
    refine (HRL _).mono ?_
    rintro e w6 ⟨rfl, rfl⟩
    go_wp2_with fail
    refine (HRW _).mono ?_
    rintro e w6 ⟨rfl, rfl⟩
    go_wp2_with fail
    refine (awake6 _ (hT.below B)).mono ?_
    rintro e w7 ⟨rfl, hb⟩
    replace B := B.trans (hb.mono B.size)
    go_wp2
    go_ret
    exact ⟨rfl, B⟩
  · have HRL := h1 g1
    obtain ⟨rfl, rfl⟩ := h2' g2
    subst g1
    generalize weiE0 l t = E at HF HW g2
    have hne := nzH g2
    clear h1 h2 h1' h2' g2
    go_enter Tryz.func8, Tryz.ntmps8
    go_wp2_with fail
    refine (HL _).mono ?_
    rintro e w2 ⟨rfl, hb⟩
    replace B := B.trans (hb.mono B.size)
    obtain ⟨c0, c1, c2, c3, -, -, -, -⟩ := cel4 (blkT k1 hb)
    have k2 := blkT k1 hb
    clear hb
    go_wp2_with fail
    refine (HW _).mono ?_
    rintro e w3 ⟨rfl, hb⟩
    replace B := B.trans (hb.mono B.size)
    replace k2 := blkT k2 hb
    obtain ⟨d0, d1, d2, d3, -, -, -, -⟩ := cel4 k2
    clear hb c0 c1 c2 c3
    go_wp2_with fail
    refine (HC _).mono ?_
    rintro e w4 ⟨rfl, hb⟩
    replace B := B.trans (hb.mono B.size)
    replace k2 := blkT k2 hb
    clear hb d0 d1 d2 d3
    go_wp2_with fail
    refine (rfCheckRange _ _ _ _).mono ?_
    rintro e w5 ⟨rfl, rfl⟩
    go_wp2_with fail
    refine (rfCheckRange _ _ _ _).mono ?_
    rintro e w5 ⟨rfl, rfl⟩
    obtain ⟨w5, hw5, k5, hb, hz⟩ := boxS w4 (.cells #[.int .i64 (rngH l 0 999999999), .int .i64 (rngH t 1 100000)] 3)
    replace B := B.trans (hb.mono B.size)
    replace k2 := blkT k2 hb
    obtain ⟨d0, d1, d2, d3, -, -, -, -⟩ := cel4 k2
    clear hb hz
    go_wp2_with fail
    refine (rfFirst2 _ _ _ _ 3 _ k5).mono ?_
    rintro e w6 ⟨rfl, rfl⟩
    rw [HF.out]
    clear k5
    go_wp2_with fail
    refine (HRL _).mono ?_
    rintro e w6 ⟨rfl, rfl⟩
    go_wp2_with fail
    refine (awake6 _ (hT.below B)).mono ?_
    rintro e w7 ⟨rfl, hb⟩
    replace B := B.trans (hb.mono B.size)
    go_wp2
    go_ret
    exact ⟨rfl, B⟩
  · have HRW := h2 g2
    obtain rfl := h1' g1
    have hne := nzH g1
    rw [g2] at HF
    clear h1 h2 h1' h2' g1 g2
    go_enter Tryz.func8, Tryz.ntmps8
    go_wp2_with fail
    refine (HL _).mono ?_
    rintro e w2 ⟨rfl, hb⟩
    replace B := B.trans (hb.mono B.size)
    obtain ⟨c0, c1, c2, c3, -, -, -, -⟩ := cel4 (blkT k1 hb)
    have k2 := blkT k1 hb
    clear hb
    go_wp2_with fail
    refine (HW _).mono ?_
    rintro e w3 ⟨rfl, hb⟩
    replace B := B.trans (hb.mono B.size)
    replace k2 := blkT k2 hb
    obtain ⟨d0, d1, d2, d3, -, -, -, -⟩ := cel4 k2
    clear hb c0 c1 c2 c3
    go_wp2_with fail
    refine (HC _).mono ?_
    rintro e w4 ⟨rfl, hb⟩
    replace B := B.trans (hb.mono B.size)
    replace k2 := blkT k2 hb
    clear hb d0 d1 d2 d3
    go_wp2_with fail
    refine (rfCheckRange _ _ _ _).mono ?_
    rintro e w5 ⟨rfl, rfl⟩
    go_wp2_with fail
    refine (rfCheckRange _ _ _ _).mono ?_
    rintro e w5 ⟨rfl, rfl⟩
    obtain ⟨w5, hw5, k5, hb, hz⟩ := boxS w4 (.cells #[.int .i64 (rngH l 0 999999999), .int .i64 (rngH t 1 100000)] 3)
    replace B := B.trans (hb.mono B.size)
    replace k2 := blkT k2 hb
    obtain ⟨d0, d1, d2, d3, -, -, -, -⟩ := cel4 k2
    clear hb hz
    go_wp2_with fail
    refine (rfFirst2 _ _ _ _ 3 _ k5).mono ?_
    rintro e w6 ⟨rfl, rfl⟩
    rw [HF.out]
    clear k5
    go_wp2_with fail
    refine (HRW _).mono ?_
    rintro e w6 ⟨rfl, rfl⟩
    go_wp2_with fail
    refine (awake6 _ (hT.below B)).mono ?_
    rintro e w7 ⟨rfl, hb⟩
    replace B := B.trans (hb.mono B.size)
    go_wp2
    go_ret
    exact ⟨rfl, B⟩
  · obtain rfl := h1' g1
    obtain ⟨rfl, rfl⟩ := h2' g2
    have hne := nzH g1
    generalize weiE0 l t = E at HF HW g2
    have hne2 := nzH g2
    clear h1 h2 h1' h2' g1 g2
    go_enter Tryz.func8, Tryz.ntmps8
    go_wp2_with fail
    refine (HL _).mono ?_
    rintro e w2 ⟨rfl, hb⟩
    replace B := B.trans (hb.mono B.size)
    obtain ⟨c0, c1, c2, c3, -, -, -, -⟩ := cel4 (blkT k1 hb)
    have k2 := blkT k1 hb
    clear hb
    go_wp2_with fail
    refine (HW _).mono ?_
    rintro e w3 ⟨rfl, hb⟩
    replace B := B.trans (hb.mono B.size)
    replace k2 := blkT k2 hb
    obtain ⟨d0, d1, d2, d3, -, -, -, -⟩ := cel4 k2
    clear hb c0 c1 c2 c3
    go_wp2_with fail
    refine (HC _).mono ?_
    rintro e w4 ⟨rfl, hb⟩
    replace B := B.trans (hb.mono B.size)
    replace k2 := blkT k2 hb
    clear hb d0 d1 d2 d3
    go_wp2_with fail
    refine (rfCheckRange _ _ _ _).mono ?_
    rintro e w5 ⟨rfl, rfl⟩
    go_wp2_with fail
    refine (rfCheckRange _ _ _ _).mono ?_
    rintro e w5 ⟨rfl, rfl⟩
    obtain ⟨w5, hw5, k5, hb, hz⟩ := boxS w4 (.cells #[.int .i64 (rngH l 0 999999999), .int .i64 (rngH t 1 100000)] 3)
    replace B := B.trans (hb.mono B.size)
    replace k2 := blkT k2 hb
    obtain ⟨d0, d1, d2, d3, -, -, -, -⟩ := cel4 k2
    clear hb hz
    go_wp2_with fail
    refine (rfFirst2 _ _ _ _ 3 _ k5).mono ?_
    rintro e w6 ⟨rfl, rfl⟩
    rw [HF.out]
    clear k5
    go_wp2_with fail
    refine (awake6 _ (hT.below B)).mono ?_
    rintro e w7 ⟨rfl, hb⟩
    replace B := B.trans (hb.mono B.size)
    go_wp2
    go_ret
    exact ⟨rfl, B⟩
theorem lawHangWeights (n0 n1 n2 n3 l t : Int) (w : World) (hT : Tab w) :
    Calls Tryz.prog 8 #[.agg #[.int .i64 n0, .int .i64 n1, .int .i64 n2, .int .i64 n3], .int .i64 l, .int .i64 t] w fun e w' => e = .returned (.bool true) ∧ Below w.heap.size w w' := by
  refine lawWeightsW n0 n1 n2 n3 l t _ _ _ _ w hT (fun w => hgLength n0 n1 n2 n3 w) (fun w => hgWeight l t w) (fun w => rfCheckCounts n0 n1 n2 n3 w) ?_ (fun h => ozE h _) ?_ (fun h => ?_)
  · intro h w
    obtain ⟨r1, r2, r3, r4⟩ := fst4_zero h
    have g1 := rngH_zero r1
    have g2 := rngH_zero r2
    have g3 := rngH_zero r3
    have g4 := rngH_zero r4
    rw [h, oz0]
    obtain ⟨b, rfl⟩ : ∃ x : Nat, n0 = (x : Int) := ⟨n0.toNat, by omega⟩
    obtain ⟨k, rfl⟩ : ∃ x : Nat, n1 = (x : Int) := ⟨n1.toNat, by omega⟩
    obtain ⟨r, rfl⟩ : ∃ x : Nat, n2 = (x : Int) := ⟨n2.toNat, by omega⟩
    obtain ⟨a, rfl⟩ : ∃ x : Nat, n3 = (x : Int) := ⟨n3.toNat, by omega⟩
    simp only [Int.toNat_natCast]
    exact rfLength b k r a w (by omega) (by omega) (by omega) (by omega)
  · intro h w
    obtain ⟨r1, r2⟩ := fst2_zero h
    have g1 := rngH_zero r1
    have g2 := rngH_zero r2
    obtain ⟨L, rfl⟩ : ∃ x : Nat, l = (x : Int) := ⟨l.toNat, by omega⟩
    obtain ⟨T, rfl⟩ : ∃ x : Nat, t = (x : Int) := ⟨t.toNat, by omega⟩
    have hW := rfWeight L T w (by omega) (by omega)
    have e : weiE (L : Int) (T : Int) = if 999999999 < weiN L T then 4 else 0 := by rw [weiE, if_pos h, Int.toNat_natCast, Int.toNat_natCast]
    rw [e, Int.toNat_natCast, Int.toNat_natCast]
    by_cases hn : 999999999 < weiN L T
    · rw [if_pos hn] at hW ⊢
      rw [if_pos hn] at hW
      rw [ozE (by decide)]
      exact hW
    · rw [if_neg hn] at hW ⊢
      rw [if_neg hn] at hW
      rw [oz0]
      exact hW
  · have e : weiE l t = weiE0 l t := by rw [weiE, if_neg h]
    rw [e]
    exact ⟨ozE h _, rfl⟩
end Go.Proofs.YtlkeejhaodedmaaGreatDoor

/- The reference's tables of twine: ShortTwines, TwineAt, far. -/
namespace Go.Proofs.YtlkeejhaodedmaaGreatDoor
open Go.RowKit

/-- A Boolean; if it is true, p holds. -/
def BoolP (p : Prop) (w : World) (e : Ending) (w' : World) : Prop := ∃ b, e = .returned (.bool b) ∧ (b = true → p) ∧ w = w'
theorem dsT_far {x T : Int} (t : Twn) (h : t.x = x) : max x T - min x T = dsT T t := by
  subst h
  unfold dsT
  split <;> omega
set_option maxHeartbeats 1000000 in
theorem rfFar (t : Twn) (T : Int) (w : World) (hx : 0 ≤ t.x ∧ t.x ≤ 100000) (hT : 0 ≤ T ∧ T ≤ 100000) :
    Calls Tryz.prog 106 #[.int .i64 t.x, .int .i64 T] w fun e w' => e = .returned (.int .i64 (dsT T t)) ∧ w = w' := by
  obtain ⟨h1, h2⟩ := hx
  obtain ⟨h3, h4⟩ := hT
  have HD := Lib.hid (dsT_far (T := T) t rfl)
  have wa : IntKind.i64.wrap (max t.x T - min t.x T) = max t.x T - min t.x T := wr64 (by omega) (by omega)
  go_enter Tryz.func106, Tryz.ntmps106
  go_wp2_with fail
  go_ret
  exact ⟨ret_i HD.out, rfl⟩
set_option maxHeartbeats 1000000 in
set_option maxRecDepth 100000 in
theorem rfShortTwines (A : Option Addr) (c : Nat) (l : List Twn) (w : World) (hA : OKV Twn.c 3 w A c l) :
    Calls Tryz.prog 49 #[.slice A l.length c] w (BoolP (l.length ≤ 33) w) := by
  have HA := Lib.hid hA
  have hm : l.length ≤ maxLen := Nat.le_trans hA.1 hA.2.1
  unfold maxLen at hm
  clear hA
  by_cases hlen : 6 < l.length ∧ l.length ≠ 33
  · have h1 : (6 : Int) < (l.length : Int) := by omega
    have h2 : ((l.length : Int) != 33) = true := by rw [bne_iff_ne]; omega
    go_enter Tryz.func49, Tryz.ntmps49
    go_wp2_with fail
    go_ret
    exact ⟨false, rfl, (fun h => by cases h), rfl⟩
  · have hle : l.length ≤ 33 := by omega
    have HLE := Lib.hid hle
    have HLL := Lib.hid hlen
    go_enter Tryz.func49, Tryz.ntmps49
    go_upto_region 1 with fail
    go_cut [11] (fun s X => s = .bool false ∧ w = X)
    case first =>
      by_cases h6 : 6 < l.length
      · have h33 : l.length = 33 := by have := HLL.out; omega
        have h1 : (6 : Int) < (l.length : Int) := by omega
        have h2 : ((l.length : Int) != 33) = false := by rw [h33]; rfl
        have H33 := Lib.hid h33
        clear h33
        go_wp2_with fail
        go_meet
        exact ⟨rfl, rfl⟩
      · have h1 : ¬ (6 : Int) < (l.length : Int) := by omega
        go_wp2_with fail
        go_meet
        exact ⟨rfl, rfl⟩
    case rest =>
      obtain ⟨rfl, rfl⟩ := hcut
      clear hlen
      go_wp2_with fail
      go_loopw [3] (fun i wr => ∃ k : Nat, k ≤ l.length ∧ i = .int .i64 k ∧ w = wr) (fun i _ => l.length - (intOf i).toNat)
      case atStart => exact ⟨0, Nat.zero_le _, rfl, rfl⟩
      case round =>
        obtain ⟨k, hk, rfl, rfl⟩ := hrel
        by_cases hlt : k < l.length
        · have hki : (k : Int) < (l.length : Int) := by omega
          have hk0 : (0 : Int) ≤ (k : Int) := by omega
          obtain ⟨b, off, hAe, hB, c0, c1, c2⟩ := atT HA.out.2.2.2 hlt
          subst hAe
          generalize l[k].s = q at c0
          by_cases hq : q.size ≤ 40
          · have hq2 : ¬ (40 : Int) < (q.size : Int) := by omega
            go_wp2_with fail
            go_roundw
            case rel => exact ⟨k + 1, by omega, by go_num, trivial⟩
            case measure => simp [intOf]; omega
          · have hq2 : (40 : Int) < (q.size : Int) := by omega
            go_wp2_with fail
            go_ret
            exact ⟨false, rfl, (fun h => by cases h), rfl⟩
        · obtain rfl : k = l.length := by omega
          have hki : ¬ (l.length : Int) < (l.length : Int) := by omega
          go_wp2_with fail
          go_ret
          exact ⟨true, rfl, (fun _ => by first | trivial | exact HLE.out), rfl⟩
/-- The index of the first twine with a name, or -1. -/
def idxA (s : ByteArray) : List Twn → Nat → Int
  | [], _ => -1
  | x :: r, i => if nmN s x = true then (i : Int) else idxA s r (i + 1)
theorem idxA_any (s : ByteArray) : ∀ (l : List Twn) (i : Nat), (0 ≤ idxA s l i ↔ l.any (nmN s) = true) ∧ -1 ≤ idxA s l i ∧ idxA s l i ≤ i + l.length
  | [], i => by simp [idxA]
  | x :: r, i => by
    obtain ⟨h1, h2, h3⟩ := idxA_any s r (i + 1)
    unfold idxA
    rw [List.length_cons]
    by_cases hx : nmN s x = true
    · rw [if_pos hx]
      refine ⟨⟨fun _ => by simp [hx], fun _ => by omega⟩, by omega, by omega⟩
    · rw [if_neg hx]
      refine ⟨?_, h2, by omega⟩
      rw [h1]
      simp [hx]
def atI (s : ByteArray) (l : List Twn) : Int := idxA s l 0
set_option maxHeartbeats 1000000 in
set_option maxRecDepth 100000 in
theorem rfTwineAt (A : Option Addr) (c n : Nat) (l : List Twn) (s : ByteArray) (w : World) (hn : l.length = n) (hl : l.length ≤ 100000) (hA : RV Twn.c 3 w w.heap.size A l) :
    Calls Tryz.prog 105 #[.slice A n c, .string s] w fun e w' => e = .returned (.int .i64 (atI s l)) ∧ w = w' := by
  subst hn
  have HA := Lib.hid hA
  clear hA
  obtain ⟨R, hR⟩ : ∃ R, atI s l = R := ⟨_, rfl⟩
  rw [hR]
  have H0 := Lib.hid (show R = idxA s (l.drop 0) 0 from hR.symm)
  clear hR
  go_enter Tryz.func105, Tryz.ntmps105
  go_wp2_with fail
  go_loopw [5] (fun i wr => ∃ k : Nat, k ≤ l.length ∧ i = .int .i64 k ∧ Hid (R = idxA s (l.drop k) k) ∧ w = wr) (fun i _ => l.length - (intOf i).toNat)
  case atStart => exact ⟨0, Nat.zero_le _, rfl, H0, rfl⟩
  case round =>
    clear H0
    obtain ⟨k, hk, rfl, HR, rfl⟩ := hrel
    by_cases hlt : k < l.length
    · have hki : (k : Int) < (l.length : Int) := by omega
      have hk0 : (0 : Int) ≤ (k : Int) := by omega
      obtain ⟨b, off, hAe, hB, c0, c1, c2⟩ := atT HA.out hlt
      subst hAe
      obtain ⟨p, hp⟩ : ∃ p, nmN s l[k] = p := ⟨_, rfl⟩
      have HS := Lib.hid (show R = if p = true then (k : Int) else idxA s (l.drop (k + 1)) (k + 1) by rw [HR.out, List.drop_eq_getElem_cons hlt, idxA, hp])
      unfold nmN nmE at hp
      generalize l[k].s = q at c0 hp
      cases p
      · have HS2 := Lib.hid (show R = idxA s (l.drop (k + 1)) (k + 1) from HS.out)
        clear HS
        go_wp2_with fail
        go_roundw
        case rel => exact ⟨k + 1, by omega, by go_num, HS2, trivial⟩
        case measure => simp [intOf]; omega
      · have HS2 := Lib.hid (show R = (k : Int) from HS.out)
        clear HS
        go_wp2_with fail
        go_ret
        exact ⟨ret_i HS2.out.symm, rfl⟩
    · obtain rfl : k = l.length := by omega
      have hki : ¬ (l.length : Int) < (l.length : Int) := by omega
      have HS2 := Lib.hid (show R = -1 by rw [HR.out, List.drop_length]; rfl)
      go_wp2_with fail
      go_ret
      exact ⟨ret_i HS2.out.symm, rfl⟩
end Go.Proofs.YtlkeejhaodedmaaGreatDoor

/- The reference's CheckTwines and Nearest. -/
namespace Go.Proofs.YtlkeejhaodedmaaGreatDoor
open Go.RowKit

theorem keep11 {W w1 w2 : World} {b o : Nat} {x y : Value} (z : b < W.heap.size) (k : w1.cell? ⟨b, o + 1, none⟩ = some x ∧ w1.cell? ⟨b, o + 2, none⟩ = some y ∧ Below W.heap.size W w1) (hb : Below w1.heap.size w1 w2) :
    w2.cell? ⟨b, o + 1, none⟩ = some x ∧ w2.cell? ⟨b, o + 2, none⟩ = some y ∧ Below W.heap.size W w2 := by
  obtain ⟨a0, a1, c⟩ := k
  have := c.size
  exact ⟨(hb.cell (p := ⟨b, _, none⟩) (by show b < _; omega)).trans a0, (hb.cell (p := ⟨b, _, none⟩) (by show b < _; omega)).trans a1, tw c hb⟩
set_option maxHeartbeats 4000000 in
set_option maxRecDepth 100000 in
theorem rfCheckTwines (A : Option Addr) (c : Nat) (l : List Twn) (w : World) (hl : l.length ≤ 1000) (hA : OKV Twn.c 3 w A c l) :
    Calls Tryz.prog 52 #[.slice A l.length c] w fun e w' => e = .returned (.int .i64 (twsE l)) ∧ Below w.heap.size w w' := by
  have HA := Lib.hid hA
  clear hA
  by_cases hlen : 32 < l.length
  · have hi : (32 : Int) < (l.length : Int) := by omega
    rw [twsE, if_pos hlen]
    go_enter Tryz.func52, Tryz.ntmps52
    go_wp2_with fail
    go_ret
    exact ⟨rfl, Below.refl _ _⟩
  · have hi : ¬ (32 : Int) < (l.length : Int) := by omega
    rw [twsE, if_neg hlen]
    have HST := Lib.hid (show lstE twnE [] l = lstE twnE (l.take 0) (l.drop 0) by simp)
    obtain ⟨E, hE⟩ : ∃ E, lstE twnE [] l = E := ⟨_, rfl⟩
    rw [hE] at HST ⊢
    clear hE
    go_enter Tryz.func52, Tryz.ntmps52
    go_wp2_with fail
    go_loopw [3] (fun i wr => ∃ k : Nat, k ≤ l.length ∧ i = .int .i64 k ∧ Hid (E = lstE twnE (l.take k) (l.drop k)) ∧ Below w.heap.size w wr) (fun i _ => l.length - (intOf i).toNat)
    case atStart => exact ⟨0, Nat.zero_le _, rfl, HST, Below.refl _ _⟩
    case round =>
      clear HST
      obtain ⟨k, hk, rfl, HS, hb⟩ := hrel
      by_cases hlt : k < l.length
      · have hki : (k : Int) < (l.length : Int) := by omega
        have hk0 : (0 : Int) ≤ (k : Int) := by omega
        have hkc : (k : Int) ≤ (c : Int) := by have := HA.out.1; omega
        have HAw := Lib.hid (OKV.below HA.out hb)
        obtain ⟨b, off, hAe, hB, c0, c1, c2⟩ := atT HAw.out.2.2.2 hlt
        subst hAe
        have HSt := Lib.hid (HS.out.trans (lstE_step twnE l hlt))
        have HT := fun w h => (rfTwineAt (some ⟨b, off, none⟩) c k (l.take k) l[k].s w (by rw [List.length_take]; omega) (by rw [List.length_take]; omega) h).mono fun _ _ h => And.intro h.1 h.2.symm
        have HTk := Lib.hid (HAw.out.2.2.2.take k)
        obtain ⟨ns, hns⟩ : ∃ x, namE l[k].s = x := ⟨_, rfl⟩
        obtain ⟨nw, hnw⟩ : ∃ x, newE (l.take k) l[k] = x := ⟨_, rfl⟩
        have HF := Lib.hid (show twnE (l.take k) l[k] = fstE [ns, nw, rngH l[k].x 1 100000, rngH l[k].h 1 100] by unfold twnE; rw [hns, hnw])
        have HN0 := Lib.hid hns
        have HN1 := Lib.hid hnw
        unfold namE at hns
        unfold newE at hnw
        have HNB := fun w => refIsName l[k].s w
        generalize nameB l[k].s = p at hns HNB
        obtain ⟨j1, j2, j3⟩ := idxA_any l[k].s (l.take k) 0
        have jl : (l.take k).length ≤ 1000 := by rw [List.length_take]; omega
        obtain ⟨r, hr⟩ : ∃ r, atI l[k].s (l.take k) = r := ⟨_, rfl⟩
        rw [show idxA l[k].s (l.take k) 0 = r from hr] at j1 j2 j3
        rw [hr] at HT
        generalize (l.take k).any (nmN l[k].s) = a at hnw j1
        generalize hf : twnE (l.take k) l[k] = F at HSt HF
        generalize l[k].s = s at c0 HNB HT
        generalize l[k].x = x at c1 HF
        generalize l[k].h = h at c2 HF
        clear hf hr HN0 HN1
        cases p
        · have HE := Lib.hid (show E = 8 by
            have h8 : F = 8 := by rw [HF.out, ← hns]; rfl
            rw [HSt.out, h8, if_neg (by decide)])
          go_wp2_with fail
          refine (HNB _).mono ?_
          rintro e w3 ⟨rfl, rfl⟩
          go_wp2_with fail
          go_ret
          exact ⟨ret_i HE.out.symm, hb⟩
        · go_wp2_with fail
          refine (HNB _).mono ?_
          rintro e w3 ⟨rfl, rfl⟩
          go_wp2_with fail
          go_quiet (first | (go_at_call 105; exact Calls.quiet_of_same (HT _ HTk.out)))
          have c1' : (World.drewN wr nq).cell? ⟨b, off + k * 3 + 1, none⟩ = some (.int .i64 x) := c1
          have c2' : (World.drewN wr nq).cell? ⟨b, off + k * 3 + 2, none⟩ = some (.int .i64 h) := c2
          have hb5 := below_drewN hb nq
          have hB5 : b < (World.drewN wr nq).heap.size := hB
          generalize World.drewN wr nq = w5 at c1' c2' hb5 hB5 ⊢
          have hns0 : ns = 0 := hns.symm
          clear c0 c1 c2 hns HNB HT
          subst hns0
          cases a
          · have hnw0 : nw = 0 := hnw.symm
            subst hnw0
            clear hnw
            have HF2 := Lib.hid (show F = fstE [rngH x 1 100000, rngH h 1 100] from HF.out)
            have B5 := Below.refl w5.heap.size w5
            go_wp2_with fail
            go_region_held3 (fun X => X.cell? ⟨b, off + k * 3 + 1, none⟩ = some (.int .i64 x) ∧ X.cell? ⟨b, off + k * 3 + 2, none⟩ = some (.int .i64 h) ∧ Below w5.heap.size w5 X)
              (first | exact ⟨c1', c2', B5⟩ | exact ⟨c1', c2', below_drew B5⟩ | exact keep11 hB5 (by assumption) (by assumption) | exact keep11 hB5 (by assumption) ((Below.refl _ _).alloc (Nat.le_refl _) _) | assumption | exact keep11 hB5 (by assumption) (below_drew (Below.refl _ _)) | go_keep)
              (first
                | (go_at_call 27; refine (rfCheckRange _ _ _ _).mono ?_; rintro e w' ⟨rfl, rfl⟩)
                | (go_at_call 26; refine (rfFirst2 _ _ _ _ 3 _ (by exact newBlk _ _)).mono ?_; rintro e w' ⟨rfl, rfl⟩))
            all_goals
              rename_i hH
              rw [← HF2.out]
              obtain ⟨-, -, hb6⟩ := hH
              have hb7 := tw hb5 hb6
              clear c1' c2' B5 hB5 hb6
              by_cases hF : F = 0
              · have HE2 := Lib.hid (show E = lstE twnE (l.take (k + 1)) (l.drop (k + 1)) by rw [HSt.out, if_pos hF])
                subst hF
                go_wp2_with fail
                go_roundw
                case rel => exact ⟨k + 1, by omega, by go_num, HE2, hb7⟩
                case measure => simp [intOf]; omega
              · have HE2 := Lib.hid (show E = F by rw [HSt.out, if_neg hF])
                have hFn := nzH hF
                clear hF
                go_wp2_with fail
                go_ret
                exact ⟨ret_i HE2.out.symm, hb7⟩
          · have HE := Lib.hid (show E = 9 by
              have h9 : F = 9 := by rw [HF.out, ← hnw]; rfl
              rw [HSt.out, h9, if_neg (by decide)])
            go_wp2_with fail
            go_ret
            exact ⟨ret_i HE.out.symm, hb5⟩
      · obtain rfl : k = l.length := by omega
        have hki : ¬ (l.length : Int) < (l.length : Int) := by omega
        have HE := Lib.hid (HS.out.trans (lstE_end twnE l))
        go_wp2_with fail
        go_ret
        exact ⟨ret_i HE.out.symm, hb⟩
def dsX (T x : Int) : Int := if x < T then T - x else x - T
theorem rfFarG (x T : Int) (w : World) (h : (0 ≤ x ∧ x ≤ 100000) ∧ 0 ≤ T ∧ T ≤ 100000) :
    Calls Tryz.prog 106 #[.int .i64 x, .int .i64 T] w fun e w' => e = .returned (.int .i64 (dsX T x)) ∧ w' = w :=
  (rfFar ⟨⟨#[]⟩, x, 0⟩ T w h.1 h.2).mono fun _ _ h => ⟨h.1, h.2.symm⟩
theorem cmpT_neg (T : Int) (a b : Twn) : cmpT T a b < 0 ↔ dsT T a < dsT T b ∨ (dsT T a = dsT T b ∧ a.x < b.x) := by
  unfold cmpT cmpH
  simp only [fstE]
  repeat' split
  all_goals omega
set_option maxHeartbeats 2000000 in
set_option maxRecDepth 100000 in
theorem rfNearest (A : Option Addr) (c : Nat) (l : List Twn) (T : Int) (w : World) (hl : l.length ≤ 1000) (h1 : 1 ≤ l.length) (hT : 0 ≤ T ∧ T ≤ 100000) (hx : ∀ t ∈ l, 0 ≤ t.x ∧ t.x ≤ 100000) (hA : OKV Twn.c 3 w A c l) :
    Calls Tryz.prog 53 #[.slice A l.length c, .int .i64 T] w fun e w' => e = .returned (.tuple #[.int .i64 (nrI l T : Nat), .int .i64 0]) ∧ Below w.heap.size w w' := by
  have HA := Lib.hid hA
  have HX := Lib.hid hx
  clear hA hx
  obtain ⟨R, hR⟩ : ∃ R, nrI l T = R := ⟨_, rfl⟩
  rw [hR]
  have HR := Lib.hid hR
  clear hR
  have n0 : ((l.length : Int) == 0) = false := by rw [beq_eq_false_iff_ne]; omega
  have n0' : ¬ l.length = 0 := by omega
  go_enter Tryz.func53, Tryz.ntmps53
  go_wp2_with fail
  go_loopw [6, 7] (fun bs i wr => ∃ k q : Nat, q < k ∧ k ≤ l.length ∧ i = .int .i64 k ∧ bs = .int .i64 q ∧ Hid (∀ (hq : q < l.length), minT T (l.headD twn0) (l.take k) = l[q] ∧ (∀ j (hj : j < l.length), j < k → ¬ cmpT T l[j] l[q] < 0) ∧ ∀ j (hj : j < l.length), j < q → cmpT T l[q] l[j] < 0) ∧ Below w.heap.size w wr) (fun _ i _ => l.length - (intOf i).toNat)
  case atStart =>
    refine ⟨1, 0, by omega, h1, rfl, rfl, Lib.hid (fun hq => ⟨?_, ?_, ?_⟩), Below.refl _ _⟩
    · cases l with
      | nil => simp at h1
      | cons a r => simp [minT, cmpT_self]
    · intro j hj hj1
      obtain rfl : j = 0 := by omega
      rw [cmpT_self]; decide
    · intro j hj hj1; omega
  case round =>
    obtain ⟨k, q, hqk, hk, rfl, rfl, HQ, hb⟩ := hrel
    by_cases hlt : k < l.length
    · have hql : q < l.length := by omega
      have hki : (k : Int) < (l.length : Int) := by omega
      have hk0 : (0 : Int) ≤ (k : Int) := by omega
      have hqi : (q : Int) < (l.length : Int) := by omega
      have hq0 : (0 : Int) ≤ (q : Int) := by omega
      have HAw := Lib.hid (OKV.below HA.out hb)
      obtain ⟨b, off, hAe, hB, c0, c1, c2⟩ := atT HAw.out.2.2.2 hlt
      subst hAe
      obtain ⟨b', off', hAe, -, d0, d1, d2⟩ := atT HAw.out.2.2.2 hql
      injection hAe with hAe
      injection hAe with e1 e2
      subst e1 e2
      have HN := Lib.hid (cmpT_neg T l[k] l[q])
      have HST := Lib.hid (show l.take (k + 1) = l.take k ++ [l[k]] from List.take_succ_eq_append_getElem hlt)
      have HMS := Lib.hid (minT_step T (l.headD twn0) l hlt)
      have HXB := Lib.hid (show (0 ≤ l[k].x ∧ l[k].x ≤ 100000) ∧ 0 ≤ T ∧ T ≤ 100000 from ⟨HX.out _ (List.getElem_mem hlt), hT⟩)
      have HYB := Lib.hid (show (0 ≤ l[q].x ∧ l[q].x ≤ 100000) ∧ 0 ≤ T ∧ T ≤ 100000 from ⟨HX.out _ (List.getElem_mem hql), hT⟩)
      have HN2 := Lib.hid (show cmpT T l[k] l[q] < 0 ↔ dsX T l[k].x < dsX T l[q].x ∨ (dsX T l[k].x = dsX T l[q].x ∧ l[k].x < l[q].x) from HN.out)
      obtain ⟨X, hX⟩ : ∃ X, l[k].x = X := ⟨_, rfl⟩
      obtain ⟨Y, hY⟩ : ∃ Y, l[q].x = Y := ⟨_, rfl⟩
      rw [hX] at c1 HXB
      rw [hY] at d1 HYB
      rw [hX, hY] at HN2
      clear hX hY HN c0 c2 d0 d2
      go_wp2_with fail
      go_quiet (first | (go_at_call 106; exact Calls.quiet_of_same (rfFarG _ _ _ (by first | exact HXB.out | exact HYB.out))))
      generalize dsX T X = da at HN2 ⊢
      generalize dsX T Y = db at HN2 ⊢
      have c1' : (World.drewN wr nq).cell? ⟨b, off + k * 3 + 1, none⟩ = some (.int .i64 X) := c1
      have d1' : (World.drewN wr nq).cell? ⟨b, off + q * 3 + 1, none⟩ = some (.int .i64 Y) := d1
      have hb7 := below_drewN hb nq
      generalize World.drewN wr nq = w5 at c1' d1' hb7 ⊢
      clear c1 d1 hb
      by_cases hd : da < db
      · have g1 : decide (da < db) = true := decide_eq_true hd
        have HP := Lib.hid (HN2.out.2 (Or.inl hd))
        clear HN2
        go_wp2_with fail
        go_quiet (fail)
        go_wp2_with fail
        go_roundw
        case rel => exact ⟨k + 1, k, by omega, by omega, by go_num, rfl, Lib.hid (fun _ => by
          obtain ⟨q1, q2, q3⟩ := HQ.out hql
          refine ⟨by rw [HMS.out, q1, if_pos HP.out], fun j hj hj1 => ?_, fun j hj hj1 => ?_⟩
          · rcases Nat.lt_or_ge j k with h' | h'
            · have a1 := q2 j hj h'
              have a2 := HP.out
              have e0 := cmpT_neg T l[j] l[q]
              have e1 := cmpT_neg T l[k] l[q]
              have e2 := cmpT_neg T l[j] l[k]
              have e3 := cmpT_neg T l[k] l[j]
              omega
            · obtain rfl : j = k := by omega
              rw [cmpT_self]; decide
          · have a1 := q2 j hj hj1
            have a2 := HP.out
            have e0 := cmpT_neg T l[j] l[q]
            have e1 := cmpT_neg T l[k] l[q]
            have e2 := cmpT_neg T l[j] l[k]
            have e3 := cmpT_neg T l[k] l[j]
            omega), by first | exact below_drewN (below_drewN hb _) _ | exact below_drewN hb7 _⟩
        case measure => simp [intOf]; omega
      · have g1 : decide (da < db) = false := decide_eq_false hd
        by_cases he : da = db
        · have g2 : (da == db) = true := by rw [beq_iff_eq]; exact he
          by_cases hxy : X < Y
          · have g3 : decide (X < Y) = true := decide_eq_true hxy
            have HP := Lib.hid (HN2.out.2 (Or.inr ⟨he, hxy⟩))
            replace he := Lib.hid he
            clear HN2
            go_wp2_with fail
            go_quiet (fail)
            go_wp2_with fail
            go_roundw
            case rel => exact ⟨k + 1, k, by omega, by omega, by go_num, rfl, Lib.hid (fun _ => by
              obtain ⟨q1, q2, q3⟩ := HQ.out hql
              refine ⟨by rw [HMS.out, q1, if_pos HP.out], fun j hj hj1 => ?_, fun j hj hj1 => ?_⟩
              · rcases Nat.lt_or_ge j k with h' | h'
                · have a1 := q2 j hj h'
                  have a2 := HP.out
                  have e0 := cmpT_neg T l[j] l[q]
                  have e1 := cmpT_neg T l[k] l[q]
                  have e2 := cmpT_neg T l[j] l[k]
                  have e3 := cmpT_neg T l[k] l[j]
                  omega
                · obtain rfl : j = k := by omega
                  rw [cmpT_self]; decide
              · have a1 := q2 j hj hj1
                have a2 := HP.out
                have e0 := cmpT_neg T l[j] l[q]
                have e1 := cmpT_neg T l[k] l[q]
                have e2 := cmpT_neg T l[j] l[k]
                have e3 := cmpT_neg T l[k] l[j]
                omega), by first | exact below_drewN (below_drewN hb _) _ | exact below_drewN hb7 _⟩
            case measure => simp [intOf]; omega
          · have g3 : decide (X < Y) = false := decide_eq_false hxy
            have HP := Lib.hid (show ¬ cmpT T l[k] l[q] < 0 from fun h => by have := HN2.out.1 h; omega)
            replace he := Lib.hid he
            clear HN2
            go_wp2_with fail
            go_quiet (fail)
            go_wp2_with fail
            go_roundw
            case rel => exact ⟨k + 1, q, by omega, by omega, by go_num, rfl, Lib.hid (fun _ => by
              obtain ⟨q1, q2, q3⟩ := HQ.out hql
              refine ⟨by rw [HMS.out, q1, if_neg (by have := HP.out; omega)], fun j hj hj1 => ?_, q3⟩
              rcases Nat.lt_or_ge j k with h' | h'
              · have := q2 j hj h'; omega
              · obtain rfl : j = k := by omega
                have := HP.out; omega), by first | exact below_drewN (below_drewN hb _) _ | exact below_drewN hb7 _⟩
            case measure => simp [intOf]; omega
        · have g2 : (da == db) = false := by rw [beq_eq_false_iff_ne]; exact he
          have HP := Lib.hid (show ¬ cmpT T l[k] l[q] < 0 from fun h => by have := HN2.out.1 h; omega)
          clear HN2
          go_wp2_with fail
          go_quiet (fail)
          go_wp2_with fail
          go_roundw
          case rel => exact ⟨k + 1, q, by omega, by omega, by go_num, rfl, Lib.hid (fun _ => by
            obtain ⟨q1, q2, q3⟩ := HQ.out hql
            refine ⟨by rw [HMS.out, q1, if_neg (by have := HP.out; omega)], fun j hj hj1 => ?_, q3⟩
            rcases Nat.lt_or_ge j k with h' | h'
            · have := q2 j hj h'; omega
            · obtain rfl : j = k := by omega
              have := HP.out; omega), by first | exact below_drewN (below_drewN hb _) _ | exact below_drewN hb7 _⟩
          case measure => simp [intOf]; omega
    · obtain rfl : k = l.length := by omega
      have hki : ¬ (l.length : Int) < (l.length : Int) := by omega
      have HE := Lib.hid (show (q : Int) = (R : Int) by
        obtain ⟨q1, q2, q3⟩ := HQ.out (by omega)
        rw [← HR.out, nrI]
        rw [List.take_length] at q1
        rw [q1]
        have hf : l.findIdx? (sameT l[q]) = some q := by
          rw [List.findIdx?_eq_some_iff_getElem]
          refine ⟨by omega, (sameT_iff _ _).2 rfl, fun j hj => ?_⟩
          intro hs
          have hs2 := (sameT_iff _ _).1 hs
          have h3 := q3 j (by omega) hj
          rw [← hs2, cmpT_self] at h3
          omega
        rw [hf]
        rfl)
      go_wp2_with fail
      go_ret2
      exact ⟨by rw [HE.out]; rfl, hb⟩
end Go.Proofs.YtlkeejhaodedmaaGreatDoor

/- The reference's bills: ShortLines, SameSums, CheckLines. -/
namespace Go.Proofs.YtlkeejhaodedmaaGreatDoor
open Go.RowKit

set_option maxRecDepth 100000 in
theorem eqSum6 (a b c : Int) (w : World) : (Op.equalIn 10000 107 (.agg #[.int .i64 a, .int .i64 b, .int .i64 c]) (.agg #[.int .i64 a, .int .i64 b, .int .i64 c])).run Tryz.prog w = .ok true w := by
  have u3 := Tryz.underlying3
  have a3 := Tryz.isAgg3
  have z3 := Tryz.sizeOf3
  have hS : Tryz.prog.underlying 107 = some (.struct (Tryz.prog.fieldsOf 107)) := by kernel_rfl
  have hp : Tryz.prog.stoodInHeld 107 = false := by kernel_rfl
  rw [show (10000 : Nat) = 9999 + 1 from rfl, run_equalIn_struct w 9999 107 _ _ hS hp]
  simp only [Program.fieldsOf, Tryz.underlying107]
  go_simp
theorem guardSum6 : Tryz.prog.eqGuardType Tryz.prog.depth 107 = false := by kernel_rfl
set_option maxHeartbeats 1000000 in
set_option maxRecDepth 100000 in
theorem rfSameSums (A A' : Option Addr) (c c' n n' : Nat) (l : List Sm) (w : World) (hn : l.length = n) (hn' : l.length = n') (hl : l.length ≤ 100000) (h : RV Sm.c 3 w w.heap.size A l) (h' : RV Sm.c 3 w w.heap.size A' l) :
    Calls Tryz.prog 65 #[.slice A n c, .slice A' n' c'] w fun e w' => e = .returned (.bool true) ∧ Below w.heap.size w w' := by
  subst hn hn'
  have HR := Lib.hid h
  have HR' := Lib.hid h'
  clear h h'
  have hgd := guardSum6
  have hne : ((l.length : Int) != (l.length : Int)) = false := by simp
  go_enter Tryz.func65, Tryz.ntmps65
  go_wp2_with fail
  go_loopw [5] (fun i wr => ∃ k : Nat, k ≤ l.length ∧ i = .int .i64 k ∧ Below w.heap.size w wr) (fun i _ => l.length - (intOf i).toNat)
  case atStart => exact ⟨0, Nat.zero_le _, rfl, Below.refl _ _⟩
  case round =>
    obtain ⟨k, hk, rfl, hb⟩ := hrel
    by_cases hlt : k < l.length
    · obtain ⟨b, off, rfl, hB, c0, c1, c2⟩ := atM (HR.out.to hb) hlt
      obtain ⟨b', off', rfl, hB', d0, d1, d2⟩ := atM (HR'.out.to hb) hlt
      have b1 : (0 : Int) ≤ (k : Int) := by omega
      have b2 : (k : Int) < (l.length : Int) := by omega
      generalize l[k].l = x at c0 d0
      generalize l[k].w = y at c1 d1
      generalize l[k].a = z at c2 d2
      have heq := fun w => eqSum6 x y z w
      go_wp2_with fail
      go_quiet (fail)
      go_wp2_with fail
      go_roundw
      case rel => exact ⟨k + 1, by omega, by go_num, below_drewN hb _⟩
      case measure => simp [intOf]; omega
    · obtain rfl : k = l.length := by omega
      go_wp2_with fail
      go_ret
      exact ⟨rfl, hb⟩
set_option maxHeartbeats 1000000 in
set_option maxRecDepth 100000 in
theorem rfShortLines (A : Option Addr) (c : Nat) (l : List Lin) (w : World) (hA : OKV Lin.c 4 w A c l) :
    Calls Tryz.prog 60 #[.slice A l.length c, .int .i64 8] w (BoolP (l.length ≤ 65) w) := by
  have HA := Lib.hid hA
  have hm : l.length ≤ maxLen := Nat.le_trans hA.1 hA.2.1
  unfold maxLen at hm
  clear hA
  by_cases hlen : 8 < l.length ∧ l.length ≠ 65
  · have h1 : (8 : Int) < (l.length : Int) := by omega
    have h2 : ((l.length : Int) != 65) = true := by rw [bne_iff_ne]; omega
    go_enter Tryz.func60, Tryz.ntmps60
    go_wp2_with fail
    go_ret
    exact ⟨false, rfl, (fun h => by cases h), rfl⟩
  · have hle : l.length ≤ 65 := by omega
    have HLE := Lib.hid hle
    have HLL := Lib.hid hlen
    go_enter Tryz.func60, Tryz.ntmps60
    go_upto_region 1 with fail
    go_cut [14] (fun s X => s = .bool false ∧ w = X)
    case first =>
      by_cases h6 : 8 < l.length
      · have h33 : l.length = 65 := by have := HLL.out; omega
        have h1 : (8 : Int) < (l.length : Int) := by omega
        have h2 : ((l.length : Int) != 65) = false := by rw [h33]; rfl
        have H33 := Lib.hid h33
        clear h33
        go_wp2_with fail
        go_meet
        exact ⟨rfl, rfl⟩
      · have h1 : ¬ (8 : Int) < (l.length : Int) := by omega
        go_wp2_with fail
        go_meet
        exact ⟨rfl, rfl⟩
    case rest =>
      obtain ⟨rfl, rfl⟩ := hcut
      clear hlen
      go_wp2_with fail
      go_loopw [5] (fun i wr => ∃ k : Nat, k ≤ l.length ∧ i = .int .i64 k ∧ w = wr) (fun i _ => l.length - (intOf i).toNat)
      case atStart => exact ⟨0, Nat.zero_le _, rfl, rfl⟩
      case round =>
        obtain ⟨k, hk, rfl, rfl⟩ := hrel
        by_cases hlt : k < l.length
        · have hki : (k : Int) < (l.length : Int) := by omega
          have hk0 : (0 : Int) ≤ (k : Int) := by omega
          obtain ⟨b, off, hAe, hB, c0, c1, c2, c3⟩ := atL HA.out.2.2.2 hlt
          subst hAe
          generalize l[k].s = q at c3
          by_cases hq : q.size ≤ 40
          · have hq2 : ¬ (40 : Int) < (q.size : Int) := by omega
            go_wp2_with fail
            go_roundw
            case rel => exact ⟨k + 1, by omega, by go_num, trivial⟩
            case measure => simp [intOf]; omega
          · have hq2 : (40 : Int) < (q.size : Int) := by omega
            go_wp2_with fail
            go_ret
            exact ⟨false, rfl, (fun h => by cases h), rfl⟩
        · obtain rfl : k = l.length := by omega
          have hki : ¬ (l.length : Int) < (l.length : Int) := by omega
          go_wp2_with fail
          go_ret
          exact ⟨true, rfl, (fun _ => by first | trivial | exact HLE.out), rfl⟩
theorem rfFirst3 (g d : Nat) (a b c : Int) (t : TypeId) (w : World) (h : w.heap[g]? = some (.cells #[.int .i64 a, .int .i64 b, .int .i64 c] t (0, 0))) :
    Calls Tryz.prog 26 #[.slice (some ⟨g, 0, none⟩) 3 d] w fun e w' => e = .returned (.int .i64 (fstE [a, b, c])) ∧ w = w' :=
  rfFirst g d [a, b, c] w (by simp) (fun i hi => by
    have : i = 0 ∨ i = 1 ∨ i = 2 := by simp at hi; omega
    rcases this with rfl | rfl | rfl <;> simp [World.cell?, h])
theorem nmKN (s : ByteArray) (tb : List Twn) : tb.any (nmK s) = tb.any (nmN s) := by
  congr 1
  funext t
  unfold nmK nmN nmE
  rw [Bool.eq_iff_iff, beq_iff_eq, beq_iff_eq]
  exact ⟨Eq.symm, Eq.symm⟩
theorem fst4_3 (a b c d : Int) : fstE [a, b, c, d] = if fstE [a, b, c] = 0 then d else fstE [a, b, c] := by
  simp only [fstE]
  repeat' split
  all_goals first | rfl | omega | simp_all
theorem keep111 {W w1 w2 : World} {b o b' o' : Nat} {x y z u : Value} (zb : b < W.heap.size) (zb' : b' < W.heap.size) (k : w1.cell? ⟨b, o, none⟩ = some x ∧ w1.cell? ⟨b, o + 1, none⟩ = some y ∧ w1.cell? ⟨b, o + 2, none⟩ = some z ∧ w1.cell? ⟨b', o', none⟩ = some u ∧ Below W.heap.size W w1) (hb : Below w1.heap.size w1 w2) :
    w2.cell? ⟨b, o, none⟩ = some x ∧ w2.cell? ⟨b, o + 1, none⟩ = some y ∧ w2.cell? ⟨b, o + 2, none⟩ = some z ∧ w2.cell? ⟨b', o', none⟩ = some u ∧ Below W.heap.size W w2 := by
  obtain ⟨a0, a1, a2, a3, c⟩ := k
  have := c.size
  exact ⟨(hb.cell (p := ⟨b, _, none⟩) (by show b < _; omega)).trans a0, (hb.cell (p := ⟨b, _, none⟩) (by show b < _; omega)).trans a1, (hb.cell (p := ⟨b, _, none⟩) (by show b < _; omega)).trans a2, (hb.cell (p := ⟨b', _, none⟩) (by show b' < _; omega)).trans a3, tw c hb⟩
set_option maxHeartbeats 4000000 in
set_option maxRecDepth 100000 in
theorem rfCheckLines (At : Option Addr) (ct : Nat) (tb : List Twn) (A : Option Addr) (c : Nat) (l : List Lin) (w : World) (htl : tb.length ≤ 1000) (hl : l.length ≤ 1000) (hT : OKV Twn.c 3 w At ct tb) (hA : OKV Lin.c 4 w A c l) :
    Calls Tryz.prog 63 #[.slice At tb.length ct, .slice A l.length c] w fun e w' => e = .returned (.int .i64 (lnsE tb l)) ∧ Below w.heap.size w w' := by
  have HA := Lib.hid hA
  have HTB := Lib.hid hT
  clear hA hT
  by_cases hlen : 64 < l.length
  · have hi : (64 : Int) < (l.length : Int) := by omega
    rw [lnsE, if_pos hlen]
    go_enter Tryz.func63, Tryz.ntmps63
    go_wp2_with fail
    go_ret
    exact ⟨rfl, Below.refl _ _⟩
  · have hi : ¬ (64 : Int) < (l.length : Int) := by omega
    rw [lnsE, if_neg hlen]
    have HST := Lib.hid (show lstE (fun _ s => linE tb s) [] l = lstE (fun _ s => linE tb s) (l.take 0) (l.drop 0) by simp)
    obtain ⟨E, hE⟩ : ∃ E, lstE (fun _ s => linE tb s) [] l = E := ⟨_, rfl⟩
    rw [hE] at HST ⊢
    clear hE
    go_enter Tryz.func63, Tryz.ntmps63
    go_wp2_with fail
    go_loopw [5] (fun i wr => ∃ k : Nat, k ≤ l.length ∧ i = .int .i64 k ∧ Hid (E = lstE (fun _ s => linE tb s) (l.take k) (l.drop k)) ∧ Below w.heap.size w wr) (fun i _ => l.length - (intOf i).toNat)
    case atStart => exact ⟨0, Nat.zero_le _, rfl, HST, Below.refl _ _⟩
    case round =>
      clear HST
      obtain ⟨k, hk, rfl, HS, hb⟩ := hrel
      by_cases hlt : k < l.length
      · have hki : (k : Int) < (l.length : Int) := by omega
        have hk0 : (0 : Int) ≤ (k : Int) := by omega
        obtain ⟨b, off, hAe, hB, c0, c1, c2, c3⟩ := atL (OKV.below HA.out hb).2.2.2 hlt
        subst hAe
        have HSt := Lib.hid (show E = if linE tb l[k] = 0 then lstE (fun _ s => linE tb s) (l.take (k + 1)) (l.drop (k + 1)) else linE tb l[k] from HS.out.trans (lstE_step (fun _ s => linE tb s) l hlt))
        have HT := fun w h => (rfTwineAt At ct tb.length tb l[k].s w rfl (by omega) h)
        have HFF := Lib.hid (show linE tb l[k] = if fstE [rngH l[k].b 0 100000, rngH l[k].k 0 100000, rngH l[k].r 1 100] = 0 then knwE tb l[k].s else fstE [rngH l[k].b 0 100000, rngH l[k].k 0 100000, rngH l[k].r 1 100] from fst4_3 _ _ _ _)
        obtain ⟨j1, j2, j3⟩ := idxA_any l[k].s tb 0
        obtain ⟨r, hr⟩ : ∃ r, atI l[k].s tb = r := ⟨_, rfl⟩
        rw [show idxA l[k].s tb 0 = r from hr] at j1 j2 j3
        rw [hr] at HT
        have hkw : knwE tb l[k].s = if 0 ≤ r then 0 else 10 := by
          unfold knwE
          rw [nmKN]
          by_cases h : 0 ≤ r
          · rw [if_pos (j1.1 h), if_pos h]
          · rw [if_neg (fun h' => h (j1.2 h')), if_neg h]
        rw [hkw] at HFF
        clear hkw hr j1
        generalize linE tb l[k] = F at HSt HFF
        generalize l[k].b = x at c0 HFF
        generalize l[k].k = y at c1 HFF
        generalize l[k].r = z at c2 HFF
        generalize l[k].s = s at c3 HT
        have B5 := Below.refl wr.heap.size wr
        go_wp2_with fail
        go_region_held3 (fun X => X.cell? ⟨b, off + k * 4, none⟩ = some (.int .i64 x) ∧ X.cell? ⟨b, off + k * 4 + 1, none⟩ = some (.int .i64 y) ∧ X.cell? ⟨b, off + k * 4 + 2, none⟩ = some (.int .i64 z) ∧ X.cell? ⟨b, off + k * 4 + 3, none⟩ = some (.string s) ∧ Below wr.heap.size wr X)
          (first | exact ⟨c0, c1, c2, c3, B5⟩ | exact ⟨c0, c1, c2, c3, below_drew B5⟩ | exact keep111 hB hB (by assumption) (by assumption) | exact keep111 hB hB (by assumption) ((Below.refl _ _).alloc (Nat.le_refl _) _) | assumption | exact keep111 hB hB (by assumption) (below_drew (Below.refl _ _)) | go_keep)
          (first
            | (go_at_call 27; refine (rfCheckRange _ _ _ _).mono ?_; rintro e w' ⟨rfl, rfl⟩)
            | (go_at_call 26; refine (rfFirst3 _ _ _ _ _ 3 _ (by exact newBlk _ _)).mono ?_; rintro e w' ⟨rfl, rfl⟩))
        all_goals
          rename_i hH
          obtain ⟨-, -, -, c3', hb6⟩ := hH
          have hb7 := tw hb hb6
          have HTk := Lib.hid (OKV.below HTB.out hb7)
          clear c0 c1 c2 c3 B5 hb6
          generalize fstE [rngH x 0 100000, rngH y 0 100000, rngH z 1 100] = G at HFF ⊢
          by_cases hG : G = 0
          · subst hG
            have HF2 := Lib.hid (show F = if 0 ≤ r then 0 else 10 from HFF.out)
            go_wp2_with fail
            refine (HT _ HTk.out.2.2.2).mono ?_
            rintro e w9 ⟨rfl, rfl⟩
            by_cases hr0 : r < 0
            · have HE2 := Lib.hid (show E = 10 by
                have h10 : F = 10 := by rw [HF2.out, if_neg (by omega)]
                rw [HSt.out, h10, if_neg (by decide)])
              go_wp2_with fail
              go_ret
              exact ⟨ret_i HE2.out.symm, hb7⟩
            · have HE2 := Lib.hid (show E = lstE (fun _ s => linE tb s) (l.take (k + 1)) (l.drop (k + 1)) by
                have h0 : F = 0 := by rw [HF2.out, if_pos (by omega)]
                rw [HSt.out, if_pos h0])
              go_wp2_with fail
              go_roundw
              case rel => exact ⟨k + 1, by omega, by go_num, HE2, hb7⟩
              case measure => simp [intOf]; omega
          · have HE2 := Lib.hid (show E = G by
              have hf : F = G := by rw [HFF.out, if_neg hG]
              rw [HSt.out, hf, if_neg hG])
            have hGn := nzH hG
            have hGe : (G == 0) = false := by rw [beq_eq_false_iff_ne]; exact hG
            clear hG
            go_wp2_with fail
            go_ret
            exact ⟨ret_i HE2.out.symm, hb7⟩
      · obtain rfl : k = l.length := by omega
        have hki : ¬ (l.length : Int) < (l.length : Int) := by omega
        have HE := Lib.hid (HS.out.trans (lstE_end (fun _ s => linE tb s) l))
        go_wp2_with fail
        go_ret
        exact ⟨ret_i HE.out.symm, hb⟩
end Go.Proofs.YtlkeejhaodedmaaGreatDoor

/- The reference's Bill. -/
namespace Go.Proofs.YtlkeejhaodedmaaGreatDoor
open Go.RowKit

theorem info_sum6 : (Tryz.prog.info? 107).map (fun i => (i.zero, i.size, i.bytes)) = some (some (.agg #[.int .i64 0, .int .i64 0, .int .i64 0]), 3, 24) := by kernel_rfl
theorem setAt3 {W : World} {b : Nat} {u v x : Value} {t : TypeId} (h : W.heap[b]? = some (.cells #[u, v, x] t (0, 0))) (p : Value) :
    ((W.setCell ⟨b, 0, none⟩ p).heap[b]? = some (.cells #[p, v, x] t (0, 0)) ∧ (W.setCell ⟨b, 1, none⟩ p).heap[b]? = some (.cells #[u, p, x] t (0, 0)) ∧ (W.setCell ⟨b, 2, none⟩ p).heap[b]? = some (.cells #[u, v, p] t (0, 0))) ∧ ∀ i, W.grownBy (W.setCell ⟨b, i, none⟩ p) (some b) := by
  refine ⟨⟨?_, ?_, ?_⟩, fun i => ⟨rfl, rfl, rfl, by simp [World.setCell], fun j _ hne => ?_⟩⟩
  · simp only [World.setCell, Array.getElem?_modify, if_true, h, Option.map_some]
    rfl
  · simp only [World.setCell, Array.getElem?_modify, if_true, h, Option.map_some]
    rfl
  · simp only [World.setCell, Array.getElem?_modify, if_true, h, Option.map_some]
    rfl
  · have : j ≠ b := fun e => hne (by rw [e])
    exact Below.heap_setCell _ _ _ j this
theorem boxM {W : World} (o : Obj) : ∃ g w1, W.heap.size = g ∧ W.alloc o = w1 ∧ w1.heap[g]? = some o ∧ Below g W w1 ∧ g < w1.heap.size := ⟨_, _, rfl, rfl, newBlk _ _, (Below.refl _ _).alloc (Nat.le_refl _) _, by simp⟩
theorem mget_step (a : Nat) (l : List Lin) {k : Nat} (h : k < l.length) (s : ByteArray) : mget (lenS a (l.take (k + 1))) s = if nmE l[k].s s = true then mget (lenS a (l.take k)) s + (lnN a l[k] : Nat) else mget (lenS a (l.take k)) s := by
  rw [lenS_step a l h, mget_mput]
  by_cases hs : s = l[k].s
  · rw [if_pos hs, if_pos ((nmE_iff _ _).2 hs.symm), ← hs]
  · rw [if_neg hs, if_neg (fun h' => hs ((nmE_iff _ _).1 h').symm)]
set_option maxHeartbeats 8000000 in
set_option maxRecDepth 100000 in
theorem rfBillN (At : Option Addr) (ct : Nat) (tb : List Twn) (A : Option Addr) (c : Nat) (l : List Lin) (a : Nat) (w : World) (htl : tb.length ≤ 32) (hl : l.length ≤ 64) (ha : a ≤ 100) (hv : LinOk l) (hx : ∀ t ∈ tb, 1 ≤ t.x ∧ t.x ≤ 100000 ∧ 1 ≤ t.h ∧ t.h ≤ 100) (hT : OKV Twn.c 3 w At ct tb) (hA : OKV Lin.c 4 w A c l) (E : Int) (hE : (if (tb.map (smM (lenS a l))).any smB = true then 4 else 0) = E) :
    Calls Tryz.prog 64 #[.slice At tb.length ct, .slice A l.length c, .int .i64 a] w (ListP Sm.c 3 (ozL E (tb.map (smM (lenS a l)))) E w) := by
  have HA := Lib.hid hA
  have HTB := Lib.hid hT
  have HV := Lib.hid hv
  have HX := Lib.hid hx
  obtain ⟨i0, hi, hz0, hz1, hz2⟩ := info_parts info_sum6
  have HI := Lib.hid hi
  have HZ0 := Lib.hid hz0
  have HZ1 := Lib.hid hz1
  have HZ2 := Lib.hid hz2
  clear hi hz0 hz1 hz2 hA hT hv hx
  obtain ⟨M, hM⟩ : ∃ M, lenS a l = M := ⟨_, rfl⟩
  have HM := Lib.hid hM
  rw [hM] at hE ⊢
  have HE := Lib.hid hE
  clear hM hE
  go_enter Tryz.func64, Tryz.ntmps64
  go_wp2_with fail
  go_loopw [8, 9] (fun v i wr => ∃ k : Nat, k ≤ tb.length ∧ i = .int .i64 k ∧ Hid (wr.ownsRow w.heap.size 107 3 v k (((tb.take k).map (smM M)).flatMap Sm.c)) ∧ Hid (∀ j (hj : j < tb.length), j < k → smB (smM M tb[j]) = false) ∧ Below w.heap.size w wr) (fun _ i _ => tb.length - (intOf i).toNat)
  case atStart => exact ⟨0, Nat.zero_le _, rfl, World.ownsRow_nil _ _ _ _, Lib.hid (fun _ _ h => by omega), Below.refl _ _⟩
  case round =>
    obtain ⟨k, hk, rfl, hown, HN, hb⟩ := hrel
    by_cases hlt : k < tb.length
    · have hki : (k : Int) < (tb.length : Int) := by omega
      have hk0 : (0 : Int) ≤ (k : Int) := by omega
      obtain ⟨W0, rfl⟩ : ∃ W, W = wr := ⟨_, rfl⟩
      obtain ⟨gS, v1, hgS, hv1, kS, hbv1, hzv1⟩ := boxM (W := W0) (.cells #[.int .i64 0, .int .i64 0, .int .i64 0] 107)
      obtain ⟨t1, t2, t3, t4⟩ := HX.out _ (List.getElem_mem hlt)
      obtain ⟨s, hs⟩ : ∃ s, tb[k].s = s := ⟨_, rfl⟩
      have HTC := Lib.hid (fun (X : World) (h : Below w.heap.size w X) => by
        have h2 := atT (OKV.below HTB.out h).2.2.2 hlt
        rw [hs] at h2
        exact h2)
      have HSM := Lib.hid (show smM M tb[k] = smOf tb[k] (mget M s).toNat by rw [smM, hs])
      clear hs
      go_wp2_with fail
      go_loopw [11] (fun q wz => ∃ j : Nat, j ≤ l.length ∧ q = .int .i64 j ∧ wz.heap[gS]? = some (.cells #[.int .i64 (mget (lenS a (l.take j)) s), .int .i64 0, .int .i64 0] 107 (0, 0)) ∧ Below gS W0 wz) (fun q _ => l.length - (intOf q).toNat)
      case atStart => exact ⟨0, Nat.zero_le _, rfl, by simpa [lenS, mget] using kS, hbv1⟩
      case round =>
        obtain ⟨j, hj, rfl, kj, hbj⟩ := hrel
        have hbw : Below w.heap.size w wr := hb.trans (hbj.mono (by rw [← hgS]; exact hb.size))
        have hV := lenS_le ha HV.out j hj s
        by_cases hjl : j < l.length
        · have hji : (j : Int) < (l.length : Int) := by omega
          have hj0 : (0 : Int) ≤ (j : Int) := by omega
          obtain ⟨b, off, hAe, hB, c0, c1, c2, c3⟩ := atL (OKV.below HA.out hbw).2.2.2 hjl
          obtain ⟨b', off', hTe, hB', e0, e1, e2⟩ := HTC.out wr hbw
          subst hAe hTe
          have HST := Lib.hid (mget_step a l hjl s)
          have hn := lnN_le ha (HV.out j hjl)
          obtain ⟨u1, u2, u3⟩ := HV.out j hjl
          obtain ⟨x, hx⟩ : ∃ x, l[j] = x := ⟨_, rfl⟩
          rw [hx] at HST hn u1 u2 u3 c0 c1 c2 c3
          obtain ⟨X, hX⟩ : ∃ X : Nat, x.b = (X : Int) := ⟨x.b.toNat, by omega⟩
          obtain ⟨Y, hY⟩ : ∃ Y : Nat, x.k = (Y : Int) := ⟨x.k.toNat, by omega⟩
          obtain ⟨Z, hZ⟩ : ∃ Z : Nat, x.r = (Z : Int) := ⟨x.r.toNat, by omega⟩
          have HL := fun w => rfLength X Y Z a w (by omega) (by omega) (by omega) ha
          have hN : lnN a x = lenN X Y Z a := by rw [lnN, hX, hY, hZ]; rfl
          rw [hN] at HST hn
          rw [hX] at c0
          rw [hY] at c1
          rw [hZ] at c2
          obtain ⟨p, hp⟩ : ∃ p, nmE x.s s = p := ⟨_, rfl⟩
          rw [hp] at HST
          unfold nmE at hp
          generalize x.s = q at c3 hp
          clear hN hX hY hZ u1 u2 u3 hx
          generalize lenN X Y Z a = n at HL HST hn
          generalize mget (lenS a (l.take j)) s = V at HST hV kj
          obtain ⟨hV1, hV2⟩ := hV
          have hV3 : V ≤ 1280000000 := by omega
          have wv : IntKind.i64.wrap (V + (n : Int)) = V + (n : Int) := wr64 (by omega) (by omega)
          cases p
          · have HS2 := Lib.hid (show mget (lenS a (l.take (j + 1))) s = V from HST.out)
            go_wp2_with fail
            go_quiet (fail)
            have kj2 : (World.drewN wr nq).heap[gS]? = some (.cells #[.int .i64 V, .int .i64 0, .int .i64 0] 107 (0, 0)) := kj
            have hbj2 := below_drewN hbj nq
            go_wp2_with fail
            go_roundw
            case rel => exact ⟨j + 1, by omega, by go_num, by rw [HS2.out]; exact kj2, hbj2⟩
            case measure => simp [intOf]; omega
          · have HS2 := Lib.hid (show mget (lenS a (l.take (j + 1))) s = V + (n : Int) from HST.out)
            go_wp2_with fail
            go_quiet (fail)
            have kj2 : (World.drewN wr nq).heap[gS]? = some (.cells #[.int .i64 V, .int .i64 0, .int .i64 0] 107 (0, 0)) := kj
            have hbj2 := below_drewN hbj nq
            replace c0 : (World.drewN wr nq).cell? ⟨b, off + j * 4, none⟩ = some (.int .i64 X) := c0
            replace c1 : (World.drewN wr nq).cell? ⟨b, off + j * 4 + 1, none⟩ = some (.int .i64 Y) := c1
            replace c2 : (World.drewN wr nq).cell? ⟨b, off + j * 4 + 2, none⟩ = some (.int .i64 Z) := c2
            generalize World.drewN wr nq = w5 at kj2 hbj2 c0 c1 c2 ⊢
            obtain ⟨d0, -, -, -, -, -⟩ := cel3 kj2
            clear e0 e1 e2 c3
            go_wp2_with fail
            refine wp_region_still_tail 21 (by kernel_rfl) (by kernel_rfl) ?_
            simp only [List.take_succ_cons, List.take_zero, List.drop_succ_cons, List.drop_zero]
            repeat (first | still_step | still_call (Calls.mono (HL _) fun _ _ h => ⟨h.1, h.2.symm⟩))
            refine wpStill_nil ?_
            change wpList _ _ _ _ _ w5.drew
            have kj3 : w5.drew.heap[gS]? = some (.cells #[.int .i64 V, .int .i64 0, .int .i64 0] 107 (0, 0)) := kj2
            have hbj3 := below_drew hbj2
            clear d0 c0 c1 c2 kj2 hbj2
            generalize w5.drew = w6 at kj3 hbj3 ⊢
            obtain ⟨q0, q1, q2, q3, q4, q5⟩ := cel3 kj3
            obtain ⟨⟨s1, -, -⟩, s4⟩ := setAt3 kj3 (.int .i64 (V + (n : Int)))
            have hb7 := hbj3.grown (s4 0) (Nat.le_of_lt (blkSz kj3)) (fun j e => by cases e; exact Nat.le_refl _)
            go_wp2
            go_roundw
            case rel => exact ⟨j + 1, by omega, by go_num, by rw [HS2.out]; exact s1, hb7⟩
            case measure => simp [intOf]; omega
        · obtain rfl : j = l.length := by omega
          have hji : ¬ (l.length : Int) < (l.length : Int) := by omega
          rw [List.take_length, HM.out] at kj hV
          obtain ⟨b', off', hTe, hB', e0, e1, e2⟩ := HTC.out wr hbw
          subst hTe
          obtain ⟨N, hN⟩ : ∃ N : Nat, mget M s = (N : Int) := ⟨(mget M s).toNat, by omega⟩
          have hN2 : N ≤ 1280000000 := by omega
          obtain ⟨X, hX⟩ : ∃ X : Nat, tb[k].x = (X : Int) := ⟨tb[k].x.toNat, by omega⟩
          obtain ⟨Y, hY⟩ : ∃ Y : Nat, tb[k].h = (Y : Int) := ⟨tb[k].h.toNat, by omega⟩
          have HS2 := Lib.hid (show smM M tb[k] = ⟨(N : Int), ((weiN N X : Nat) : Int), (N : Int) * (Y : Int)⟩ by
            rw [HSM.out, hN, smOf, hX, hY]
            simp only [Int.toNat_natCast])
          rw [hN] at kj
          rw [hX] at e1
          rw [hY] at e2
          have HYY := Lib.hid hY
          have hX2 : X ≤ 100000 := by omega
          have hY2 : Y ≤ 100 := by omega
          have HBW := Lib.hid hb
          clear hV hN hX hY t1 t2 t3 t4 HSM hb
          obtain ⟨f0, f1⟩ := mulB hN2 hX2
          obtain ⟨f2, f3⟩ := mulB hN2 hY2
          have wv : IntKind.i64.wrap ((N : Int) * (X : Int)) = (N : Int) * (X : Int) := wr64 (by omega) (by omega)
          have wy : IntKind.i64.wrap ((N : Int) * (Y : Int)) = (N : Int) * (Y : Int) := wr64 (by omega) (by omega)
          have hq : ((N : Int) * (X : Int)).tdiv 1000 = ((weiN N X : Nat) : Int) := by unfold weiN; rw [← divN]; push_cast; rfl
          have hu : weiN N X ≤ 1280000000 * 100000 := Nat.le_trans (Nat.div_le_self _ _) (Nat.mul_le_mul hN2 hX2)
          generalize weiN N X = u at hq hu HS2
          have wu : IntKind.i64.wrap (u : Int) = (u : Int) := wr64 (by omega) (by omega)
          obtain ⟨ar, har⟩ : ∃ ar : Int, (N : Int) * (Y : Int) = ar := ⟨_, rfl⟩
          rw [har] at HS2 wy f2 f3
          obtain ⟨d0, -, -, -, -, -⟩ := cel3 kj
          go_wp2_with fail
          refine wp_region_still_tail 10 (by kernel_rfl) (by kernel_rfl) ?_
          simp only [List.take_succ_cons, List.take_zero, List.drop_succ_cons, List.drop_zero]
          repeat still_step
          refine wpStill_nil ?_
          change wpList _ _ _ _ _ wr.drew
          have kj3 : wr.drew.heap[gS]? = some (.cells #[.int .i64 N, .int .i64 0, .int .i64 0] 107 (0, 0)) := kj
          have hbj3 := below_drew hbj
          clear d0 e0 e1 e2 hB' kj hbj
          generalize wr.drew = w6 at kj3 hbj3 ⊢
          obtain ⟨q0, q1, q2, q3, q4, q5⟩ := cel3 kj3
          obtain ⟨⟨-, s1, -⟩, s4⟩ := setAt3 kj3 (.int .i64 (u : Int))
          have hb7 := hbj3.grown (s4 1) (Nat.le_of_lt (blkSz kj3)) (fun j e => by cases e; exact Nat.le_refl _)
          go_wp2_with fail
          clear q0 q1 q2 q3 q4 q5
          generalize w6.setCell ⟨gS, 1, none⟩ (.int .i64 (u : Int)) = w7 at s1 hb7 ⊢
          clear kj3 hbj3 s4 hbw
          obtain ⟨b2, off2, hTe, -, e0, e1, e2⟩ := HTC.out w7 (HBW.out.trans (hb7.mono (by rw [← hgS]; exact HBW.out.size)))
          injection hTe with hTe
          injection hTe with g1 g2
          subst g1 g2
          rw [show tb[k].h = (Y : Int) from HYY.out] at e2
          obtain ⟨d0, -, -, -, -, -⟩ := cel3 s1
          refine wp_region_still_tail 9 (by kernel_rfl) (by kernel_rfl) ?_
          simp only [List.take_succ_cons, List.take_zero, List.drop_succ_cons, List.drop_zero]
          repeat still_step
          refine wpStill_nil ?_
          change wpList _ _ _ _ _ w7.drew
          have kj3 : w7.drew.heap[gS]? = some (.cells #[.int .i64 N, .int .i64 u, .int .i64 0] 107 (0, 0)) := s1
          have hbj3 := below_drew hb7
          clear d0 e0 e1 e2 s1 hb7
          generalize w7.drew = w8 at kj3 hbj3 ⊢
          obtain ⟨q0, q1, q2, q3, q4, q5⟩ := cel3 kj3
          obtain ⟨⟨-, -, s1⟩, s4⟩ := setAt3 kj3 (.int .i64 ar)
          have hb9 := hbj3.grown (s4 2) (Nat.le_of_lt (blkSz kj3)) (fun j e => by cases e; exact Nat.le_refl _)
          go_upto_region 13 with fail
          clear q0 q1 q2 q3 q4 q5
          generalize w8.setCell ⟨gS, 2, none⟩ (.int .i64 ar) = w9 at s1 hb9 ⊢
          clear kj3 hbj3 s4
          obtain ⟨d0, d1, d2, -, -, -⟩ := cel3 s1
          have hbf : Below w.heap.size w w9 := HBW.out.trans (hb9.mono (by rw [← hgS]; exact HBW.out.size))
          by_cases hbad : 999999999 < (N : Int) ∨ 999999999 < (u : Int) ∨ 999999999 < ar
          · have HE4 := Lib.hid (show E = 4 by
              rw [← HE.out, if_pos]
              refine List.any_eq_true.2 ⟨smM M tb[k], List.mem_map.2 ⟨_, List.getElem_mem hlt, rfl⟩, ?_⟩
              rw [HS2.out, smB]
              exact decide_eq_true hbad)
            go_cut [87] (fun s X => s = .bool true ∧ w9 = X)
            case first =>
              by_cases a1 : 999999999 < (N : Int)
              · go_wp2_with fail
                go_meet
                exact ⟨rfl, rfl⟩
              · by_cases a2 : 999999999 < (u : Int)
                · go_wp2_with fail
                  go_meet
                  exact ⟨rfl, rfl⟩
                · have a3 : 999999999 < ar := by omega
                  go_wp2_with fail
                  go_meet
                  exact ⟨rfl, rfl⟩
            case rest =>
              obtain ⟨rfl, rfl⟩ := hcut
              clear hbad
              go_wp2_with fail
              go_ret2
              exact ⟨none, 0, by rw [HE4.out, ozLE (by decide)]; rfl, by rw [HE4.out, ozLE (by decide)]; exact OKV.none _ _ _, hbf⟩
          · have a1 : ¬ 999999999 < (N : Int) := by omega
            have a2 : ¬ 999999999 < (u : Int) := by omega
            have a3 : ¬ 999999999 < ar := by omega
            have HNN := Lib.hid (show ∀ j (hj : j < tb.length), j < k + 1 → smB (smM M tb[j]) = false from fun j hj h => by
              rcases Nat.lt_or_ge j k with h' | h'
              · exact HN.out j hj h'
              · obtain rfl : j = k := by omega
                rw [HS2.out, smB]
                exact decide_eq_false hbad)
            have HSN := Lib.hid (show ((tb.take (k + 1)).map (smM M)).flatMap Sm.c = ((tb.take k).map (smM M)).flatMap Sm.c ++ [.int .i64 (N : Int), .int .i64 (u : Int), .int .i64 ar] by
              rw [List.take_succ_eq_append_getElem hlt, List.map_append, List.flatMap_append, List.map_singleton, HS2.out]
              simp [Sm.c])
            have hbz := hbf.size
            have hown9 := Lib.hid (ownTo hown.out (by rw [hgS]; exact hb9))
            clear hbad
            go_wp2_with (at_builtin; refine wpList_append_own _ rfl _ _ 102 rfl w.heap.size 107 i0 (.agg #[.int .i64 0, .int .i64 0, .int .i64 0]) 3 24 Tryz.underlying102 HI.out HZ0.out HZ1.out HZ2.out rfl (by decide) _ _ _ rfl (hown9.out.alloc _) ⟨w9.heap.size, 0, none⟩ 1 1 [.int .i64 (N : Int), .int .i64 (u : Int), .int .i64 ar] rfl rfl (newsH _ _ _) ?c2 ?c3 ?c4 ?c5 ?_)
            case c2 => first | rfl | (intro u hu; simp at hu; rcases hu with rfl | rfl | rfl <;> rfl) | simp [Value.oneCell']
            case c3 => unfold maxLen; omega
            case c4 => omega
            case c5 => first | omega | (simp; omega)
            intro v' w10 hown10 hgrow10 _
            have hq10 : Below w.heap.size w w10 := (hbf.alloc hbz (.cells #[.int .i64 (N : Int), .int .i64 (u : Int), .int .i64 ar] 107)).grown hgrow10 (by simp; omega) (baseOf hown9.out)
            have HO10 := Lib.hid (show w10.ownsRow w.heap.size 107 3 v' (k + 1) (((tb.take (k + 1)).map (smM M)).flatMap Sm.c) by rw [HSN.out, List.map_take]; exact hown10)
            clear hown10 hgrow10 hown hown9
            go_wp2
            go_roundw
            case rel => exact ⟨k + 1, by omega, by go_num, HO10, HNN, hq10⟩
            case measure => simp [intOf]; omega
    · obtain rfl : k = tb.length := by omega
      have hki : ¬ (tb.length : Int) < (tb.length : Int) := by omega
      have hany : (tb.map (smM M)).any smB = false := by
        rw [Bool.eq_false_iff]
        intro h
        obtain ⟨x, hx, hq⟩ := List.any_eq_true.1 h
        obtain ⟨y, hy, rfl⟩ := List.mem_map.1 hx
        obtain ⟨j, hj, rfl⟩ := List.getElem_of_mem hy
        rw [HN.out j hj hj] at hq
        cases hq
      have ho := hown.out
      rw [List.take_length] at ho
      obtain ⟨av, cv, rfl, hok⟩ := OKV.ownN Sm.c3 ho (by rw [List.length_map])
      have HOK := Lib.hid hok
      have HANY := Lib.hid (show E = 0 by rw [← HE.out, hany]; rfl)
      clear hok hown ho hany
      go_wp2_with fail
      go_ret2
      refine ⟨av, cv, ?_, ?_, hb⟩
      · rw [HANY.out, ozL0, List.length_map]; rfl
      · rw [HANY.out, ozL0]; exact HOK.out
end Go.Proofs.YtlkeejhaodedmaaGreatDoor

/- The law's converters of lists. -/
namespace Go.Proofs.YtlkeejhaodedmaaGreatDoor
open Go.RowKit

theorem info_sections : (Tryz.prog.info? 131).map (fun i => (i.zero, i.size, i.bytes)) = some (some (.agg #[.int .i64 0, .int .i64 0, .int .i64 0]), 3, 24) := by kernel_rfl
set_option maxHeartbeats 4000000 in
set_option maxRecDepth 100000 in
theorem law_sections (A : Option Addr) (c : Nat) (l : List Sec) (w : World) (hl : l.length ≤ 1000) (hA : OKV Sec.c 3 w A c l) :
    Calls Tryz.prog 40 #[.slice A l.length c] w (SliP Sec.c 3 l w) := by
  obtain ⟨i0, hi, hz0, hz1, hz2⟩ := info_parts info_sections
  have HI := Lib.hid hi
  have HZ0 := Lib.hid hz0
  have HZ1 := Lib.hid hz1
  have HZ2 := Lib.hid hz2
  have HA := Lib.hid hA
  clear hi hz0 hz1 hz2 hA
  go_enter Tryz.func40, Tryz.ntmps40
  go_wp2_with fail
  go_loopw [3, 8] (fun v i wr => ∃ j : Nat, j ≤ l.length ∧ i = .int .i64 j ∧ Hid (wr.ownsRow w.heap.size 131 3 v j ((l.take j).flatMap Sec.c)) ∧ Below w.heap.size w wr) (fun _ i _ => l.length - (intOf i).toNat)
  case atStart => exact ⟨0, Nat.zero_le _, rfl, World.ownsRow_nil _ _ _ _, Below.refl _ _⟩
  case round =>
    obtain ⟨j, hj, rfl, hown, hb⟩ := hrel
    by_cases hlt : j < l.length
    · have hki : (j : Int) < (l.length : Int) := by omega
      have hk0 : (0 : Int) ≤ (j : Int) := by omega
      have hbz := hb.size
      obtain ⟨b, off, hAe, hB, c0, c1, c2⟩ := atS (OKV.below HA.out hb).2.2.2 hlt
      subst hAe
      have HSN := Lib.hid (show (l.take (j + 1)).flatMap Sec.c = (l.take j).flatMap Sec.c ++ [.int .i64 l[j].m, .int .i64 l[j].n, .int .i64 l[j].d] by rw [List.take_succ_eq_append_getElem hlt, List.flatMap_append]; simp; rfl)
      generalize l[j].m = x0 at c0 HSN
      generalize l[j].n = x1 at c1 HSN
      generalize l[j].d = x2 at c2 HSN
      obtain ⟨w5, hw5, k5, hb5, hz5⟩ := boxS wr (.cells #[.int .i64 x0, .int .i64 x1, .int .i64 x2] 112)
      obtain ⟨d0, d1, d2, -, -, -⟩ := cel3 k5
      have hb5w := tw hb hb5
      have hown5 := Lib.hid (ownTo hown.out hb5)
      have hbz5 := hb5w.size
      go_wp2_with (at_builtin; refine wpList_append_own _ rfl _ _ 63 rfl w.heap.size 131 i0 (.agg #[.int .i64 0, .int .i64 0, .int .i64 0]) 3 24 Tryz.underlying63 HI.out HZ0.out HZ1.out HZ2.out rfl (by decide) _ _ _ rfl (hown5.out.alloc _) ⟨w5.heap.size, 0, none⟩ 1 1 [.int .i64 x0, .int .i64 x1, .int .i64 x2] rfl rfl (newsH _ _ _) ?c2 ?c3 ?c4 ?c5 ?_)
      case c2 => first | rfl | (intro u hu; simp at hu; rcases hu with rfl | rfl | rfl <;> rfl) | (intro u hu; simp at hu; rcases hu with rfl | rfl | rfl | rfl <;> rfl) | simp [Value.oneCell']
      case c3 => unfold maxLen; omega
      case c4 => omega
      case c5 => first | omega | (simp; omega)
      intro v' w6 hown6 hgrow6 _
      have hq6 : Below w.heap.size w w6 := (hb5w.alloc hbz5 (.cells #[.int .i64 x0, .int .i64 x1, .int .i64 x2] 131)).grown hgrow6 (by simp; omega) (baseOf hown5.out)
      have HO6 := Lib.hid (show w6.ownsRow w.heap.size 131 3 v' (j + 1) ((l.take (j + 1)).flatMap Sec.c) by rw [HSN.out]; exact hown6)
      clear hown6 hgrow6 hown hown5
      go_wp2
      go_roundw
      case rel => exact ⟨j + 1, by omega, by go_num, HO6, hq6⟩
      case measure => simp [intOf]; omega
    · obtain rfl : j = l.length := by omega
      have hki : ¬ (l.length : Int) < (l.length : Int) := by omega
      have ho := hown.out
      rw [List.take_length] at ho
      obtain ⟨a, cv, rfl, hok⟩ := OKV.ownN Sec.c3 ho rfl
      have HOK := Lib.hid hok
      clear hok hown ho
      go_wp2
      go_ret
      exact ⟨a, cv, rfl, HOK.out, hb⟩
theorem info_twines : (Tryz.prog.info? 132).map (fun i => (i.zero, i.size, i.bytes)) = some (some (.agg #[.string ByteArray.empty, .int .i64 0, .int .i64 0]), 3, 32) := by kernel_rfl
set_option maxHeartbeats 4000000 in
set_option maxRecDepth 100000 in
theorem law_twines (A : Option Addr) (c : Nat) (l : List Twn) (w : World) (hl : l.length ≤ 1000) (hA : OKV Twn.c 3 w A c l) :
    Calls Tryz.prog 51 #[.slice A l.length c] w (SliP Twn.c 3 l w) := by
  obtain ⟨i0, hi, hz0, hz1, hz2⟩ := info_parts info_twines
  have HI := Lib.hid hi
  have HZ0 := Lib.hid hz0
  have HZ1 := Lib.hid hz1
  have HZ2 := Lib.hid hz2
  have HA := Lib.hid hA
  clear hi hz0 hz1 hz2 hA
  go_enter Tryz.func51, Tryz.ntmps51
  go_wp2_with fail
  go_loopw [3, 8] (fun v i wr => ∃ j : Nat, j ≤ l.length ∧ i = .int .i64 j ∧ Hid (wr.ownsRow w.heap.size 132 3 v j ((l.take j).flatMap Twn.c)) ∧ Below w.heap.size w wr) (fun _ i _ => l.length - (intOf i).toNat)
  case atStart => exact ⟨0, Nat.zero_le _, rfl, World.ownsRow_nil _ _ _ _, Below.refl _ _⟩
  case round =>
    obtain ⟨j, hj, rfl, hown, hb⟩ := hrel
    by_cases hlt : j < l.length
    · have hki : (j : Int) < (l.length : Int) := by omega
      have hk0 : (0 : Int) ≤ (j : Int) := by omega
      have hbz := hb.size
      obtain ⟨b, off, hAe, hB, c0, c1, c2⟩ := atT (OKV.below HA.out hb).2.2.2 hlt
      subst hAe
      have HSN := Lib.hid (show (l.take (j + 1)).flatMap Twn.c = (l.take j).flatMap Twn.c ++ [.string l[j].s, .int .i64 l[j].x, .int .i64 l[j].h] by rw [List.take_succ_eq_append_getElem hlt, List.flatMap_append]; simp; rfl)
      generalize l[j].s = x0 at c0 HSN
      generalize l[j].x = x1 at c1 HSN
      generalize l[j].h = x2 at c2 HSN
      obtain ⟨w5, hw5, k5, hb5, hz5⟩ := boxS wr (.cells #[.string x0, .int .i64 x1, .int .i64 x2] 121)
      obtain ⟨d0, d1, d2, -, -, -⟩ := cel3 k5
      have hb5w := tw hb hb5
      have hown5 := Lib.hid (ownTo hown.out hb5)
      have hbz5 := hb5w.size
      go_wp2_with (at_builtin; refine wpList_append_own _ rfl _ _ 81 rfl w.heap.size 132 i0 (.agg #[.string ByteArray.empty, .int .i64 0, .int .i64 0]) 3 32 Tryz.underlying81 HI.out HZ0.out HZ1.out HZ2.out rfl (by decide) _ _ _ rfl (hown5.out.alloc _) ⟨w5.heap.size, 0, none⟩ 1 1 [.string x0, .int .i64 x1, .int .i64 x2] rfl rfl (newsH _ _ _) ?c2 ?c3 ?c4 ?c5 ?_)
      case c2 => first | rfl | (intro u hu; simp at hu; rcases hu with rfl | rfl | rfl <;> rfl) | (intro u hu; simp at hu; rcases hu with rfl | rfl | rfl | rfl <;> rfl) | simp [Value.oneCell']
      case c3 => unfold maxLen; omega
      case c4 => omega
      case c5 => first | omega | (simp; omega)
      intro v' w6 hown6 hgrow6 _
      have hq6 : Below w.heap.size w w6 := (hb5w.alloc hbz5 (.cells #[.string x0, .int .i64 x1, .int .i64 x2] 132)).grown hgrow6 (by simp; omega) (baseOf hown5.out)
      have HO6 := Lib.hid (show w6.ownsRow w.heap.size 132 3 v' (j + 1) ((l.take (j + 1)).flatMap Twn.c) by rw [HSN.out]; exact hown6)
      clear hown6 hgrow6 hown hown5
      go_wp2
      go_roundw
      case rel => exact ⟨j + 1, by omega, by go_num, HO6, hq6⟩
      case measure => simp [intOf]; omega
    · obtain rfl : j = l.length := by omega
      have hki : ¬ (l.length : Int) < (l.length : Int) := by omega
      have ho := hown.out
      rw [List.take_length] at ho
      obtain ⟨a, cv, rfl, hok⟩ := OKV.ownN Twn.c3 ho rfl
      have HOK := Lib.hid hok
      clear hok hown ho
      go_wp2
      go_ret
      exact ⟨a, cv, rfl, HOK.out, hb⟩
theorem info_lines : (Tryz.prog.info? 133).map (fun i => (i.zero, i.size, i.bytes)) = some (some (.agg #[.int .i64 0, .int .i64 0, .int .i64 0, .string ByteArray.empty]), 4, 40) := by kernel_rfl
set_option maxHeartbeats 4000000 in
set_option maxRecDepth 100000 in
theorem law_lines (A : Option Addr) (c : Nat) (l : List Lin) (w : World) (hl : l.length ≤ 1000) (hA : OKV Lin.c 4 w A c l) :
    Calls Tryz.prog 62 #[.slice A l.length c] w (SliP Lin.c 4 l w) := by
  obtain ⟨i0, hi, hz0, hz1, hz2⟩ := info_parts info_lines
  have HI := Lib.hid hi
  have HZ0 := Lib.hid hz0
  have HZ1 := Lib.hid hz1
  have HZ2 := Lib.hid hz2
  have HA := Lib.hid hA
  clear hi hz0 hz1 hz2 hA
  go_enter Tryz.func62, Tryz.ntmps62
  go_wp2_with fail
  go_loopw [3, 8] (fun v i wr => ∃ j : Nat, j ≤ l.length ∧ i = .int .i64 j ∧ Hid (wr.ownsRow w.heap.size 133 4 v j ((l.take j).flatMap Lin.c)) ∧ Below w.heap.size w wr) (fun _ i _ => l.length - (intOf i).toNat)
  case atStart => exact ⟨0, Nat.zero_le _, rfl, World.ownsRow_nil _ _ _ _, Below.refl _ _⟩
  case round =>
    obtain ⟨j, hj, rfl, hown, hb⟩ := hrel
    by_cases hlt : j < l.length
    · have hki : (j : Int) < (l.length : Int) := by omega
      have hk0 : (0 : Int) ≤ (j : Int) := by omega
      have hbz := hb.size
      obtain ⟨b, off, hAe, hB, c0, c1, c2, c3⟩ := atL (OKV.below HA.out hb).2.2.2 hlt
      subst hAe
      have HSN := Lib.hid (show (l.take (j + 1)).flatMap Lin.c = (l.take j).flatMap Lin.c ++ [.int .i64 l[j].b, .int .i64 l[j].k, .int .i64 l[j].r, .string l[j].s] by rw [List.take_succ_eq_append_getElem hlt, List.flatMap_append]; simp; rfl)
      generalize l[j].b = x0 at c0 HSN
      generalize l[j].k = x1 at c1 HSN
      generalize l[j].r = x2 at c2 HSN
      generalize l[j].s = x3 at c3 HSN
      obtain ⟨w5, hw5, k5, hb5, hz5⟩ := boxS wr (.cells #[.int .i64 x0, .int .i64 x1, .int .i64 x2, .string x3] 119)
      obtain ⟨d0, d1, d2, d3, -, -, -, -⟩ := cel4 k5
      have hb5w := tw hb hb5
      have hown5 := Lib.hid (ownTo hown.out hb5)
      have hbz5 := hb5w.size
      go_wp2_with (at_builtin; refine wpList_append_own _ rfl _ _ 99 rfl w.heap.size 133 i0 (.agg #[.int .i64 0, .int .i64 0, .int .i64 0, .string ByteArray.empty]) 4 40 Tryz.underlying99 HI.out HZ0.out HZ1.out HZ2.out rfl (by decide) _ _ _ rfl (hown5.out.alloc _) ⟨w5.heap.size, 0, none⟩ 1 1 [.int .i64 x0, .int .i64 x1, .int .i64 x2, .string x3] rfl rfl (newsH _ _ _) ?c2 ?c3 ?c4 ?c5 ?_)
      case c2 => first | rfl | (intro u hu; simp at hu; rcases hu with rfl | rfl | rfl <;> rfl) | (intro u hu; simp at hu; rcases hu with rfl | rfl | rfl | rfl <;> rfl) | simp [Value.oneCell']
      case c3 => unfold maxLen; omega
      case c4 => omega
      case c5 => first | omega | (simp; omega)
      intro v' w6 hown6 hgrow6 _
      have hq6 : Below w.heap.size w w6 := (hb5w.alloc hbz5 (.cells #[.int .i64 x0, .int .i64 x1, .int .i64 x2, .string x3] 133)).grown hgrow6 (by simp; omega) (baseOf hown5.out)
      have HO6 := Lib.hid (show w6.ownsRow w.heap.size 133 4 v' (j + 1) ((l.take (j + 1)).flatMap Lin.c) by rw [HSN.out]; exact hown6)
      clear hown6 hgrow6 hown hown5
      go_wp2
      go_roundw
      case rel => exact ⟨j + 1, by omega, by go_num, HO6, hq6⟩
      case measure => simp [intOf]; omega
    · obtain rfl : j = l.length := by omega
      have hki : ¬ (l.length : Int) < (l.length : Int) := by omega
      have ho := hown.out
      rw [List.take_length] at ho
      obtain ⟨a, cv, rfl, hok⟩ := OKV.ownN Lin.c4 ho rfl
      have HOK := Lib.hid hok
      clear hok hown ho
      go_wp2
      go_ret
      exact ⟨a, cv, rfl, HOK.out, hb⟩
end Go.Proofs.YtlkeejhaodedmaaGreatDoor

/- The law HangTwines. -/
namespace Go.Proofs.YtlkeejhaodedmaaGreatDoor
open Go.RowKit

set_option maxHeartbeats 1000000 in
theorem rfNearest0 (A : Option Addr) (c : Nat) (T : Int) (w : World) :
    Calls Tryz.prog 53 #[.slice A 0 c, .int .i64 T] w fun e w' => e = .returned (.tuple #[.int .i64 0, .int .i64 12]) ∧ Below w.heap.size w w' := by
  go_enter Tryz.func53, Tryz.ntmps53
  go_wp2_with fail
  go_ret2
  exact ⟨rfl, Below.refl _ _⟩
theorem twsX_zero {l : List Twn} (h : twsE l = 0) : l.length ≤ 32 ∧ ∀ t ∈ l, 1 ≤ t.x ∧ t.x ≤ 100000 ∧ 1 ≤ t.h ∧ t.h ≤ 100 := by
  unfold twsE at h
  split at h
  · omega
  · refine ⟨by omega, fun t ht => ?_⟩
    obtain ⟨i, hi, rfl⟩ := List.getElem_of_mem ht
    have h2 := lstE_zero twnE l [] h i hi
    rw [twnE] at h2
    obtain ⟨-, -, h3, h4⟩ := fst4_zero h2
    have := rngH_zero h3
    have := rngH_zero h4
    omega
theorem rfNear (A : Option Addr) (c : Nat) (l : List Twn) (T : Int) (w : World) (hl : l.length ≤ 1000) (hE : nrE0 l T = 0) (hA : OKV Twn.c 3 w A c l) :
    Calls Tryz.prog 53 #[.slice A l.length c, .int .i64 T] w fun e w' => e = .returned (.tuple #[.int .i64 (oz (nrE l T) (nrI l T : Nat)), .int .i64 (nrE l T)]) ∧ Below w.heap.size w w' := by
  obtain ⟨h1, h2⟩ := fst2_zero hE
  have b := rngH_zero h2
  rw [nrE, if_pos hE]
  by_cases hz : l.length = 0
  · rw [if_pos hz, ozE (by decide), hz]
    exact rfNearest0 A c T w
  · rw [if_neg hz, oz0]
    exact rfNearest A c l T w hl (by omega) ⟨by omega, b.2⟩ (fun t ht => by have := (twsX_zero h1).2 t ht; omega) hA
set_option maxHeartbeats 8000000 in
set_option maxRecDepth 100000 in
theorem lawHangTwines (A : Option Addr) (c : Nat) (l : List Twn) (T : Int) (w : World) (hT : Tab w) (hA : OKV Twn.c 3 w A c l) :
    Calls Tryz.prog 7 #[.slice A l.length c, .int .i64 T] w fun e w' => e = .returned (.bool true) ∧ Below w.heap.size w w' := by
  have HA := Lib.hid hA
  have HSH := fun w h => rfShortTwines A c l w h
  clear hA
  go_enter Tryz.func7, Tryz.ntmps7
  go_wp2_with fail
  refine (HSH _ HA.out).mono ?_
  rintro e w1 ⟨b, rfl, hb, rfl⟩
  cases b
  · go_wp2_with fail
    refine (awake6 _ hT).mono ?_
    rintro e w20 ⟨rfl, hb20⟩
    go_wp2
    go_ret
    exact ⟨rfl, hb20⟩
  · have hl : l.length ≤ 33 := hb rfl
    have HCV := fun w h => law_twines A c l w (by omega) h
    have HNR := fun A c w h => hgNearest A c l T w (by omega) h
    have HCT := fun w h => rfCheckTwines A c l w (by omega) h
    have HPT := fun A c w h => hgCheckTwines A c l w (by omega) h
    have HRN := Lib.hid (fun w hE h => rfNear A c l T w (by omega) hE h)
    have HE0 : Hid (fstE [twsE l, rngH T 1 100000] = nrE0 l T) := Lib.hid rfl
    have HNE := Lib.hid (show nrE0 l T ≠ 0 → nrE l T = nrE0 l T ∧ oz (nrE l T) (nrI l T : Nat) = 0 from fun h => by
      have e : nrE l T = nrE0 l T := by rw [nrE, if_neg h]
      exact ⟨e, by rw [e]; exact ozE h _⟩)
    generalize nrE0 l T = E0 at HRN HE0 HNE
    generalize oz (nrE l T) (nrI l T : Nat) = V at HNR HRN HNE
    generalize nrE l T = EN at HNR HRN HNE
    clear hb HSH
    go_wp2_with fail
    refine (HCV _ HA.out).mono ?_
    rintro e w2 ⟨a2, c2, rfl, h2, hb2⟩
    have H2 := Lib.hid h2
    clear h2
    go_wp2_with fail
    refine (HNR _ _ _ H2.out).mono ?_
    rintro e w3 ⟨rfl, hb3⟩
    have B := tw hb2 hb3
    clear hb2 hb3 H2
    go_wp2_with fail
    refine (HCT _ (OKV.below HA.out B)).mono ?_
    rintro e w4 ⟨rfl, hb4⟩
    replace B := tw B hb4
    clear hb4
    go_wp2_with fail
    refine (rfCheckRange _ _ _ _).mono ?_
    rintro e w5 ⟨rfl, rfl⟩
    go_wp2_with fail
    refine (rfFirst2 _ _ _ _ 3 _ (by exact newBlk _ _)).mono ?_
    rintro e w6 ⟨rfl, rfl⟩
    rw [HE0.out]
    obtain ⟨w7, hw7, hb7⟩ : ∃ w7, w4.alloc (.cells #[.int .i64 (twsE l), .int .i64 (rngH T 1 100000)] 3) = w7 ∧ Below w.heap.size w w7 := ⟨_, rfl, B.alloc B.size _⟩
    rw [hw7]
    clear hw7 B HE0
    go_upto_if 27 with fail
    go_cut [7, 8] (fun s t X => s = .int .i64 EN ∧ t = .int .i64 V ∧ Below w.heap.size w X)
    case first =>
      by_cases hE : E0 = 0
      · have hq : (E0 == 0) = true := by rw [hE]; rfl
        replace hE := Lib.hid hE
        go_wp2_with fail
        refine (HRN.out _ hE.out (OKV.below HA.out hb7)).mono ?_
        rintro e w8 ⟨rfl, hb8⟩
        go_wp2
        go_meet
        exact ⟨rfl, rfl, tw hb7 hb8⟩
      · have hq : (E0 == 0) = false := by rw [beq_eq_false_iff_ne]; exact hE
        have hz := Lib.hid (HNE.out hE)
        replace hE := Lib.hid hE
        go_wp2_with fail
        go_meet
        exact ⟨by rw [hz.out.1], by rw [hz.out.2], hb7⟩
    case rest =>
      obtain ⟨rfl, rfl, hb8⟩ := hcut
      obtain ⟨v5, rfl⟩ : ∃ V, V = wc := ⟨_, rfl⟩
      clear HNR HRN HNE hb7
      go_wp2_with fail
      refine (HCV _ (OKV.below HA.out hb8)).mono ?_
      rintro e w9 ⟨a9, c9, rfl, h9, hb9⟩
      have H9 := Lib.hid h9
      clear h9
      go_wp2_with fail
      refine (HPT _ _ _ H9.out).mono ?_
      rintro e w10 ⟨rfl, hb10⟩
      have B := tw (tw hb8 hb9) hb10
      clear hb8 hb9 hb10 H9
      go_wp2_with fail
      refine (HCT _ (OKV.below HA.out B)).mono ?_
      rintro e w11 ⟨rfl, hb11⟩
      replace B := tw B hb11
      clear hb11
      go_wp2_with fail
      refine (awake6 _ (hT.below B)).mono ?_
      rintro e w20 ⟨rfl, hb20⟩
      go_wp2
      go_ret
      exact ⟨rfl, tw B hb20⟩
end Go.Proofs.YtlkeejhaodedmaaGreatDoor

/- The law HangBills. -/
namespace Go.Proofs.YtlkeejhaodedmaaGreatDoor
open Go.RowKit

theorem fst3_1 (a b c : Int) : fstE [a, b, c] = if a = 0 then fstE [b, c] else a := by
  simp only [fstE]
theorem rfBill (At : Option Addr) (ct : Nat) (tb : List Twn) (A : Option Addr) (c : Nat) (l : List Lin) (a : Int) (w : World) (hz : bilE0 tb l a = 0) (hT : OKV Twn.c 3 w At ct tb) (hA : OKV Lin.c 4 w A c l) :
    Calls Tryz.prog 64 #[.slice At tb.length ct, .slice A l.length c, .int .i64 a] w (ListP Sm.c 3 (ozL (bilE tb l a) (bilL tb l a)) (bilE tb l a) w) := by
  obtain ⟨r1, r2, r3⟩ := fst3_zero hz
  obtain ⟨g1, g2⟩ := twsX_zero r1
  obtain ⟨g3, g4, -⟩ := lnsE_zero r2
  have g5 := rngH_zero r3
  obtain ⟨n, rfl⟩ : ∃ x : Nat, a = (x : Int) := ⟨a.toNat, by omega⟩
  have hE : (if (tb.map (smM (lenS n l))).any smB = true then 4 else 0) = bilE tb l (n : Int) := by rw [bilE, if_pos hz, bilL, Int.toNat_natCast]
  have h := rfBillN At ct tb A c l n w g1 g3 (by omega) g4 g2 hT hA _ hE
  rw [bilL, Int.toNat_natCast]
  exact h
/-- A list of sums, and nothing else has changed. -/
def SumsP (V : List Sm) (w : World) (t : Value) (X : World) : Prop := ∃ a c, t = .slice a V.length c ∧ OKV Sm.c 3 X a c V ∧ Below w.heap.size w X
theorem info_sum6b : (Tryz.prog.info? 107).map (fun i => (i.zero, i.size, i.bytes)) = some (some (.agg #[.int .i64 0, .int .i64 0, .int .i64 0]), 3, 24) := by kernel_rfl
set_option maxHeartbeats 8000000 in
set_option maxRecDepth 100000 in
theorem lawHangBills (At : Option Addr) (ct : Nat) (tb : List Twn) (A : Option Addr) (c : Nat) (l : List Lin) (a : Int) (w : World) (hT : Tab w) (hTb : OKV Twn.c 3 w At ct tb) (hA : OKV Lin.c 4 w A c l) :
    Calls Tryz.prog 9 #[.slice At tb.length ct, .slice A l.length c, .int .i64 a] w fun e w' => e = .returned (.bool true) ∧ Below w.heap.size w w' := by
  have HA := Lib.hid hA
  have HTB := Lib.hid hTb
  have HSH := fun w h => rfShortTwines At ct tb w h
  have HSL := fun w h => rfShortLines A c l w h
  clear hA hTb
  go_enter Tryz.func9, Tryz.ntmps9
  go_wp2_with fail
  refine (HSH _ HTB.out).mono ?_
  rintro e w1 ⟨b, rfl, hb, rfl⟩
  cases b
  · clear hb HSH HSL
    go_wp2_with fail
    refine (awake6 _ hT).mono ?_
    rintro e w20 ⟨rfl, hb20⟩
    go_wp2
    go_ret
    exact ⟨rfl, hb20⟩
  · have htl : tb.length ≤ 33 := hb rfl
    clear hb HSH
    go_wp2_with fail
    refine (HSL _ HA.out).mono ?_
    rintro e w1 ⟨b, rfl, hb, rfl⟩
    cases b
    · clear hb HSL
      go_wp2_with fail
      refine (awake6 _ hT).mono ?_
      rintro e w20 ⟨rfl, hb20⟩
      go_wp2
      go_ret
      exact ⟨rfl, hb20⟩
    · have hl : l.length ≤ 65 := hb rfl
      clear hb HSL
      have HCV := fun w h => law_twines At ct tb w (by omega) h
      have HCL := fun w h => law_lines A c l w (by omega) h
      have HBI := fun At ct A c w h h' => hgBill At ct tb A c l a w (by omega) (by omega) h h'
      have HCT := fun w h => rfCheckTwines At ct tb w (by omega) h
      have HCI := fun w h h' => rfCheckLines At ct tb A c l w (by omega) (by omega) h h'
      have HRN := Lib.hid (fun w hE h h' => rfBill At ct tb A c l a w hE h h')
      have HE0 := Lib.hid (show bilE0 tb l a = if twsE tb = 0 then fstE [lnsE tb l, rngH a 0 100] else twsE tb from fst3_1 _ _ _)
      have HNE := Lib.hid (show bilE0 tb l a ≠ 0 → bilE tb l a = bilE0 tb l a ∧ ozL (bilE tb l a) (bilL tb l a) = [] from fun h => by
        have e : bilE tb l a = bilE0 tb l a := by rw [bilE, if_neg h]
        exact ⟨e, by rw [e]; exact ozLE h _⟩)
      have HLN := Lib.hid (show (ozL (bilE tb l a) (bilL tb l a)).length ≤ 100000 by
        unfold ozL bilL
        split
        · rw [List.length_map]; omega
        · simp)
      generalize bilE0 tb l a = E0 at HRN HE0 HNE
      generalize ozL (bilE tb l a) (bilL tb l a) = V at HBI HRN HNE HLN
      generalize bilE tb l a = EN at HBI HRN HNE
      go_wp2_with fail
      refine (HCV _ HTB.out).mono ?_
      rintro e w2 ⟨a2, c2, rfl, h2, hb2⟩
      have H2 := Lib.hid h2
      clear h2
      go_wp2_with fail
      refine (HCL _ (OKV.below HA.out hb2)).mono ?_
      rintro e w3 ⟨a3, c3, rfl, h3, hb3⟩
      have H3 := Lib.hid h3
      replace H2 := Lib.hid (OKV.below H2.out hb3)
      clear h3
      go_wp2_with fail
      refine (HBI _ _ _ _ _ H2.out H3.out).mono ?_
      rintro e w4 ⟨a4, c4, rfl, h4, hb4⟩
      have B := tw (tw hb2 hb3) hb4
      have H4 := Lib.hid h4
      clear hb2 hb3 hb4 H2 H3 h4 HBI HCV HCL
      go_wp2_with fail
      refine (HCT _ (OKV.below HTB.out B)).mono ?_
      rintro e w5 ⟨rfl, hb5⟩
      replace H4 := Lib.hid (OKV.below H4.out hb5)
      replace B := tw B hb5
      clear hb5 HCT
      obtain ⟨T0, hT0⟩ : ∃ x, twsE tb = x := ⟨_, rfl⟩
      rw [hT0] at HE0 ⊢
      clear hT0
      go_upto_if 35 with fail
      go_cut [9] (fun s X => s = .int .i64 E0 ∧ Below w5.heap.size w5 X)
      case first =>
        by_cases hE : T0 = 0
        · have hq : (T0 == 0) = true := by rw [hE]; rfl
          have HE1 := Lib.hid (show E0 = fstE [lnsE tb l, rngH a 0 100] by rw [HE0.out, if_pos hE])
          replace hE := Lib.hid hE
          go_wp2_with fail
          refine (HCI _ (OKV.below HTB.out B) (OKV.below HA.out B)).mono ?_
          rintro e w6 ⟨rfl, hb6⟩
          go_wp2_with fail
          refine (rfCheckRange _ _ _ _).mono ?_
          rintro e w7 ⟨rfl, rfl⟩
          go_wp2_with fail
          refine (rfFirst2 _ _ _ _ 3 _ (by exact newBlk _ _)).mono ?_
          rintro e w7 ⟨rfl, rfl⟩
          rw [← HE1.out]
          go_wp2_with fail
          go_meet
          exact ⟨rfl, hb6.alloc hb6.size _⟩
        · have hq : (T0 == 0) = false := by rw [beq_eq_false_iff_ne]; exact hE
          have HE1 := Lib.hid (show E0 = T0 by rw [HE0.out, if_neg hE])
          replace hE := Lib.hid hE
          go_wp2_with fail
          go_meet
          exact ⟨by rw [HE1.out], Below.refl _ _⟩
      case rest =>
        obtain ⟨rfl, hb8⟩ := hcut
        obtain ⟨v5, rfl⟩ : ∃ V, V = wc := ⟨_, rfl⟩
        replace H4 := Lib.hid (OKV.below H4.out hb8)
        replace B := tw B hb8
        clear hb8 HE0 HCI
        go_upto_if 44 with fail
        go_cut [9, 10] (fun s t X => s = .int .i64 EN ∧ SumsP V v5 t X)
        case first =>
          by_cases hE : E0 = 0
          · have hq : (E0 == 0) = true := by rw [hE]; rfl
            replace hE := Lib.hid hE
            go_wp2_with fail
            refine (HRN.out _ hE.out (OKV.below HTB.out B) (OKV.below HA.out B)).mono ?_
            rintro e w6 ⟨a6, c6, rfl, h6, hb6⟩
            have H6 := Lib.hid h6
            clear h6
            go_wp2
            go_meet
            exact ⟨rfl, a6, c6, rfl, H6.out, hb6⟩
          · have hq : (E0 == 0) = false := by rw [beq_eq_false_iff_ne]; exact hE
            have hz := Lib.hid (HNE.out hE)
            replace hE := Lib.hid hE
            go_wp2_with fail
            go_meet
            exact ⟨by rw [hz.out.1], none, 0, by rw [hz.out.2]; rfl, by rw [hz.out.2]; exact OKV.none _ _ _, Below.refl _ _⟩
        case rest =>
          obtain ⟨rfl, a9, c9, rfl, h9, hb9⟩ := hcut
          obtain ⟨v6, rfl⟩ : ∃ V, V = wc := ⟨_, rfl⟩
          have H9 := Lib.hid h9
          replace H4 := Lib.hid (OKV.below H4.out hb9)
          replace B := tw B hb9
          clear hb9 HRN HNE h9
          obtain ⟨i0, hi, hz0, hz1, hz2⟩ := info_parts info_sum6b
          have HI := Lib.hid hi
          have HZ0 := Lib.hid hz0
          have HZ1 := Lib.hid hz1
          have HZ2 := Lib.hid hz2
          clear hi hz0 hz1 hz2
          have hln := HLN.out
          go_wp2_with fail
          go_loopw [11, 54] (fun v i wr => ∃ j : Nat, j ≤ V.length ∧ i = .int .i64 j ∧ Hid (wr.ownsRow v6.heap.size 107 3 v j ((V.take j).flatMap Sm.c)) ∧ Below v6.heap.size v6 wr) (fun _ i _ => V.length - (intOf i).toNat)
          case atStart => exact ⟨0, Nat.zero_le _, rfl, World.ownsRow_nil _ _ _ _, Below.refl _ _⟩
          case round =>
            obtain ⟨j, hj, rfl, hown, hb⟩ := hrel
            by_cases hlt : j < V.length
            · have hki : (j : Int) < (V.length : Int) := by omega
              have hk0 : (0 : Int) ≤ (j : Int) := by omega
              have hbz := hb.size
              obtain ⟨b, off, hAe, hB, c0, c1, c2⟩ := atM (OKV.below H4.out hb).2.2.2 hlt
              subst hAe
              have HSN := Lib.hid (show (V.take (j + 1)).flatMap Sm.c = (V.take j).flatMap Sm.c ++ [.int .i64 V[j].l, .int .i64 V[j].w, .int .i64 V[j].a] by rw [List.take_succ_eq_append_getElem hlt, List.flatMap_append]; simp; rfl)
              generalize V[j].l = x0 at c0 HSN
              generalize V[j].w = x1 at c1 HSN
              generalize V[j].a = x2 at c2 HSN
              obtain ⟨w5', hw5, k5, hb5, hz5⟩ := boxS wr (.cells #[.int .i64 x0, .int .i64 x1, .int .i64 x2] 106)
              obtain ⟨d0, d1, d2, -, -, -⟩ := cel3 k5
              have hb5w := tw hb hb5
              have hown5 := Lib.hid (ownTo hown.out hb5)
              have hbz5 := hb5w.size
              go_wp2_with (at_builtin; refine wpList_append_own _ rfl _ _ 102 rfl v6.heap.size 107 i0 (.agg #[.int .i64 0, .int .i64 0, .int .i64 0]) 3 24 Tryz.underlying102 HI.out HZ0.out HZ1.out HZ2.out rfl (by decide) _ _ _ rfl (hown5.out.alloc _) ⟨w5'.heap.size, 0, none⟩ 1 1 [.int .i64 x0, .int .i64 x1, .int .i64 x2] rfl rfl (newsH _ _ _) ?c2 ?c3 ?c4 ?c5 ?_)
              case c2 => first | rfl | (intro u hu; simp at hu; rcases hu with rfl | rfl | rfl <;> rfl) | simp [Value.oneCell']
              case c3 => unfold maxLen; omega
              case c4 => omega
              case c5 => first | omega | (simp; omega)
              intro v' w6' hown6 hgrow6 _
              have hq6 : Below v6.heap.size v6 w6' := (hb5w.alloc hbz5 (.cells #[.int .i64 x0, .int .i64 x1, .int .i64 x2] 107)).grown hgrow6 (by simp; omega) (baseOf hown5.out)
              have HO6 := Lib.hid (show w6'.ownsRow v6.heap.size 107 3 v' (j + 1) ((V.take (j + 1)).flatMap Sm.c) by rw [HSN.out]; exact hown6)
              clear hown6 hgrow6 hown hown5
              go_wp2
              go_roundw
              case rel => exact ⟨j + 1, by omega, by go_num, HO6, hq6⟩
              case measure => simp [intOf]; omega
            · obtain rfl : j = V.length := by omega
              have hki : ¬ (V.length : Int) < (V.length : Int) := by omega
              have ho := hown.out
              rw [List.take_length] at ho
              obtain ⟨av, cv, rfl, hok⟩ := OKV.ownN Sm.c3 ho rfl
              have HOK := Lib.hid hok
              replace H9 := Lib.hid (OKV.below H9.out hb)
              replace B := tw B hb
              clear hok hown ho hb H4
              go_wp2_with fail
              refine (rfSameSums av a9 cv c9 V.length V.length V _ rfl rfl hln HOK.out.2.2.2 H9.out.2.2.2).mono ?_
              rintro e w10 ⟨rfl, hb10⟩
              go_wp2_with fail
              refine (awake6 _ (hT.below (tw B hb10))).mono ?_
              rintro e w20 ⟨rfl, hb20⟩
              go_wp2
              go_ret
              exact ⟨rfl, tw (tw B hb10) hb20⟩
end Go.Proofs.YtlkeejhaodedmaaGreatDoor

/- Lists of the small structs of chapter 6 as arguments. -/
namespace Go.Proofs.YtlkeejhaodedmaaGreatDoor
open Go.ChangeShapes Go.WideShapes Go.ChangeAt Go.WideMaps Go.WideElems Go.RowKit Go.Deep

section
variable {H : Type} {enc : TypeId × Value → H} {w : World} {spare : Nat → Bool} {held : Bool}
set_option maxRecDepth 100000 in
/-- The argument is nil, or a slice that reads as a list. -/
theorem open_rows {α : Type} {cd : α → List Value} {k : Nat} (dflt : α) (hk0 : 0 < k) (hlen : ∀ a, (cd a).length = k) {S T : TypeId} (hS : Tryz.prog.underlying S = some (.slice T)) (hC : Tryz.prog.cellsOf T = k)
    (hcell : ∀ (n : Nat) (cs : List Value) (x : DataW H × List MemPlace), DataW.trod enc Tryz.prog w 0 spare held n T cs = some x → ∃ a, cs = cd a)
    {v : Value} {d : DataW H} {p : List MemPlace} {r : Reach} {b0 : Nat} (hv : Value.okWide Tryz.prog w r b0 S v) (h : DataW.Trod enc Tryz.prog w 0 spare held S v d p) :
    ∃ (A : Option Addr) (c : Nat) (l : List α), v = .slice A l.length c ∧ OKV cd k w A c l := by
  obtain ⟨a, len, cap, rfl⟩ := okWide_slice hS hv
  obtain ⟨fuel, hf⟩ := h
  rcases open_slice hS hf with ⟨hcs, _⟩ | ⟨a', len', cap', m, n, D, Pl, hcs, hb, hl, hm, hmm, hx, hi⟩
  · simp [Value.cells] at hcs
    obtain ⟨rfl, rfl, rfl⟩ := hcs
    exact ⟨none, 0, [], rfl, Nat.le_refl _, by unfold maxLen; omega, fun _ => rfl, RV.nil _ _ _⟩
  · simp [Value.cells] at hcs
    obtain ⟨rfl, rfl, rfl⟩ := hcs
    rw [hC] at hi hx
    have hle : len ≤ m := by rw [hmm]; split <;> omega
    have each : ∀ i, ∃ b : α, i < len → ∀ j, j < k → w.cell? ((a'.add (i * k)).add j) = (cd b)[j]? := fun i => by
      by_cases hi' : i < len
      · obtain ⟨cs', h1, h2⟩ := hi i (by omega)
        obtain ⟨b, rfl⟩ := hcell _ _ _ h2
        obtain ⟨_, _, h3⟩ := World.cells?_some h1
        exact ⟨b, fun _ => h3⟩
      · exact ⟨dflt, fun h => absurd h hi'⟩
    obtain ⟨f, hf'⟩ := Classical.axiomOfChoice each
    have hlenL : ((List.range len).map f).length = len := by simp
    refine ⟨some a', cap, (List.range len).map f, by rw [hlenL], by rw [hlenL]; exact hl, hm, (fun h => by cases h), fun hpos => ?_⟩
    rw [hlenL] at hpos
    obtain ⟨blk, off, spot⟩ := a'
    have h0 := hf' 0 hpos 0 hk0
    obtain ⟨u0, hu0⟩ : ∃ u, (cd (f 0))[0]? = some u := ⟨_, List.getElem?_eq_getElem (by rw [hlen]; exact hk0)⟩
    rw [hu0] at h0
    have hspot : spot = none := by
      cases spot with
      | none => rfl
      | some s =>
        simp [Addr.add, World.cell?] at h0
        split at h0 <;> simp at h0
    subst hspot
    have hadd : ∀ o j, (⟨blk, o, none⟩ : Addr).add j = ⟨blk, o + j, none⟩ := fun o j => by
      unfold Addr.add
      split
      · simp
      · rfl
    have hblk : blk < w.heap.size := by
      rw [hadd, hadd] at h0
      unfold World.cell? at h0
      cases hh : w.heap[blk]? with
      | none => simp [hh] at h0
      | some o => exact (Array.getElem?_eq_some_iff.1 hh).1
    refine ⟨blk, off, rfl, hblk, fun i hi' j u hu => ?_⟩
    rw [hlenL] at hi'
    have hg : ((List.range len).map f)[i]'(by simpa using hi') = f i := by simp
    rw [hg] at hu
    have hj : j < k := by rw [← hlen (f i)]; exact (List.getElem?_eq_some_iff.1 hu).1
    have h3 := hf' i hi' j hj
    rw [hadd, hadd, hu] at h3
    exact h3
set_option maxRecDepth 100000 in
theorem rat_cells {n : Nat} {cs : List Value} {x : DataW H × List MemPlace} (h : DataW.trod enc Tryz.prog w 0 spare held n 23 cs = some x) : ∃ a b, cs = [.int .i64 a, .int .i64 b] := by
  have hS : Tryz.prog.underlying 23 = some (.struct (Tryz.prog.fieldsOf 23)) := by kernel_rfl
  obtain ⟨xs, m, _, _, hl, hx, hf⟩ := DataW.trod_struct Tryz.underlying23 h
  have hC : Tryz.prog.cellsOf 23 = 2 := by kernel_rfl
  have c3 : Tryz.prog.cellsOf 3 = 1 := by kernel_rfl
  rw [hC] at hl
  match cs, hl, xs, hx with
  | [c0, c1], _, [x0, x1], _ =>
    have h0 := hf 0 _ rfl
    have h1 := hf 1 _ rfl
    simp [c3] at h0 h1
    obtain ⟨n0, e0, _⟩ := DataW.trod_int Tryz.underlying3 h0
    obtain ⟨n1, e1, _⟩ := DataW.trod_int Tryz.underlying3 h1
    simp only [List.cons.injEq, and_true] at e0 e1
    exact ⟨n0, n1, by rw [e0, e1]⟩
set_option maxRecDepth 100000 in
theorem sec_cells (n : Nat) (cs : List Value) (x : DataW H × List MemPlace) (h : DataW.trod enc Tryz.prog w 0 spare held n 112 cs = some x) : ∃ a : Sec, cs = a.c := by
  obtain ⟨xs, m, _, _, hl, hx, hf⟩ := DataW.trod_struct Tryz.underlying112 h
  have hC : Tryz.prog.cellsOf 112 = 3 := by kernel_rfl
  have c3 : Tryz.prog.cellsOf 3 = 1 := by kernel_rfl
  have c4 : Tryz.prog.cellsOf 23 = 2 := by kernel_rfl
  rw [hC] at hl
  match cs, hl, xs, hx with
  | [c0, c1, c2], _, [x0, x1], _ =>
    have h0 := hf 0 _ rfl
    have h1 := hf 1 _ rfl
    simp [c3, c4] at h0 h1
    obtain ⟨n0, e0, _⟩ := DataW.trod_int Tryz.underlying3 h0
    obtain ⟨n1, n2, e1⟩ := rat_cells h1
    simp only [List.cons.injEq, and_true] at e0 e1
    exact ⟨⟨n0, n1, n2⟩, by rw [e0, e1.1, e1.2]; rfl⟩
set_option maxRecDepth 100000 in
theorem twn_cells (n : Nat) (cs : List Value) (x : DataW H × List MemPlace) (h : DataW.trod enc Tryz.prog w 0 spare held n 121 cs = some x) : ∃ a : Twn, cs = a.c := by
  obtain ⟨xs, m, _, _, hl, hx, hf⟩ := DataW.trod_struct Tryz.underlying121 h
  have hC : Tryz.prog.cellsOf 121 = 3 := by kernel_rfl
  have c3 : Tryz.prog.cellsOf 3 = 1 := by kernel_rfl
  have c4 : Tryz.prog.cellsOf 9 = 1 := by kernel_rfl
  rw [hC] at hl
  match cs, hl, xs, hx with
  | [c0, c1, c2], _, [x0, x1, x2], _ =>
    have h0 := hf 0 _ rfl
    have h1 := hf 1 _ rfl
    have h2 := hf 2 _ rfl
    simp [c3, c4] at h0 h1 h2
    obtain ⟨n0, e0, _⟩ := DataW.trod_string Tryz.underlying9 h0
    obtain ⟨n1, e1, _⟩ := DataW.trod_int Tryz.underlying3 h1
    obtain ⟨n2, e2, _⟩ := DataW.trod_int Tryz.underlying3 h2
    simp only [List.cons.injEq, and_true] at e0 e1 e2
    exact ⟨⟨n0, n1, n2⟩, by rw [e0, e1, e2]; rfl⟩
set_option maxRecDepth 100000 in
theorem lin_cells (n : Nat) (cs : List Value) (x : DataW H × List MemPlace) (h : DataW.trod enc Tryz.prog w 0 spare held n 119 cs = some x) : ∃ a : Lin, cs = a.c := by
  obtain ⟨xs, m, _, _, hl, hx, hf⟩ := DataW.trod_struct Tryz.underlying119 h
  have hC : Tryz.prog.cellsOf 119 = 4 := by kernel_rfl
  have c3 : Tryz.prog.cellsOf 3 = 1 := by kernel_rfl
  have c4 : Tryz.prog.cellsOf 9 = 1 := by kernel_rfl
  rw [hC] at hl
  match cs, hl, xs, hx with
  | [c0, c1, c2, c3'], _, [x0, x1, x2, x3], _ =>
    have h0 := hf 0 _ rfl
    have h1 := hf 1 _ rfl
    have h2 := hf 2 _ rfl
    have h3 := hf 3 _ rfl
    simp [c3, c4] at h0 h1 h2 h3
    obtain ⟨n0, e0, _⟩ := DataW.trod_int Tryz.underlying3 h0
    obtain ⟨n1, e1, _⟩ := DataW.trod_int Tryz.underlying3 h1
    obtain ⟨n2, e2, _⟩ := DataW.trod_int Tryz.underlying3 h2
    obtain ⟨n3, e3, _⟩ := DataW.trod_string Tryz.underlying9 h3
    simp only [List.cons.injEq, and_true] at e0 e1 e2 e3
    exact ⟨⟨n0, n1, n2, n3⟩, by rw [e0, e1, e2, e3]; rfl⟩
end
set_option maxRecDepth 100000 in
theorem open_secs {H : Type} {enc : TypeId × Value → H} {w : World} {spare : Nat → Bool} {held : Bool} {v : Value} {d : DataW H} {p : List MemPlace} {r : Reach} {b0 : Nat} (hv : Value.okWide Tryz.prog w r b0 60 v) (h : DataW.Trod enc Tryz.prog w 0 spare held 60 v d p) :
    ∃ (A : Option Addr) (c : Nat) (l : List Sec), v = .slice A l.length c ∧ OKV Sec.c 3 w A c l :=
  open_rows ⟨0, 0, 0⟩ (by decide) Sec.c3 Tryz.underlying60 (by kernel_rfl) sec_cells hv h
set_option maxRecDepth 100000 in
theorem open_twns {H : Type} {enc : TypeId × Value → H} {w : World} {spare : Nat → Bool} {held : Bool} {v : Value} {d : DataW H} {p : List MemPlace} {r : Reach} {b0 : Nat} (hv : Value.okWide Tryz.prog w r b0 78 v) (h : DataW.Trod enc Tryz.prog w 0 spare held 78 v d p) :
    ∃ (A : Option Addr) (c : Nat) (l : List Twn), v = .slice A l.length c ∧ OKV Twn.c 3 w A c l :=
  open_rows ⟨⟨#[]⟩, 0, 0⟩ (by decide) Twn.c3 Tryz.underlying78 (by kernel_rfl) twn_cells hv h
set_option maxRecDepth 100000 in
theorem open_lins {H : Type} {enc : TypeId × Value → H} {w : World} {spare : Nat → Bool} {held : Bool} {v : Value} {d : DataW H} {p : List MemPlace} {r : Reach} {b0 : Nat} (hv : Value.okWide Tryz.prog w r b0 94 v) (h : DataW.Trod enc Tryz.prog w 0 spare held 94 v d p) :
    ∃ (A : Option Addr) (c : Nat) (l : List Lin), v = .slice A l.length c ∧ OKV Lin.c 4 w A c l :=
  open_rows ⟨0, 0, 0, ⟨#[]⟩⟩ (by decide) Lin.c4 Tryz.underlying94 (by kernel_rfl) lin_cells hv h
end Go.Proofs.YtlkeejhaodedmaaGreatDoor

namespace Go.Proofs.YtlkeejhaodedmaaGreatDoor
open Go.ChangeShapes Go.WideShapes Go.ChangeAt Go.WideMaps Go.WideElems Go.RowKit

set_option maxRecDepth 100000 in
theorem bills_lifted (os : Os) (started : os.Started) (H : Type) (enc : TypeId × Value → H) :
    ReturnsInHanded {} Tryz.checked os 9 .any (fun w args => (Rows.hangBillsSpec.pre enc Tryz.prog Tryz.f9 [] false w args ∧ laidMetH Tryz.prog haLaid w) ∧ sizedMet enc Tryz.prog Tryz.f9 (OpenSpec.ofChange Rows.hangBillsSpec) false w args)
      (Rows.hangBillsSpec.post enc Tryz.prog Tryz.f9 false true false false) := by
  refine returnsInHanded_of_change_and (C := Tryz.checked) (X := fun w _ => laidMetH Tryz.prog haLaid w) (fun _ _ _ hh h => h.of_heap hh) Tryz.ownT started (by kernel_rfl) Tryz.func9
    (ChangeSpec.witness_shaped (enc := enc) (C := Tryz.checked) (os := os) (X := fun w _ => laidMetH Tryz.prog haLaid w) false (World.laidAll Tryz.prog os haLaid) #[.slice none 0 0, .slice none 0 0, .int .i64 0] 8 (World.laidAll_os _ _ _) (World.shaped_of_ZipB (by kernel_rfl) (by kernel_rfl)) (by kernel_rfl) (by kernel_rfl) (by kernel_rfl) (door_met os _)) ?_
  intro W base args ds gs before hval0 hW _ _ hL _
  have hval : ∀ (j : Nat) t v, Tryz.f9.params[j]? = some t → args[j]? = some v → Value.okWide Tryz.prog W .any base t v := hval0
  have hW' := hW
  obtain ⟨p, q, hA0, hV, rfl, hfz, hnd⟩ := hW
  have hA : DataW.TrodAll enc Tryz.prog W 0 (fun _ => true) true Tryz.f9.params.toList args.toList ds p := hA0
  rw [Tryz.params9] at hA hval
  obtain ⟨v0, v1, v2, d0, d1, d2, p0, p1, p2, rfl, rfl, rfl, h0, h1, h2⟩ := trodAll_three hA
  obtain ⟨rfl, rfl⟩ := trodVars_none hV
  clear hA0 hval0
  simp only [List.append_nil] at hW'
  have hlt : ∀ x ∈ p0 ++ p1 ++ p2, x.block < W.heap.size := fun x hx => by simpa using hW'.lt x hx
  obtain ⟨A0, c0, l0, rfl, ok0⟩ := open_twns (hval 0 78 v0 rfl rfl) h0
  obtain ⟨A1, c1, l1, rfl, ok1⟩ := open_lins (hval 1 94 v1 rfl rfl) h1
  obtain ⟨z20, rfl⟩ := open_intv (hval 2 3 v2 rfl rfl)
  have harg0 : ∀ (W' : World), Below W.heap.size W W' → DataW.Trod enc Tryz.prog W' 0 (fun b => decide (b < W.heap.size)) true 78 (.slice A0 l0.length c0) d0 p0 :=
    fun W' hn => Below.trod Tryz.laidOutT (by kernel_rfl) (of_decide_eq_true (by kernel_rfl)) h0 hn (fun x hx => hlt x (List.mem_append_left _ (List.mem_append_left _ hx)))
  have harg1 : ∀ (W' : World), Below W.heap.size W W' → DataW.Trod enc Tryz.prog W' 0 (fun b => decide (b < W.heap.size)) true 94 (.slice A1 l1.length c1) d1 p1 :=
    fun W' hn => Below.trod Tryz.laidOutT (by kernel_rfl) (of_decide_eq_true (by kernel_rfl)) h1 hn (fun x hx => hlt x (List.mem_append_left _ (List.mem_append_right _ hx)))
  have harg2 : ∀ (W' : World), Below W.heap.size W W' → DataW.Trod enc Tryz.prog W' 0 (fun b => decide (b < W.heap.size)) true 3 (.int .i64 z20) d2 p2 :=
    fun W' hn => Below.trod Tryz.laidOutT (by kernel_rfl) (of_decide_eq_true (by kernel_rfl)) h2 hn (fun x hx => hlt x (List.mem_append_right _ hx))
  refine (lawHangBills A0 c0 l0 A1 c1 l1 z20 W (tab_met hL) ok0 ok1).mono fun e W' ⟨he, hb⟩ => ?_
  subst he
  refine ⟨_, rfl, _, _, _, [], p0 ++ p1 ++ p2, [], hW', ?_, by rw [List.append_assoc]; exact trodAll_mk3 (harg0 W' hb) (harg1 W' hb) (harg2 W' hb), rfl, hb.frame _, fun h => by cases h⟩
  exact trodAll_mk1 (shut_bool Tryz.underlying4 true)
set_option maxHeartbeats 8000000 in
theorem bills_joined : joinedFacts Tryz.prog 9 Tryz.f9 Rows.hangBillsSpec Rows.hangBillsRow = true := by
  unfold joinedFacts
  simp only [Bool.and_eq_true]
  and_intros
  all_goals (as_aux_lemma => kernel_rfl)
theorem bills_holds : Rows.HangBillsSaid :=
  OpenClaim.holds_of_wide 9 Tryz.f9 rfl rfl rfl rfl rfl rfl rfl ⟨rfl, rfl, rfl, rfl, rfl⟩ rfl rfl rfl rfl rfl (by kernel_rfl) Tryz.func9 bills_joined
    (of_decide_eq_true (by kernel_rfl)) (by unfold Func.isWrapper; first | (rw [if_pos (by decide +kernel)]; kernel_rfl) | (rw [if_neg (by decide +kernel)]; exact ⟨rfl, rfl⟩))
    (fun os started H enc _ => bills_lifted os started H enc)
theorem bills_card : Rows.HangBillsCardSaid :=
  Claim7.holds_tied_plain_at .later [] [.data] true (true, "bb9c8a1f3b87a99a73053614bf73ec5a74d01f458fba8a9eee33de806b476934") false
    bills_holds (fun _ h => by cases h) (by kernel_rfl) (fun _ h => by cases h) hangBills_row_tie rfl ⟨rfl, rfl⟩ (by kernel_rfl) rfl
    (fun f fn hf hfn => by
      obtain rfl : f = 9 := Option.some.inj ((show Tryz.prog.funcNamed "codend/codendlaw06.HangBills" = some 9 by kernel_rfl).symm.trans hf) |>.symm
      obtain rfl : fn = Tryz.f9 := (Option.some.inj (Tryz.func9.symm.trans hfn)).symm
      exact ⟨by kernel_rfl, fun j t ht => by
        rw [Tryz.params9] at ht
        have hm : t ∈ [78, 94, 3] := by simpa using Array.mem_of_getElem? ht
        have hall : ([78, 94, 3].all fun u => !Tryz.prog.wantsStandIn u) = true := by kernel_rfl
        exact (show Tryz.prog.wantsStandIn t = false by simpa using List.all_eq_true.1 hall t hm)⟩)
    (by kernel_rfl)
#print axioms bills_card
end Go.Proofs.YtlkeejhaodedmaaGreatDoor
