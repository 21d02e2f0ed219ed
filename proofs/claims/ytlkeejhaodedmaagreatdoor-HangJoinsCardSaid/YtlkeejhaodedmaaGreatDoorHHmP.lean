/- HangJoins: marks of a rope follow each other by the widths of single meshes, and a rope is cut into two parts anywhere, for all sections that the statement asks about. -/
import Derived.Test.YtlkeejhaodedmaaGreatDoorH4
import Derived.BigQuiet
import Derived.Deep.DeepCutAuto
import Derived.StillTailTactics
import Derived.Deep.Slices
import Derived.Deep.Fields
/- The law HangWeights. -/
namespace Go.Proofs.YtlkeejhaodedmaaGreatDoor
open Go.RowKit

set_option maxHeartbeats 400000 in
theorem rfCheckRange (n lo hi : Int) (w : World) :
    Calls Tryz.prog 27 #[.int .i64 n, .int .i64 lo, .int .i64 hi] w fun e w' => e = .returned (.int .i64 (rngH n lo hi)) ∧ w = w' := by
  unfold rngH
  by_cases h1 : n < lo
  · go_enter Tryz.func27, Tryz.ntmps27
    go_wp2
    go_ret
    simp
  · by_cases h2 : hi < n
    all_goals
      go_enter Tryz.func27, Tryz.ntmps27
      go_wp2
      go_ret
      simp <;> omega
set_option maxHeartbeats 400000 in
theorem rfFirst (b c : Nat) (es : List Int) (w : World) (hn : es.length ≤ 100) (hc : ∀ i (h : i < es.length), w.cell? ⟨b, i, none⟩ = some (.int .i64 es[i])) :
    Calls Tryz.prog 26 #[.slice (some ⟨b, 0, none⟩) es.length c] w fun e w' => e = .returned (.int .i64 (fstE es)) ∧ w = w' := by
  have HC := Lib.hid hc
  have hn' : (es.length : Int) ≤ 100 := by omega
  clear hc
  go_enter Tryz.func26, Tryz.ntmps26
  go_wp2_with fail
  go_loop [3] (fun i => ∃ k : Nat, k ≤ es.length ∧ i = .int .i64 k ∧ fstE es = fstE (es.drop k)) (fun i => es.length - (intOf i).toNat)
  case atStart => exact ⟨0, Nat.zero_le _, rfl, rfl⟩
  case round =>
    obtain ⟨k, hk, rfl, he⟩ := hrel
    have HE := Lib.hid he
    clear he
    by_cases hlt : k < es.length
    · have hcell := HC.out k hlt
      by_cases hz : es[k] = 0
      · have HF := Lib.hid (show fstE (es.drop k) = fstE (es.drop (k + 1)) by
          rw [List.drop_eq_getElem_cons hlt]
          simp only [fstE, hz, if_true])
        rw [hz] at hcell
        clear hz
        go_wp2
        go_round
        case rel => exact ⟨k + 1, by omega, by go_num, HE.out.trans HF.out⟩
        case measure => simp [intOf]; omega
      · have HF := Lib.hid (show fstE (es.drop k) = es[k] by
          rw [List.drop_eq_getElem_cons hlt]
          simp only [fstE, if_neg hz])
        have hz1 : (es[k] != 0) = true := by rw [bne_iff_ne]; exact hz
        clear hz
        go_wp2
        go_ret
        exact ⟨ret_i (HE.out.trans HF.out).symm, rfl⟩
    · obtain rfl : k = es.length := by omega
      have HF := Lib.hid (show fstE (es.drop es.length) = 0 by rw [List.drop_length]; rfl)
      go_wp2
      go_ret
      exact ⟨ret_i (HE.out.trans HF.out).symm, rfl⟩
theorem rfFirst2 (g d : Nat) (a b : Int) (t : TypeId) (w : World) (h : w.heap[g]? = some (.cells #[.int .i64 a, .int .i64 b] t (0, 0))) :
    Calls Tryz.prog 26 #[.slice (some ⟨g, 0, none⟩) 2 d] w fun e w' => e = .returned (.int .i64 (fstE [a, b])) ∧ w = w' :=
  rfFirst g d [a, b] w (by simp) (errs2 h)
theorem rfFirst4 (g d : Nat) (a b c e' : Int) (t : TypeId) (w : World) (h : w.heap[g]? = some (.cells #[.int .i64 a, .int .i64 b, .int .i64 c, .int .i64 e'] t (0, 0))) :
    Calls Tryz.prog 26 #[.slice (some ⟨g, 0, none⟩) 4 d] w fun e w' => e = .returned (.int .i64 (fstE [a, b, c, e'])) ∧ w = w' :=
  rfFirst g d [a, b, c, e'] w (by simp) (errs4 h)
set_option maxHeartbeats 1000000 in
set_option maxRecDepth 100000 in
theorem rfCheckCounts (b k r a : Int) (w : World) :
    Calls Tryz.prog 57 #[.int .i64 b, .int .i64 k, .int .i64 r, .int .i64 a] w fun e w' => e = .returned (.int .i64 (lenE b k r a)) ∧ Below w.heap.size w w' := by
  have HE := Lib.hid (show fstE [rngH b 0 100000, rngH k 0 100000, rngH r 1 100, rngH a 0 100] = lenE b k r a from rfl)
  generalize lenE b k r a = E at HE ⊢
  go_enter Tryz.func57, Tryz.ntmps57
  go_wp2_with fail
  refine (rfCheckRange _ _ _ _).mono ?_
  rintro e w2 ⟨rfl, rfl⟩
  go_wp2_with fail
  refine (rfCheckRange _ _ _ _).mono ?_
  rintro e w2 ⟨rfl, rfl⟩
  go_wp2_with fail
  refine (rfCheckRange _ _ _ _).mono ?_
  rintro e w2 ⟨rfl, rfl⟩
  go_wp2_with fail
  refine (rfCheckRange _ _ _ _).mono ?_
  rintro e w2 ⟨rfl, rfl⟩
  go_wp2_with fail
  refine (rfFirst4 _ _ _ _ _ _ 3 _ (by exact newBlk _ _)).mono ?_
  rintro e w2 ⟨rfl, rfl⟩
  rw [HE.out]
  go_wp2
  go_ret
  exact ⟨rfl, (Below.refl _ _).alloc (Nat.le_refl _) _⟩
set_option maxHeartbeats 400000 in
theorem rfLength (b k r a : Nat) (w : World) (hb : b ≤ 100000) (hk : k ≤ 100000) (hr : r ≤ 100) (ha : a ≤ 100) :
    Calls Tryz.prog 58 #[.int .i64 b, .int .i64 k, .int .i64 r, .int .i64 a] w fun e w' => e = .returned (.int .i64 (lenN b k r a : Nat)) ∧ w = w' := by
  obtain ⟨b10, b11⟩ := mulB hb hr
  obtain ⟨b20, b21⟩ := mulB hk ha
  have HE := Lib.hid (show (b : Int) * r + (k : Int) * a = (lenN b k r a : Nat) by unfold lenN; push_cast; rfl)
  have w1 : IntKind.i64.wrap ((b : Int) * r) = (b : Int) * r := wr64 (by omega) (by omega)
  have w2 : IntKind.i64.wrap ((k : Int) * a) = (k : Int) * a := wr64 (by omega) (by omega)
  have w3 : IntKind.i64.wrap ((b : Int) * r + (k : Int) * a) = (b : Int) * r + (k : Int) * a := wr64 (by omega) (by omega)
  go_enter Tryz.func58, Tryz.ntmps58
  go_wp2
  go_ret
  exact ⟨ret_i HE.out, rfl⟩
set_option maxHeartbeats 1000000 in
theorem rfWeight (l t : Nat) (w : World) (hl : l ≤ 2000000000) (ht : t ≤ 100000) :
    Calls Tryz.prog 59 #[.int .i64 l, .int .i64 t] w fun e w' => e = .returned (.tuple #[.int .i64 (if 999999999 < weiN l t then 0 else (weiN l t : Nat)), .int .i64 (if 999999999 < weiN l t then 4 else 0)]) ∧ w = w' := by
  obtain ⟨b10, b11⟩ := mulB hl ht
  have HE := Lib.hid (show ((l : Int) * t).tdiv 1000 = (weiN l t : Nat) by rw [mulI]; exact divN _ 1000)
  have w1 : IntKind.i64.wrap ((l : Int) * t) = (l : Int) * t := wr64 (by omega) (by omega)
  have hwl : weiN l t ≤ 200000000000 := by
    have := Nat.mul_le_mul hl ht
    unfold weiN
    omega
  have HQ := HE.out
  by_cases hn : 999999999 < weiN l t
  · rw [if_pos hn, if_pos hn]
    generalize weiN l t = n at HE hwl hn HQ
    have w2 : IntKind.i64.wrap (((l : Int) * t).tdiv 1000) = ((l : Int) * t).tdiv 1000 := by rw [HE.out]; exact wr64 (by omega) (by omega)
    have hni : (999999999 : Int) < ((l : Int) * t).tdiv 1000 := by rw [HE.out]; omega
    clear hn HQ
    go_enter Tryz.func59, Tryz.ntmps59
    go_wp2
    go_ret2
    exact ⟨rfl, rfl⟩
  · rw [if_neg hn, if_neg hn]
    generalize weiN l t = n at HE hwl hn HQ ⊢
    have w2 : IntKind.i64.wrap (((l : Int) * t).tdiv 1000) = ((l : Int) * t).tdiv 1000 := by rw [HE.out]; exact wr64 (by omega) (by omega)
    have hni : ¬ (999999999 : Int) < ((l : Int) * t).tdiv 1000 := by rw [HE.out]; omega
    clear hn HQ
    go_enter Tryz.func59, Tryz.ntmps59
    go_wp2
    go_ret2
    exact ⟨by first | rfl | (rw [← HE.out]; rfl), rfl⟩
set_option maxHeartbeats 8000000 in
set_option maxRecDepth 100000 in
theorem lawWeightsW (n0 n1 n2 n3 l t X E1 Y E2 : Int) (w : World) (hT : Tab w)
    (HL : ∀ w, Calls Tryz.prog 55 #[.int .i64 n0, .int .i64 n1, .int .i64 n2, .int .i64 n3] w fun e w' => e = .returned (.tuple #[.int .i64 X, .int .i64 E1]) ∧ Below w.heap.size w w')
    (HW : ∀ w, Calls Tryz.prog 56 #[.int .i64 l, .int .i64 t] w fun e w' => e = .returned (.tuple #[.int .i64 Y, .int .i64 E2]) ∧ Below w.heap.size w w')
    (HC : ∀ w, Calls Tryz.prog 57 #[.int .i64 n0, .int .i64 n1, .int .i64 n2, .int .i64 n3] w fun e w' => e = .returned (.int .i64 E1) ∧ Below w.heap.size w w')
    (h1 : E1 = 0 → ∀ w, Calls Tryz.prog 58 #[.int .i64 n0, .int .i64 n1, .int .i64 n2, .int .i64 n3] w fun e w' => e = .returned (.int .i64 X) ∧ w = w') (h1' : E1 ≠ 0 → X = 0)
    (h2 : weiE0 l t = 0 → ∀ w, Calls Tryz.prog 59 #[.int .i64 l, .int .i64 t] w fun e w' => e = .returned (.tuple #[.int .i64 Y, .int .i64 E2]) ∧ w = w') (h2' : weiE0 l t ≠ 0 → Y = 0 ∧ E2 = weiE0 l t) :
    Calls Tryz.prog 8 #[.agg #[.int .i64 n0, .int .i64 n1, .int .i64 n2, .int .i64 n3], .int .i64 l, .int .i64 t] w fun e w' => e = .returned (.bool true) ∧ Below w.heap.size w w' := by
  obtain ⟨w1, hw1, k1, B, hz1⟩ := boxS w (.cells #[.int .i64 n0, .int .i64 n1, .int .i64 n2, .int .i64 n3] 88)
  obtain ⟨a0, a1, a2, a3, -, -, -, -⟩ := cel4 k1
  have HF := Lib.hid (show fstE [rngH l 0 999999999, rngH t 1 100000] = weiE0 l t from rfl)
  by_cases g1 : E1 = 0 <;> by_cases g2 : weiE0 l t = 0
  · have HRL := h1 g1
    have HRW := h2 g2
    subst g1
    rw [g2] at HF
    clear h1 h2 h1' h2' g2
    go_enter Tryz.func8, Tryz.ntmps8
    go_wp2_with fail
    refine (HL _).mono ?_
    rintro e w2 ⟨rfl, hb⟩
    replace B := B.trans (hb.mono B.size)
    obtain ⟨c0, c1, c2, c3, -, -, -, -⟩ := cel4 (blkT k1 hb)
    have k2 := blkT k1 hb
    clear hb
    go_wp2_with fail
    refine (HW _).mono ?_
    rintro e w3 ⟨rfl, hb⟩
    replace B := B.trans (hb.mono B.size)
    replace k2 := blkT k2 hb
    obtain ⟨d0, d1, d2, d3, -, -, -, -⟩ := cel4 k2
    clear hb c0 c1 c2 c3
    go_wp2_with fail
    refine (HC _).mono ?_
    rintro e w4 ⟨rfl, hb⟩
    replace B := B.trans (hb.mono B.size)
    replace k2 := blkT k2 hb
    clear hb d0 d1 d2 d3
    go_wp2_with fail
    refine (rfCheckRange _ _ _ _).mono ?_
    rintro e w5 ⟨rfl, rfl⟩
    go_wp2_with fail
    refine (rfCheckRange _ _ _ _).mono ?_
    rintro e w5 ⟨rfl, rfl⟩
    obtain ⟨w5, hw5, k5, hb, hz⟩ := boxS w4 (.cells #[.int .i64 (rngH l 0 999999999), .int .i64 (rngH t 1 100000)] 3)
    replace B := B.trans (hb.mono B.size)
    replace k2 := blkT k2 hb
    obtain ⟨d0, d1, d2, d3, -, -, -, -⟩ := cel4 k2
    clear hb hz
    go_wp2_with fail
    refine (rfFirst2 _ _ _ _ 3 _ k5).mono ?_
    rintro e w6 ⟨rfl, rfl⟩
    rw [HF.out]
    clear k5
    go_wp2_with fail
    refine (HRL _).mono ?_
    rintro e w6 ⟨rfl, rfl⟩
    go_wp2_with fail
    refine (HRW _).mono ?_
    rintro e w6 ⟨rfl, rfl⟩
    go_wp2_with fail
    refine (awake6 _ (hT.below B)).mono ?_
    rintro e w7 ⟨rfl, hb⟩
    replace B := B.trans (hb.mono B.size)
    go_wp2
    go_ret
    exact ⟨rfl, B⟩
  · have HRL := h1 g1
    obtain ⟨rfl, rfl⟩ := h2' g2
    subst g1
    generalize weiE0 l t = E at HF HW g2
    have hne := nzH g2
    clear h1 h2 h1' h2' g2
    go_enter Tryz.func8, Tryz.ntmps8
    go_wp2_with fail
    refine (HL _).mono ?_
    rintro e w2 ⟨rfl, hb⟩
    replace B := B.trans (hb.mono B.size)
    obtain ⟨c0, c1, c2, c3, -, -, -, -⟩ := cel4 (blkT k1 hb)
    have k2 := blkT k1 hb
    clear hb
    go_wp2_with fail
    refine (HW _).mono ?_
    rintro e w3 ⟨rfl, hb⟩
    replace B := B.trans (hb.mono B.size)
    replace k2 := blkT k2 hb
    obtain ⟨d0, d1, d2, d3, -, -, -, -⟩ := cel4 k2
    clear hb c0 c1 c2 c3
    go_wp2_with fail
    refine (HC _).mono ?_
    rintro e w4 ⟨rfl, hb⟩
    replace B := B.trans (hb.mono B.size)
    replace k2 := blkT k2 hb
    clear hb d0 d1 d2 d3
    go_wp2_with fail
    refine (rfCheckRange _ _ _ _).mono ?_
    rintro e w5 ⟨rfl, rfl⟩
    go_wp2_with fail
    refine (rfCheckRange _ _ _ _).mono ?_
    rintro e w5 ⟨rfl, rfl⟩
    obtain ⟨w5, hw5, k5, hb, hz⟩ := boxS w4 (.cells #[.int .i64 (rngH l 0 999999999), .int .i64 (rngH t 1 100000)] 3)
    replace B := B.trans (hb.mono B.size)
    replace k2 := blkT k2 hb
    obtain ⟨d0, d1, d2, d3, -, -, -, -⟩ := cel4 k2
    clear hb hz
    go_wp2_with fail
    refine (rfFirst2 _ _ _ _ 3 _ k5).mono ?_
    rintro e w6 ⟨rfl, rfl⟩
    rw [HF.out]
    clear k5
    go_wp2_with fail
    refine (HRL _).mono ?_
    rintro e w6 ⟨rfl, rfl⟩
    go_wp2_with fail
    refine (awake6 _ (hT.below B)).mono ?_
    rintro e w7 ⟨rfl, hb⟩
    replace B := B.trans (hb.mono B.size)
    go_wp2
    go_ret
    exact ⟨rfl, B⟩
  · have HRW := h2 g2
    obtain rfl := h1' g1
    have hne := nzH g1
    rw [g2] at HF
    clear h1 h2 h1' h2' g1 g2
    go_enter Tryz.func8, Tryz.ntmps8
    go_wp2_with fail
    refine (HL _).mono ?_
    rintro e w2 ⟨rfl, hb⟩
    replace B := B.trans (hb.mono B.size)
    obtain ⟨c0, c1, c2, c3, -, -, -, -⟩ := cel4 (blkT k1 hb)
    have k2 := blkT k1 hb
    clear hb
    go_wp2_with fail
    refine (HW _).mono ?_
    rintro e w3 ⟨rfl, hb⟩
    replace B := B.trans (hb.mono B.size)
    replace k2 := blkT k2 hb
    obtain ⟨d0, d1, d2, d3, -, -, -, -⟩ := cel4 k2
    clear hb c0 c1 c2 c3
    go_wp2_with fail
    refine (HC _).mono ?_
    rintro e w4 ⟨rfl, hb⟩
    replace B := B.trans (hb.mono B.size)
    replace k2 := blkT k2 hb
    clear hb d0 d1 d2 d3
    go_wp2_with fail
    refine (rfCheckRange _ _ _ _).mono ?_
    rintro e w5 ⟨rfl, rfl⟩
    go_wp2_with fail
    refine (rfCheckRange _ _ _ _).mono ?_
    rintro e w5 ⟨rfl, rfl⟩
    obtain ⟨w5, hw5, k5, hb, hz⟩ := boxS w4 (.cells #[.int .i64 (rngH l 0 999999999), .int .i64 (rngH t 1 100000)] 3)
    replace B := B.trans (hb.mono B.size)
    replace k2 := blkT k2 hb
    obtain ⟨d0, d1, d2, d3, -, -, -, -⟩ := cel4 k2
    clear hb hz
    go_wp2_with fail
    refine (rfFirst2 _ _ _ _ 3 _ k5).mono ?_
    rintro e w6 ⟨rfl, rfl⟩
    rw [HF.out]
    clear k5
    go_wp2_with fail
    refine (HRW _).mono ?_
    rintro e w6 ⟨rfl, rfl⟩
    go_wp2_with fail
    refine (awake6 _ (hT.below B)).mono ?_
    rintro e w7 ⟨rfl, hb⟩
    replace B := B.trans (hb.mono B.size)
    go_wp2
    go_ret
    exact ⟨rfl, B⟩
  · obtain rfl := h1' g1
    obtain ⟨rfl, rfl⟩ := h2' g2
    have hne := nzH g1
    generalize weiE0 l t = E at HF HW g2
    have hne2 := nzH g2
    clear h1 h2 h1' h2' g1 g2
    go_enter Tryz.func8, Tryz.ntmps8
    go_wp2_with fail
    refine (HL _).mono ?_
    rintro e w2 ⟨rfl, hb⟩
    replace B := B.trans (hb.mono B.size)
    obtain ⟨c0, c1, c2, c3, -, -, -, -⟩ := cel4 (blkT k1 hb)
    have k2 := blkT k1 hb
    clear hb
    go_wp2_with fail
    refine (HW _).mono ?_
    rintro e w3 ⟨rfl, hb⟩
    replace B := B.trans (hb.mono B.size)
    replace k2 := blkT k2 hb
    obtain ⟨d0, d1, d2, d3, -, -, -, -⟩ := cel4 k2
    clear hb c0 c1 c2 c3
    go_wp2_with fail
    refine (HC _).mono ?_
    rintro e w4 ⟨rfl, hb⟩
    replace B := B.trans (hb.mono B.size)
    replace k2 := blkT k2 hb
    clear hb d0 d1 d2 d3
    go_wp2_with fail
    refine (rfCheckRange _ _ _ _).mono ?_
    rintro e w5 ⟨rfl, rfl⟩
    go_wp2_with fail
    refine (rfCheckRange _ _ _ _).mono ?_
    rintro e w5 ⟨rfl, rfl⟩
    obtain ⟨w5, hw5, k5, hb, hz⟩ := boxS w4 (.cells #[.int .i64 (rngH l 0 999999999), .int .i64 (rngH t 1 100000)] 3)
    replace B := B.trans (hb.mono B.size)
    replace k2 := blkT k2 hb
    obtain ⟨d0, d1, d2, d3, -, -, -, -⟩ := cel4 k2
    clear hb hz
    go_wp2_with fail
    refine (rfFirst2 _ _ _ _ 3 _ k5).mono ?_
    rintro e w6 ⟨rfl, rfl⟩
    rw [HF.out]
    clear k5
    go_wp2_with fail
    refine (awake6 _ (hT.below B)).mono ?_
    rintro e w7 ⟨rfl, hb⟩
    replace B := B.trans (hb.mono B.size)
    go_wp2
    go_ret
    exact ⟨rfl, B⟩
theorem lawHangWeights (n0 n1 n2 n3 l t : Int) (w : World) (hT : Tab w) :
    Calls Tryz.prog 8 #[.agg #[.int .i64 n0, .int .i64 n1, .int .i64 n2, .int .i64 n3], .int .i64 l, .int .i64 t] w fun e w' => e = .returned (.bool true) ∧ Below w.heap.size w w' := by
  refine lawWeightsW n0 n1 n2 n3 l t _ _ _ _ w hT (fun w => hgLength n0 n1 n2 n3 w) (fun w => hgWeight l t w) (fun w => rfCheckCounts n0 n1 n2 n3 w) ?_ (fun h => ozE h _) ?_ (fun h => ?_)
  · intro h w
    obtain ⟨r1, r2, r3, r4⟩ := fst4_zero h
    have g1 := rngH_zero r1
    have g2 := rngH_zero r2
    have g3 := rngH_zero r3
    have g4 := rngH_zero r4
    rw [h, oz0]
    obtain ⟨b, rfl⟩ : ∃ x : Nat, n0 = (x : Int) := ⟨n0.toNat, by omega⟩
    obtain ⟨k, rfl⟩ : ∃ x : Nat, n1 = (x : Int) := ⟨n1.toNat, by omega⟩
    obtain ⟨r, rfl⟩ : ∃ x : Nat, n2 = (x : Int) := ⟨n2.toNat, by omega⟩
    obtain ⟨a, rfl⟩ : ∃ x : Nat, n3 = (x : Int) := ⟨n3.toNat, by omega⟩
    simp only [Int.toNat_natCast]
    exact rfLength b k r a w (by omega) (by omega) (by omega) (by omega)
  · intro h w
    obtain ⟨r1, r2⟩ := fst2_zero h
    have g1 := rngH_zero r1
    have g2 := rngH_zero r2
    obtain ⟨L, rfl⟩ : ∃ x : Nat, l = (x : Int) := ⟨l.toNat, by omega⟩
    obtain ⟨T, rfl⟩ : ∃ x : Nat, t = (x : Int) := ⟨t.toNat, by omega⟩
    have hW := rfWeight L T w (by omega) (by omega)
    have e : weiE (L : Int) (T : Int) = if 999999999 < weiN L T then 4 else 0 := by rw [weiE, if_pos h, Int.toNat_natCast, Int.toNat_natCast]
    rw [e, Int.toNat_natCast, Int.toNat_natCast]
    by_cases hn : 999999999 < weiN L T
    · rw [if_pos hn] at hW ⊢
      rw [if_pos hn] at hW
      rw [ozE (by decide)]
      exact hW
    · rw [if_neg hn] at hW ⊢
      rw [if_neg hn] at hW
      rw [oz0]
      exact hW
  · have e : weiE l t = weiE0 l t := by rw [weiE, if_neg h]
    rw [e]
    exact ⟨ozE h _, rfl⟩
end Go.Proofs.YtlkeejhaodedmaaGreatDoor

/- The reference's tables of twine: ShortTwines, TwineAt, far. -/
namespace Go.Proofs.YtlkeejhaodedmaaGreatDoor
open Go.RowKit

/-- A Boolean; if it is true, p holds. -/
def BoolP (p : Prop) (w : World) (e : Ending) (w' : World) : Prop := ∃ b, e = .returned (.bool b) ∧ (b = true → p) ∧ w = w'
theorem dsT_far {x T : Int} (t : Twn) (h : t.x = x) : max x T - min x T = dsT T t := by
  subst h
  unfold dsT
  split <;> omega
set_option maxHeartbeats 1000000 in
theorem rfFar (t : Twn) (T : Int) (w : World) (hx : 0 ≤ t.x ∧ t.x ≤ 100000) (hT : 0 ≤ T ∧ T ≤ 100000) :
    Calls Tryz.prog 106 #[.int .i64 t.x, .int .i64 T] w fun e w' => e = .returned (.int .i64 (dsT T t)) ∧ w = w' := by
  obtain ⟨h1, h2⟩ := hx
  obtain ⟨h3, h4⟩ := hT
  have HD := Lib.hid (dsT_far (T := T) t rfl)
  have wa : IntKind.i64.wrap (max t.x T - min t.x T) = max t.x T - min t.x T := wr64 (by omega) (by omega)
  go_enter Tryz.func106, Tryz.ntmps106
  go_wp2_with fail
  go_ret
  exact ⟨ret_i HD.out, rfl⟩
set_option maxHeartbeats 1000000 in
set_option maxRecDepth 100000 in
theorem rfShortTwines (A : Option Addr) (c : Nat) (l : List Twn) (w : World) (hA : OKV Twn.c 3 w A c l) :
    Calls Tryz.prog 49 #[.slice A l.length c] w (BoolP (l.length ≤ 33) w) := by
  have HA := Lib.hid hA
  have hm : l.length ≤ maxLen := Nat.le_trans hA.1 hA.2.1
  unfold maxLen at hm
  clear hA
  by_cases hlen : 6 < l.length ∧ l.length ≠ 33
  · have h1 : (6 : Int) < (l.length : Int) := by omega
    have h2 : ((l.length : Int) != 33) = true := by rw [bne_iff_ne]; omega
    go_enter Tryz.func49, Tryz.ntmps49
    go_wp2_with fail
    go_ret
    exact ⟨false, rfl, (fun h => by cases h), rfl⟩
  · have hle : l.length ≤ 33 := by omega
    have HLE := Lib.hid hle
    have HLL := Lib.hid hlen
    go_enter Tryz.func49, Tryz.ntmps49
    go_upto_region 1 with fail
    go_cut [11] (fun s X => s = .bool false ∧ w = X)
    case first =>
      by_cases h6 : 6 < l.length
      · have h33 : l.length = 33 := by have := HLL.out; omega
        have h1 : (6 : Int) < (l.length : Int) := by omega
        have h2 : ((l.length : Int) != 33) = false := by rw [h33]; rfl
        have H33 := Lib.hid h33
        clear h33
        go_wp2_with fail
        go_meet
        exact ⟨rfl, rfl⟩
      · have h1 : ¬ (6 : Int) < (l.length : Int) := by omega
        go_wp2_with fail
        go_meet
        exact ⟨rfl, rfl⟩
    case rest =>
      obtain ⟨rfl, rfl⟩ := hcut
      clear hlen
      go_wp2_with fail
      go_loopw [3] (fun i wr => ∃ k : Nat, k ≤ l.length ∧ i = .int .i64 k ∧ w = wr) (fun i _ => l.length - (intOf i).toNat)
      case atStart => exact ⟨0, Nat.zero_le _, rfl, rfl⟩
      case round =>
        obtain ⟨k, hk, rfl, rfl⟩ := hrel
        by_cases hlt : k < l.length
        · have hki : (k : Int) < (l.length : Int) := by omega
          have hk0 : (0 : Int) ≤ (k : Int) := by omega
          obtain ⟨b, off, hAe, hB, c0, c1, c2⟩ := atT HA.out.2.2.2 hlt
          subst hAe
          generalize l[k].s = q at c0
          by_cases hq : q.size ≤ 40
          · have hq2 : ¬ (40 : Int) < (q.size : Int) := by omega
            go_wp2_with fail
            go_roundw
            case rel => exact ⟨k + 1, by omega, by go_num, trivial⟩
            case measure => simp [intOf]; omega
          · have hq2 : (40 : Int) < (q.size : Int) := by omega
            go_wp2_with fail
            go_ret
            exact ⟨false, rfl, (fun h => by cases h), rfl⟩
        · obtain rfl : k = l.length := by omega
          have hki : ¬ (l.length : Int) < (l.length : Int) := by omega
          go_wp2_with fail
          go_ret
          exact ⟨true, rfl, (fun _ => by first | trivial | exact HLE.out), rfl⟩
/-- The index of the first twine with a name, or -1. -/
def idxA (s : ByteArray) : List Twn → Nat → Int
  | [], _ => -1
  | x :: r, i => if nmN s x = true then (i : Int) else idxA s r (i + 1)
theorem idxA_any (s : ByteArray) : ∀ (l : List Twn) (i : Nat), (0 ≤ idxA s l i ↔ l.any (nmN s) = true) ∧ -1 ≤ idxA s l i ∧ idxA s l i ≤ i + l.length
  | [], i => by simp [idxA]
  | x :: r, i => by
    obtain ⟨h1, h2, h3⟩ := idxA_any s r (i + 1)
    unfold idxA
    rw [List.length_cons]
    by_cases hx : nmN s x = true
    · rw [if_pos hx]
      refine ⟨⟨fun _ => by simp [hx], fun _ => by omega⟩, by omega, by omega⟩
    · rw [if_neg hx]
      refine ⟨?_, h2, by omega⟩
      rw [h1]
      simp [hx]
def atI (s : ByteArray) (l : List Twn) : Int := idxA s l 0
set_option maxHeartbeats 1000000 in
set_option maxRecDepth 100000 in
theorem rfTwineAt (A : Option Addr) (c n : Nat) (l : List Twn) (s : ByteArray) (w : World) (hn : l.length = n) (hl : l.length ≤ 100000) (hA : RV Twn.c 3 w w.heap.size A l) :
    Calls Tryz.prog 105 #[.slice A n c, .string s] w fun e w' => e = .returned (.int .i64 (atI s l)) ∧ w = w' := by
  subst hn
  have HA := Lib.hid hA
  clear hA
  obtain ⟨R, hR⟩ : ∃ R, atI s l = R := ⟨_, rfl⟩
  rw [hR]
  have H0 := Lib.hid (show R = idxA s (l.drop 0) 0 from hR.symm)
  clear hR
  go_enter Tryz.func105, Tryz.ntmps105
  go_wp2_with fail
  go_loopw [5] (fun i wr => ∃ k : Nat, k ≤ l.length ∧ i = .int .i64 k ∧ Hid (R = idxA s (l.drop k) k) ∧ w = wr) (fun i _ => l.length - (intOf i).toNat)
  case atStart => exact ⟨0, Nat.zero_le _, rfl, H0, rfl⟩
  case round =>
    clear H0
    obtain ⟨k, hk, rfl, HR, rfl⟩ := hrel
    by_cases hlt : k < l.length
    · have hki : (k : Int) < (l.length : Int) := by omega
      have hk0 : (0 : Int) ≤ (k : Int) := by omega
      obtain ⟨b, off, hAe, hB, c0, c1, c2⟩ := atT HA.out hlt
      subst hAe
      obtain ⟨p, hp⟩ : ∃ p, nmN s l[k] = p := ⟨_, rfl⟩
      have HS := Lib.hid (show R = if p = true then (k : Int) else idxA s (l.drop (k + 1)) (k + 1) by rw [HR.out, List.drop_eq_getElem_cons hlt, idxA, hp])
      unfold nmN nmE at hp
      generalize l[k].s = q at c0 hp
      cases p
      · have HS2 := Lib.hid (show R = idxA s (l.drop (k + 1)) (k + 1) from HS.out)
        clear HS
        go_wp2_with fail
        go_roundw
        case rel => exact ⟨k + 1, by omega, by go_num, HS2, trivial⟩
        case measure => simp [intOf]; omega
      · have HS2 := Lib.hid (show R = (k : Int) from HS.out)
        clear HS
        go_wp2_with fail
        go_ret
        exact ⟨ret_i HS2.out.symm, rfl⟩
    · obtain rfl : k = l.length := by omega
      have hki : ¬ (l.length : Int) < (l.length : Int) := by omega
      have HS2 := Lib.hid (show R = -1 by rw [HR.out, List.drop_length]; rfl)
      go_wp2_with fail
      go_ret
      exact ⟨ret_i HS2.out.symm, rfl⟩
end Go.Proofs.YtlkeejhaodedmaaGreatDoor

/- The reference's ratios and squares. -/
namespace Go.Proofs.YtlkeejhaodedmaaGreatDoor
open Go.RowKit

set_option maxHeartbeats 1000000 in
theorem rfDivisor (b : Nat) : ∀ (a : Nat) (w : World), a ≤ 9000000000000000000 → b ≤ 9000000000000000000 →
    Calls Tryz.prog 66 #[.int .i64 a, .int .i64 b] w fun e w' => e = .returned (.int .i64 (a.gcd b : Nat)) ∧ Below w.heap.size w w' := by
  induction b using Nat.strongRecOn with
  | _ b ih =>
    intro a w ha hb
    by_cases hz : b = 0
    · subst hz
      rw [Nat.gcd_zero_right]
      clear ih
      go_enter Tryz.func66, Tryz.ntmps66
      go_wp2
      go_ret
      exact ⟨rfl, Below.refl _ _⟩
    · have hz0 : ((b : Int) == 0) = false := by rw [beq_eq_false_iff_ne]; omega
      have hz1 : ¬ (b : Int) = 0 := by omega
      have hm := modN a b
      have hlt : a % b < b := Nat.mod_lt _ (by omega)
      have HI := fun w => ih (a % b) hlt b w hb (by omega)
      have e : b.gcd (a % b) = a.gcd b := by rw [Nat.gcd_comm a b, Nat.gcd_rec b a, Nat.gcd_comm]
      rw [e] at HI
      clear e ih
      generalize a.gcd b = g at HI ⊢
      generalize a % b = r at hm hlt HI
      have hw1 : IntKind.i64.wrap (r : Int) = (r : Int) := wr64 (by omega) (by omega)
      go_enter Tryz.func66, Tryz.ntmps66
      go_wp2_with fail
      refine (HI _).mono ?_
      rintro e w1 ⟨rfl, hb1⟩
      go_wp2
      go_ret
      exact ⟨rfl, hb1⟩
set_option maxHeartbeats 1000000 in
theorem rfSquare (a b : Nat) (w : World) (ha : a ≤ 9000000000000000000) (hb : b ≤ 9000000000000000000) (h : 0 < b) :
    Calls Tryz.prog 71 #[.int .i64 a, .int .i64 b] w fun e w' => e = .returned (.agg #[.int .i64 (qn a b), .int .i64 (qd a b)]) ∧ Below w.heap.size w w' := by
  unfold qn qd
  obtain ⟨g, hg⟩ : ∃ g, a.gcd b = g := ⟨_, rfl⟩
  have hg0 : 0 < g := by rw [← hg]; exact Nat.gcd_pos_of_pos_right _ h
  have hz1 : ¬ (g : Int) = 0 := by omega
  have hz0 : ((g : Int) != 0) = true := by rw [bne_iff_ne]; omega
  have h1 := divN a g
  have h2 := divN b g
  have h3 : a / g ≤ a := Nat.div_le_self _ _
  have h4 : b / g ≤ b := Nat.div_le_self _ _
  rw [hg]
  have HG := Lib.hid hg
  obtain ⟨u, hu⟩ : ∃ u, a / g = u := ⟨_, rfl⟩
  obtain ⟨v, hv⟩ : ∃ v, b / g = v := ⟨_, rfl⟩
  rw [hu] at h1 h3 ⊢
  rw [hv] at h2 h4 ⊢
  have hw1 : IntKind.i64.wrap (u : Int) = (u : Int) := wr64 (by omega) (by omega)
  have hw2 : IntKind.i64.wrap (v : Int) = (v : Int) := wr64 (by omega) (by omega)
  clear hu hv hg
  obtain ⟨w0, hw0, hB, hb0, hz⟩ := boxS w (.cells #[.int .i64 0, .int .i64 0] 24)
  have hg1 : ¬ g = 0 := by omega
  go_enter Tryz.func71, Tryz.ntmps71
  go_wp2_with fail
  refine (rfDivisor b a _ ha hb).mono ?_
  rintro e w1 ⟨rfl, hb1⟩
  rw [HG.out]
  have hB1 := blkT hB hb1
  have hbw := tw hb0 hb1
  obtain ⟨p0, p1, p2, p3⟩ := cel2 hB1
  obtain ⟨s1, s2⟩ := set2 hB1 (.int .i64 u) (.int .i64 v)
  obtain ⟨t0, t1, -, -⟩ := cel2 s1
  have hbf := hbw.grown s2 hbw.size (fun j e => by cases e; exact Nat.le_refl _)
  clear hB hb1 hB1 hbw hb0 hw0
  go_wp2_with fail
  go_region
  go_wp2
  exact bodyPost_ret (v := .agg #[.int .i64 u, .int .i64 v]) (by simp [results, Tryz.results71, go_sem, t0, t1]) rfl ⟨rfl, below_drew hbf⟩
theorem ratH_cases (n d : Int) : (¬ (1 ≤ n ∧ n ≤ 30 ∧ 1 ≤ d ∧ d ≤ 30) ∧ ratH n d = 3) ∨ ((1 ≤ n ∧ n ≤ 30 ∧ 1 ≤ d ∧ d ≤ 30) ∧ d < n ∧ ratH n d = 11) ∨ ((1 ≤ n ∧ n ≤ 30 ∧ 1 ≤ d ∧ d ≤ 30) ∧ n ≤ d ∧ n.toNat.gcd d.toNat ≠ 1 ∧ ratH n d = 1) ∨ ((1 ≤ n ∧ n ≤ 30 ∧ 1 ≤ d ∧ d ≤ 30) ∧ n ≤ d ∧ n.toNat.gcd d.toNat = 1 ∧ ratH n d = 0) := by
  unfold ratH
  simp only [fstE, rngH]
  repeat' split
  all_goals first | omega | (rename_i h; simp_all; omega) | simp_all
end Go.Proofs.YtlkeejhaodedmaaGreatDoor

/- The reference's checks, vertical ratios and fullness. -/
namespace Go.Proofs.YtlkeejhaodedmaaGreatDoor
open Go.RowKit

theorem sqH_cases (n d : Int) : (¬ (0 ≤ n ∧ n ≤ 4000000000000 ∧ 1 ≤ d ∧ d ≤ 810000) ∧ sqH n d = 3) ∨ ((0 ≤ n ∧ n ≤ 4000000000000 ∧ 1 ≤ d ∧ d ≤ 810000) ∧ n.toNat.gcd d.toNat ≠ 1 ∧ sqH n d = 1) ∨ ((0 ≤ n ∧ n ≤ 4000000000000 ∧ 1 ≤ d ∧ d ≤ 810000) ∧ n.toNat.gcd d.toNat = 1 ∧ sqH n d = 0) := by
  unfold sqH
  simp only [fstE, rngH]
  repeat' split
  all_goals first | omega | (rename_i h; simp_all; omega) | simp_all
set_option maxHeartbeats 2000000 in
set_option maxRecDepth 100000 in
theorem rfCheckRatio (a b : Int) (w : World) :
    Calls Tryz.prog 16 #[.agg #[.int .i64 a, .int .i64 b]] w fun e w' => e = .returned (.int .i64 (ratH a b)) ∧ Below w.heap.size w w' := by
  obtain ⟨w1, hw1, k1, hb1, hz1⟩ := boxS w (.cells #[.int .i64 a, .int .i64 b] 23)
  obtain ⟨c0, c1, -, -⟩ := cel2 k1
  clear k1
  by_cases g1 : a < 1
  · have hE : ratH a b = 3 := by have hc := ratH_cases a b; omega
    rw [hE]
    clear hE
    go_enter Tryz.func16, Tryz.ntmps16
    go_wp2
    go_ret
    exact ⟨rfl, hb1⟩
  by_cases g2 : 30 < a
  · have hE : ratH a b = 3 := by have hc := ratH_cases a b; omega
    rw [hE]
    clear hE
    go_enter Tryz.func16, Tryz.ntmps16
    go_wp2
    go_ret
    exact ⟨rfl, hb1⟩
  by_cases g3 : b < 1
  · have hE : ratH a b = 3 := by have hc := ratH_cases a b; omega
    rw [hE]
    clear hE
    go_enter Tryz.func16, Tryz.ntmps16
    go_wp2
    go_ret
    exact ⟨rfl, hb1⟩
  by_cases g4 : 30 < b
  · have hE : ratH a b = 3 := by have hc := ratH_cases a b; omega
    rw [hE]
    clear hE
    go_enter Tryz.func16, Tryz.ntmps16
    go_wp2
    go_ret
    exact ⟨rfl, hb1⟩
  by_cases g5 : b < a
  · have hE : ratH a b = 11 := by have hc := ratH_cases a b; omega
    rw [hE]
    clear hE
    go_enter Tryz.func16, Tryz.ntmps16
    go_wp2
    go_ret
    exact ⟨rfl, hb1⟩
  obtain ⟨P, rfl⟩ : ∃ P : Nat, a = (P : Int) := ⟨a.toNat, by omega⟩
  obtain ⟨D, rfl⟩ : ∃ D : Nat, b = (D : Int) := ⟨b.toNat, by omega⟩
  have HD := fun w => rfDivisor D P w (by omega) (by omega)
  have hc := ratH_cases (P : Int) (D : Int)
  rw [Int.toNat_natCast, Int.toNat_natCast] at hc
  obtain ⟨E, hE⟩ : ∃ E, ratH (P : Int) (D : Int) = E := ⟨_, rfl⟩
  rw [hE] at hc ⊢
  generalize P.gcd D = g at HD hc
  by_cases hg : g = 1
  · obtain rfl : E = 0 := by omega
    have hz : ((g : Int) != 1) = false := by rw [hg]; rfl
    clear hc hE hg
    go_enter Tryz.func16, Tryz.ntmps16
    go_wp2_with fail
    refine (HD _).mono ?_
    rintro e w3 ⟨rfl, hb3⟩
    go_wp2
    go_ret
    exact ⟨rfl, tw hb1 hb3⟩
  · obtain rfl : E = 1 := by omega
    have hz : ((g : Int) != 1) = true := by rw [bne_iff_ne]; omega
    clear hc hE hg
    go_enter Tryz.func16, Tryz.ntmps16
    go_wp2_with fail
    refine (HD _).mono ?_
    rintro e w3 ⟨rfl, hb3⟩
    go_wp2
    go_ret
    exact ⟨rfl, tw hb1 hb3⟩
set_option maxHeartbeats 2000000 in
set_option maxRecDepth 100000 in
theorem rfCheckSquare (a b : Int) (w : World) :
    Calls Tryz.prog 21 #[.agg #[.int .i64 a, .int .i64 b]] w fun e w' => e = .returned (.int .i64 (sqH a b)) ∧ Below w.heap.size w w' := by
  obtain ⟨w1, hw1, k1, hb1, hz1⟩ := boxS w (.cells #[.int .i64 a, .int .i64 b] 24)
  obtain ⟨c0, c1, -, -⟩ := cel2 k1
  clear k1
  by_cases g1 : a < 0
  · have hE : sqH a b = 3 := by have hc := sqH_cases a b; omega
    rw [hE]
    clear hE
    go_enter Tryz.func21, Tryz.ntmps21
    go_wp2
    go_ret
    exact ⟨rfl, hb1⟩
  by_cases g2 : 4000000000000 < a
  · have hE : sqH a b = 3 := by have hc := sqH_cases a b; omega
    rw [hE]
    clear hE
    go_enter Tryz.func21, Tryz.ntmps21
    go_wp2
    go_ret
    exact ⟨rfl, hb1⟩
  by_cases g3 : b < 1
  · have hE : sqH a b = 3 := by have hc := sqH_cases a b; omega
    rw [hE]
    clear hE
    go_enter Tryz.func21, Tryz.ntmps21
    go_wp2
    go_ret
    exact ⟨rfl, hb1⟩
  by_cases g4 : 810000 < b
  · have hE : sqH a b = 3 := by have hc := sqH_cases a b; omega
    rw [hE]
    clear hE
    go_enter Tryz.func21, Tryz.ntmps21
    go_wp2
    go_ret
    exact ⟨rfl, hb1⟩
  obtain ⟨P, rfl⟩ : ∃ P : Nat, a = (P : Int) := ⟨a.toNat, by omega⟩
  obtain ⟨D, rfl⟩ : ∃ D : Nat, b = (D : Int) := ⟨b.toNat, by omega⟩
  have HD := fun w => rfDivisor D P w (by omega) (by omega)
  have hc := sqH_cases (P : Int) (D : Int)
  rw [Int.toNat_natCast, Int.toNat_natCast] at hc
  obtain ⟨E, hE⟩ : ∃ E, sqH (P : Int) (D : Int) = E := ⟨_, rfl⟩
  rw [hE] at hc ⊢
  generalize P.gcd D = g at HD hc
  by_cases hg : g = 1
  · obtain rfl : E = 0 := by omega
    have hz : ((g : Int) != 1) = false := by rw [hg]; rfl
    clear hc hE hg
    go_enter Tryz.func21, Tryz.ntmps21
    go_wp2_with fail
    refine (HD _).mono ?_
    rintro e w3 ⟨rfl, hb3⟩
    go_wp2
    go_ret
    exact ⟨rfl, tw hb1 hb3⟩
  · obtain rfl : E = 1 := by omega
    have hz : ((g : Int) != 1) = true := by rw [bne_iff_ne]; omega
    clear hc hE hg
    go_enter Tryz.func21, Tryz.ntmps21
    go_wp2_with fail
    refine (HD _).mono ?_
    rintro e w3 ⟨rfl, hb3⟩
    go_wp2
    go_ret
    exact ⟨rfl, tw hb1 hb3⟩
set_option maxHeartbeats 1000000 in
set_option maxRecDepth 100000 in
theorem rfSecondary (P D : Nat) (w : World) (h1 : 1 ≤ P) (hP : P ≤ D) (hD : D ≤ 30) :
    Calls Tryz.prog 17 #[.agg #[.int .i64 P, .int .i64 D]] w fun e w' => e = .returned (.agg #[.int .i64 (qn (upN 1 P D) (D * D)), .int .i64 (qd (upN 1 P D) (D * D))]) ∧ Below w.heap.size w w' := by
  have hDD : 0 < D * D := Nat.mul_pos (by omega) (by omega)
  have hDD2 : D * D ≤ 30 * 30 := Nat.mul_le_mul hD hD
  have hU : upN 1 P D ≤ 900 := by unfold upN; omega
  have HQ := fun w => rfSquare (upN 1 P D) (D * D) w (by omega) (by omega) hDD
  have HU := Lib.hid (show (D : Int) * (D : Int) - (P : Int) * (P : Int) = (upN 1 P D : Nat) by rw [sqSub hP]; unfold upN; rw [Nat.one_mul])
  have HDD := Lib.hid (mulI D D)
  have b2 := mulB hD hD
  have b3 := mulB (Nat.le_trans hP hD) (Nat.le_trans hP hD)
  have b5 : 0 ≤ (D : Int) * (D : Int) - (P : Int) * (P : Int) ∧ (D : Int) * (D : Int) - (P : Int) * (P : Int) ≤ 900 := by rw [HU.out]; omega
  obtain ⟨b20, b21⟩ := b2
  obtain ⟨b30, b31⟩ := b3
  obtain ⟨b50, b51⟩ := b5
  clear hU hDD hDD2
  generalize upN 1 P D = U at HQ HU ⊢
  generalize hE : D * D = E at HQ HDD ⊢
  generalize qn U E = u at HQ ⊢
  generalize qd U E = v at HQ ⊢
  clear hE
  obtain ⟨w1, hw1, k1, hb1, hz1⟩ := boxS w (.cells #[.int .i64 P, .int .i64 D] 23)
  obtain ⟨w2, hw2, k2, hb2, hz2⟩ := boxS w1 (.cells #[.int .i64 0, .int .i64 0] 24)
  obtain ⟨p0, p1, -, -⟩ := cel2 (blkT k1 hb2)
  go_enter Tryz.func17, Tryz.ntmps17
  go_wp2_with fail
  rw [HU.out, HDD.out]
  refine (HQ _).mono ?_
  rintro e w3 ⟨rfl, hb3⟩
  have k3 := blkT k2 hb3
  obtain ⟨q0, q1, q2, q3⟩ := cel2 k3
  obtain ⟨s1, s2⟩ := set2 k3 (.int .i64 u) (.int .i64 v)
  obtain ⟨t0, t1, -, -⟩ := cel2 s1
  have hbw := tw (tw hb1 hb2) hb3
  have hbf := hbw.grown s2 hbw.size (fun j e => by cases e; exact hb1.size)
  go_wp2
  exact bodyPost_ret (v := .agg #[.int .i64 u, .int .i64 v]) (by simp [results, Tryz.results17, go_sem, t0, t1]) rfl ⟨rfl, hbf⟩
set_option maxHeartbeats 1000000 in
set_option maxRecDepth 100000 in
theorem rfFullness (P D : Nat) (w : World) (h1 : 1 ≤ P) (hP : P ≤ D) (hD : D ≤ 30) :
    Calls Tryz.prog 18 #[.agg #[.int .i64 P, .int .i64 D]] w fun e w' => e = .returned (.agg #[.int .i64 (qn (fuN P D) (D * D * (D * D))), .int .i64 (qd (fuN P D) (D * D * (D * D)))]) ∧ Below w.heap.size w w' := by
  have hU := fuN_le hP hD
  have hDD : 0 < D * D := Nat.mul_pos (by omega) (by omega)
  have hDD2 : D * D ≤ 30 * 30 := Nat.mul_le_mul hD hD
  have hD4 : D * D * (D * D) ≤ 900 * 900 := Nat.mul_le_mul hDD2 hDD2
  have HQ := fun w => rfSquare (fuN P D) (D * D * (D * D)) w (by omega) (by omega) (Nat.mul_pos hDD hDD)
  have HU := Lib.hid (fuNI hP)
  have HD4 := Lib.hid (show (D : Int) * (D : Int) * ((D : Int) * (D : Int)) = ((D * D * (D * D) : Nat) : Int) by push_cast; rfl)
  have b2 := mulB hD hD
  have b3 := mulB (Nat.le_trans hP hD) (Nat.le_trans hP hD)
  have b5 : 0 ≤ 4 * ((P : Int) * (P : Int)) * ((D : Int) * (D : Int) - (P : Int) * (P : Int)) ∧ 4 * ((P : Int) * (P : Int)) * ((D : Int) * (D : Int) - (P : Int) * (P : Int)) ≤ 3240000 := by rw [HU.out]; omega
  have b6 : 0 ≤ (D : Int) * (D : Int) * ((D : Int) * (D : Int)) ∧ (D : Int) * (D : Int) * ((D : Int) * (D : Int)) ≤ 810000 := by rw [HD4.out]; omega
  obtain ⟨b20, b21⟩ := b2
  obtain ⟨b30, b31⟩ := b3
  obtain ⟨b50, b51⟩ := b5
  obtain ⟨b60, b61⟩ := b6
  have w1' : IntKind.i64.wrap ((P : Int) * (P : Int)) = (P : Int) * (P : Int) := wr64 (by omega) (by omega)
  have w2' : IntKind.i64.wrap ((D : Int) * (D : Int)) = (D : Int) * (D : Int) := wr64 (by omega) (by omega)
  clear hU hDD hDD2 hD4
  generalize fuN P D = U at HQ HU ⊢
  generalize hE : D * D * (D * D) = E at HQ HD4 ⊢
  generalize qn U E = u at HQ ⊢
  generalize qd U E = v at HQ ⊢
  clear hE
  obtain ⟨w1, hw1, k1, hb1, hz1⟩ := boxS w (.cells #[.int .i64 P, .int .i64 D] 23)
  obtain ⟨w2, hw2, k2, hb2, hz2⟩ := boxS w1 (.cells #[.int .i64 0, .int .i64 0] 24)
  obtain ⟨p0, p1, -, -⟩ := cel2 (blkT k1 hb2)
  go_enter Tryz.func18, Tryz.ntmps18
  go_wp2_with fail
  go_quiet (fail)
  have hb2n := below_drewN hb2 nq
  have k2n : (w2.drewN nq).heap[w1.heap.size]? = some (.cells #[.int .i64 0, .int .i64 0] 24 (0, 0)) := k2
  generalize World.drewN w2 nq = w2' at *
  go_wp2_with fail
  rw [HU.out, HD4.out]
  refine (HQ _).mono ?_
  rintro e w3 ⟨rfl, hb3⟩
  have k3 := blkT k2n hb3
  obtain ⟨q0, q1, q2, q3⟩ := cel2 k3
  obtain ⟨s1, s2⟩ := set2 k3 (.int .i64 u) (.int .i64 v)
  obtain ⟨t0, t1, -, -⟩ := cel2 s1
  have hbw := tw (tw hb1 hb2n) hb3
  have hbf := hbw.grown s2 hbw.size (fun j e => by cases e; exact hb1.size)
  go_wp2
  exact bodyPost_ret (v := .agg #[.int .i64 u, .int .i64 v]) (by simp [results, Tryz.results18, go_sem, t0, t1]) rfl ⟨rfl, hbf⟩
end Go.Proofs.YtlkeejhaodedmaaGreatDoor

/- The reference's ropes: ShortSections, CheckSections, Ties. -/
namespace Go.Proofs.YtlkeejhaodedmaaGreatDoor
open Go.RowKit

set_option maxHeartbeats 1000000 in
set_option maxRecDepth 100000 in
theorem rfShortSections (A : Option Addr) (c : Nat) (l : List Sec) (w : World) (hA : OKV Sec.c 3 w A c l) :
    Calls Tryz.prog 38 #[.slice A l.length c] w (BoolP (l.length ≤ 33) w) := by
  have HA := Lib.hid hA
  have hm : l.length ≤ maxLen := Nat.le_trans hA.1 hA.2.1
  unfold maxLen at hm
  clear hA
  by_cases hlen : 5 < l.length ∧ l.length ≠ 33
  · have h1 : (5 : Int) < (l.length : Int) := by omega
    have h2 : ((l.length : Int) != 33) = true := by rw [bne_iff_ne]; omega
    go_enter Tryz.func38, Tryz.ntmps38
    go_wp2_with fail
    go_ret
    exact ⟨false, rfl, (fun h => by cases h), rfl⟩
  · have hle : l.length ≤ 33 := by omega
    have HLE := Lib.hid hle
    have HLL := Lib.hid hlen
    go_enter Tryz.func38, Tryz.ntmps38
    go_upto_region 1 with fail
    go_cut [11] (fun s X => s = .bool false ∧ w = X)
    case first =>
      by_cases h6 : 5 < l.length
      · have h33 : l.length = 33 := by have := HLL.out; omega
        have h1 : (5 : Int) < (l.length : Int) := by omega
        have h2 : ((l.length : Int) != 33) = false := by rw [h33]; rfl
        have H33 := Lib.hid h33
        clear h33
        go_wp2_with fail
        go_meet
        exact ⟨rfl, rfl⟩
      · have h1 : ¬ (5 : Int) < (l.length : Int) := by omega
        go_wp2_with fail
        go_meet
        exact ⟨rfl, rfl⟩
    case rest =>
      obtain ⟨rfl, rfl⟩ := hcut
      clear hlen
      go_wp2_with fail
      go_loopw [3] (fun i wr => ∃ k : Nat, k ≤ l.length ∧ i = .int .i64 k ∧ w = wr) (fun i _ => l.length - (intOf i).toNat)
      case atStart => exact ⟨0, Nat.zero_le _, rfl, rfl⟩
      case round =>
        obtain ⟨k, hk, rfl, rfl⟩ := hrel
        by_cases hlt : k < l.length
        · have hki : (k : Int) < (l.length : Int) := by omega
          have hk0 : (0 : Int) ≤ (k : Int) := by omega
          obtain ⟨b, off, hAe, hB, c0, c1, c2⟩ := atS HA.out.2.2.2 hlt
          subst hAe
          generalize l[k].m = q at c0
          by_cases hq : 12 < q
          · by_cases hq3 : q ≤ 300
            · go_wp2_with fail
              go_ret
              exact ⟨false, rfl, (fun h => by cases h), rfl⟩
            · go_wp2_with fail
              go_roundw
              case rel => exact ⟨k + 1, by omega, by go_num, trivial⟩
              case measure => simp [intOf]; omega
          · go_wp2_with fail
            go_roundw
            case rel => exact ⟨k + 1, by omega, by go_num, trivial⟩
            case measure => simp [intOf]; omega
        · obtain rfl : k = l.length := by omega
          have hki : ¬ (l.length : Int) < (l.length : Int) := by omega
          go_wp2_with fail
          go_ret
          exact ⟨true, rfl, (fun _ => by first | trivial | exact HLE.out), rfl⟩
set_option maxHeartbeats 4000000 in
set_option maxRecDepth 100000 in
theorem rfTies (M T : Nat) (w : World) (g1 : 1 ≤ M) (g2 : M ≤ 300) (g3 : 1 ≤ T) (g4 : T ≤ M) :
    Calls Tryz.prog 46 #[.int .i64 M, .int .i64 T] w (SliP ic 1 (tiesL M T T) w) := by
  obtain ⟨i0, hi, hz0, hz1, hz2⟩ := info_parts infoHI
  have HI := Lib.hid hi
  have HZ0 := Lib.hid hz0
  have HZ1 := Lib.hid hz1
  have HZ2 := Lib.hid hz2
  clear hi hz0 hz1 hz2
  have hT0 : ¬ (T : Int) = 0 := by omega
  have hT0n : ¬ T = 0 := by omega
  go_enter Tryz.func46, Tryz.ntmps46
  go_wp2_with fail
  go_loopw [5, 6] (fun v i wr => ∃ k : Nat, k ≤ T ∧ i = .int .i64 k ∧ Hid (wr.ownsRow w.heap.size 3 1 v k ((tiesL M T k).flatMap ic)) ∧ Below w.heap.size w wr) (fun _ i _ => T - (intOf i).toNat)
  case atStart => exact ⟨0, Nat.zero_le _, rfl, World.ownsRow_nil _ _ _ _, Below.refl _ _⟩
  case round =>
    obtain ⟨k, hk, rfl, hown, hb⟩ := hrel
    by_cases hlt : k < T
    · have hki : (k : Int) < (T : Int) := by omega
      have hbz := hb.size
      have p1 : (k + 1) * M ≤ 300 * 300 := Nat.mul_le_mul (by omega) (by omega)
      have p2 : k * M ≤ 300 * 300 := Nat.mul_le_mul (by omega) (by omega)
      have l1 : (k + 1) * M / T ≤ 90000 := Nat.le_trans (Nat.div_le_self _ _) p1
      have l2 : k * M / T ≤ 90000 := Nat.le_trans (Nat.div_le_self _ _) p2
      have t1 : (((k : Int) + 1) * (M : Int)).tdiv (T : Int) = (((k + 1) * M / T : Nat) : Int) := by rw [← divN]; push_cast; rfl
      have t2 : ((k : Int) * (M : Int)).tdiv (T : Int) = ((k * M / T : Nat) : Int) := by rw [← divN]; push_cast; rfl
      have wa : IntKind.i64.wrap ((k : Int) + 1) = (k : Int) + 1 := wr64 (by omega) (by omega)
      have wb : IntKind.i64.wrap (((k : Int) + 1) * (M : Int)) = ((k : Int) + 1) * (M : Int) := by
        have e : ((k : Int) + 1) * (M : Int) = (((k + 1) * M : Nat) : Int) := by push_cast; rfl
        rw [e]; exact wr64 (by omega) (by omega)
      have wc : IntKind.i64.wrap ((k : Int) * (M : Int)) = (k : Int) * (M : Int) := by
        rw [mulI]; exact wr64 (by omega) (by omega)
      have HT := Lib.hid (show (((k + 1) * M / T : Nat) : Int) - ((k * M / T : Nat) : Int) = tieN M T k from rfl)
      generalize (k + 1) * M / T = x at t1 l1 HT
      generalize k * M / T = y at t2 l2 HT
      have wx : IntKind.i64.wrap (x : Int) = (x : Int) := wr64 (by omega) (by omega)
      have wy : IntKind.i64.wrap (y : Int) = (y : Int) := wr64 (by omega) (by omega)
      have wd : IntKind.i64.wrap ((x : Int) - (y : Int)) = (x : Int) - (y : Int) := wr64 (by omega) (by omega)
      clear p1 p2
      go_wp2_with fail
      go_region_law (refine step_append_lies _ rfl (.tmp 12) (.tmp 25) 45 rfl w.heap.size 3 i0 (.int .i64 0) 1 8 Tryz.underlying45 HI.out HZ0.out HZ1.out HZ2.out rfl (by decide) u5 k ((tiesL M T k).flatMap ic) (by simp [Act.eval]) (by first | exact hown.out.alloc _ | exact (hown.out.drew).alloc _) _ 1 1 [.int .i64 ((x : Int) - (y : Int))] (by first | (simp [Act.eval]; done) | (simp [Act.eval]; rfl)) rfl (by exact newsH _ _ _) (by intro u hu; simp at hu; subst hu; rfl) (by decide) (by unfold maxLen; omega) (by omega) (by simp; omega) _ rfl ?_; intro gx cap w5 hown5 hgrow5 _ _)
      all_goals
        have hq5 : Below w.heap.size w w5 := by
          first
            | exact (hb.alloc hbz (.cells #[.int .i64 ((x : Int) - (y : Int))] 3)).grown hgrow5 (by simp; omega) (baseOf hown.out)
            | exact ((below_drew hb).alloc hbz (.cells #[.int .i64 ((x : Int) - (y : Int))] 3)).grown hgrow5 (by simp; omega) (baseOf hown.out)
            | exact (below_drew (hb.alloc hbz (.cells #[.int .i64 ((x : Int) - (y : Int))] 3))).grown hgrow5 (by simp; omega) (baseOf hown.out)
        have HO5 := Lib.hid (show w5.ownsRow w.heap.size 3 1 (.slice (some ⟨gx, 0, none⟩) (k + 1) cap) (k + 1) ((tiesL M T (k + 1)).flatMap ic) by rw [tiesL_succ, ← HT.out]; exact hown5)
        clear hown5 hgrow5 hown
        go_wp2
        go_roundw
        case rel => exact ⟨k + 1, by omega, by go_num, HO5, hq5⟩
        case measure => simp [intOf]; omega
    · obtain rfl : k = T := by omega
      obtain ⟨a, cv, rfl, hok⟩ := OKV.ownN ic1 hown.out (tiesL_length M k k)
      have HOK := Lib.hid hok
      have HL := Lib.hid (tiesL_length M k k)
      clear hok hown
      go_wp2
      go_ret
      exact ⟨a, cv, by rw [HL.out]; rfl, HOK.out, hb⟩
theorem keepS {W w1 w2 : World} {b o : Nat} {x y z : Value} (zb : b < W.heap.size) (k : w1.cell? ⟨b, o, none⟩ = some x ∧ w1.cell? ⟨b, o + 1, none⟩ = some y ∧ w1.cell? ⟨b, o + 2, none⟩ = some z ∧ Below W.heap.size W w1) (hb : Below w1.heap.size w1 w2) :
    w2.cell? ⟨b, o, none⟩ = some x ∧ w2.cell? ⟨b, o + 1, none⟩ = some y ∧ w2.cell? ⟨b, o + 2, none⟩ = some z ∧ Below W.heap.size W w2 := by
  obtain ⟨a0, a1, a2, c⟩ := k
  have := c.size
  exact ⟨(hb.cell (p := ⟨b, _, none⟩) (by show b < _; omega)).trans a0, (hb.cell (p := ⟨b, _, none⟩) (by show b < _; omega)).trans a1, (hb.cell (p := ⟨b, _, none⟩) (by show b < _; omega)).trans a2, tw c hb⟩
set_option maxHeartbeats 4000000 in
set_option maxRecDepth 100000 in
theorem rfCheckSections (A : Option Addr) (c : Nat) (l : List Sec) (w : World) (hl : l.length ≤ 1000) (hA : OKV Sec.c 3 w A c l) :
    Calls Tryz.prog 43 #[.slice A l.length c] w fun e w' => e = .returned (.int .i64 (secsE l)) ∧ Below w.heap.size w w' := by
  have HA := Lib.hid hA
  clear hA
  by_cases h0 : l.length = 0
  · have hi : ((l.length : Int) == 0) = true := by rw [h0]; rfl
    rw [secsE, if_pos h0]
    replace h0 := Lib.hid h0
    go_enter Tryz.func43, Tryz.ntmps43
    go_wp2_with fail
    go_ret
    exact ⟨rfl, Below.refl _ _⟩
  · have hi0 : ((l.length : Int) == 0) = false := by rw [beq_eq_false_iff_ne]; omega
    by_cases hlen : 32 < l.length
    · have hi : (32 : Int) < (l.length : Int) := by omega
      rw [secsE, if_neg h0, if_pos hlen]
      go_enter Tryz.func43, Tryz.ntmps43
      go_wp2_with fail
      go_ret
      exact ⟨rfl, Below.refl _ _⟩
    · have hi : ¬ (32 : Int) < (l.length : Int) := by omega
      rw [secsE, if_neg h0, if_neg hlen]
      have HST := Lib.hid (show lstE (fun _ s => secE s) [] l = lstE (fun _ s => secE s) (l.take 0) (l.drop 0) by simp)
      obtain ⟨E, hE⟩ : ∃ E, lstE (fun _ s => secE s) [] l = E := ⟨_, rfl⟩
      rw [hE] at HST ⊢
      clear hE
      go_enter Tryz.func43, Tryz.ntmps43
      go_wp2_with fail
      go_loopw [3] (fun i wr => ∃ k : Nat, k ≤ l.length ∧ i = .int .i64 k ∧ Hid (E = lstE (fun _ s => secE s) (l.take k) (l.drop k)) ∧ Below w.heap.size w wr) (fun i _ => l.length - (intOf i).toNat)
      case atStart => exact ⟨0, Nat.zero_le _, rfl, HST, Below.refl _ _⟩
      case round =>
        clear HST
        obtain ⟨k, hk, rfl, HS, hb⟩ := hrel
        by_cases hlt : k < l.length
        · have hki : (k : Int) < (l.length : Int) := by omega
          have hk0 : (0 : Int) ≤ (k : Int) := by omega
          obtain ⟨b, off, hAe, hB, c0, c1, c2⟩ := atS (OKV.below HA.out hb).2.2.2 hlt
          subst hAe
          have HSt := Lib.hid (show E = if secE l[k] = 0 then lstE (fun _ s => secE s) (l.take (k + 1)) (l.drop (k + 1)) else secE l[k] from HS.out.trans (lstE_step (fun _ s => secE s) l hlt))
          have HFF := Lib.hid (show fstE [rngH l[k].m 1 300, ratH l[k].n l[k].d] = secE l[k] from rfl)
          generalize secE l[k] = F at HSt HFF
          generalize l[k].m = x at c0 HFF
          generalize l[k].n = y at c1 HFF
          generalize l[k].d = z at c2 HFF
          have B5 := Below.refl wr.heap.size wr
          go_wp2_with fail
          go_region_held3 (fun X => X.cell? ⟨b, off + k * 3, none⟩ = some (.int .i64 x) ∧ X.cell? ⟨b, off + k * 3 + 1, none⟩ = some (.int .i64 y) ∧ X.cell? ⟨b, off + k * 3 + 2, none⟩ = some (.int .i64 z) ∧ Below wr.heap.size wr X)
            (first | exact ⟨c0, c1, c2, B5⟩ | exact ⟨c0, c1, c2, below_drew B5⟩ | exact keepS hB (by assumption) (by assumption) | exact keepS hB (by assumption) ((Below.refl _ _).alloc (Nat.le_refl _) _) | assumption | exact keepS hB (by assumption) (below_drew (Below.refl _ _)) | go_keep)
            (first
              | (go_at_call 27; refine (rfCheckRange _ _ _ _).mono ?_; rintro e w' ⟨rfl, rfl⟩)
              | (go_at_call 16; refine (rfCheckRatio _ _ _).mono ?_; rintro e w' ⟨rfl, hbx⟩)
              | (go_at_call 26; refine (rfFirst2 _ _ _ _ 3 _ (by exact newBlk _ _)).mono ?_; rintro e w' ⟨rfl, rfl⟩))
          all_goals
            rename_i hH
            rw [HFF.out]
            obtain ⟨-, -, -, hb6⟩ := hH
            have hb7 := tw hb hb6
            clear c0 c1 c2 B5 hb6
            by_cases hF : F = 0
            · have HE2 := Lib.hid (show E = lstE (fun _ s => secE s) (l.take (k + 1)) (l.drop (k + 1)) by rw [HSt.out, if_pos hF])
              subst hF
              go_wp2_with fail
              go_roundw
              case rel => exact ⟨k + 1, by omega, by go_num, HE2, hb7⟩
              case measure => simp [intOf]; omega
            · have HE2 := Lib.hid (show E = F by rw [HSt.out, if_neg hF])
              have hFn := nzH hF
              clear hF
              go_wp2_with fail
              go_ret
              exact ⟨ret_i HE2.out.symm, hb7⟩
        · obtain rfl : k = l.length := by omega
          have hki : ¬ (l.length : Int) < (l.length : Int) := by omega
          have HE := Lib.hid (HS.out.trans (lstE_end (fun _ s => secE s) l))
          go_wp2_with fail
          go_ret
          exact ⟨ret_i HE.out.symm, hb⟩
end Go.Proofs.YtlkeejhaodedmaaGreatDoor

/- The reference's sizes. -/
namespace Go.Proofs.YtlkeejhaodedmaaGreatDoor
open Go.RowKit

set_option maxHeartbeats 1000000 in
theorem rfRatio (a b : Nat) (w : World) (ha : a ≤ 9000000000000000000) (hb : b ≤ 9000000000000000000) (h : 0 < b) :
    Calls Tryz.prog 81 #[.int .i64 a, .int .i64 b] w fun e w' => e = .returned (.agg #[.int .i64 (qn a b), .int .i64 (qd a b)]) ∧ Below w.heap.size w w' := by
  unfold qn qd
  obtain ⟨g, hg⟩ : ∃ g, a.gcd b = g := ⟨_, rfl⟩
  have hg0 : 0 < g := by rw [← hg]; exact Nat.gcd_pos_of_pos_right _ h
  have hz1 : ¬ (g : Int) = 0 := by omega
  have hz0 : ((g : Int) != 0) = true := by rw [bne_iff_ne]; omega
  have h1 := divN a g
  have h2 := divN b g
  have h3 : a / g ≤ a := Nat.div_le_self _ _
  have h4 : b / g ≤ b := Nat.div_le_self _ _
  rw [hg]
  have HG := Lib.hid hg
  obtain ⟨u, hu⟩ : ∃ u, a / g = u := ⟨_, rfl⟩
  obtain ⟨v, hv⟩ : ∃ v, b / g = v := ⟨_, rfl⟩
  rw [hu] at h1 h3 ⊢
  rw [hv] at h2 h4 ⊢
  have hw1 : IntKind.i64.wrap (u : Int) = (u : Int) := wr64 (by omega) (by omega)
  have hw2 : IntKind.i64.wrap (v : Int) = (v : Int) := wr64 (by omega) (by omega)
  clear hu hv hg
  obtain ⟨w0, hw0, hB, hb0, hz⟩ := boxS w (.cells #[.int .i64 0, .int .i64 0] 23)
  have hg1 : ¬ g = 0 := by omega
  go_enter Tryz.func81, Tryz.ntmps81
  go_wp2_with fail
  refine (rfDivisor b a _ ha hb).mono ?_
  rintro e w1 ⟨rfl, hb1⟩
  rw [HG.out]
  have hB1 := blkT hB hb1
  have hbw := tw hb0 hb1
  obtain ⟨p0, p1, p2, p3⟩ := cel2 hB1
  obtain ⟨s1, s2⟩ := set2 hB1 (.int .i64 u) (.int .i64 v)
  obtain ⟨t0, t1, -, -⟩ := cel2 s1
  have hbf := hbw.grown s2 hbw.size (fun j e => by cases e; exact Nat.le_refl _)
  clear hB hb1 hB1 hbw hb0 hw0
  go_wp2_with fail
  go_region
  go_wp2
  exact bodyPost_ret (v := .agg #[.int .i64 u, .int .i64 v]) (by simp [results, Tryz.results81, go_sem, t0, t1]) rfl ⟨rfl, below_drew hbf⟩
def netE2 (b m : Int) : Int := fstE [rngH b 1 100, rngH m 1 300]
set_option maxHeartbeats 1000000 in
theorem rfCheckNetting (b m : Int) (w : World) :
    Calls Tryz.prog 28 #[.int .i64 b, .int .i64 m] w fun e w' => e = .returned (.int .i64 (netE2 b m)) ∧ Below w.heap.size w w' := by
  have HE := Lib.hid (show fstE [rngH b 1 100, rngH m 1 300] = netE2 b m from rfl)
  generalize netE2 b m = E at HE ⊢
  go_enter Tryz.func28, Tryz.ntmps28
  go_wp2_with fail
  refine (rfCheckRange _ _ _ _).mono ?_
  rintro e w2 ⟨rfl, rfl⟩
  go_wp2_with fail
  refine (rfCheckRange _ _ _ _).mono ?_
  rintro e w2 ⟨rfl, rfl⟩
  go_wp2_with fail
  refine (rfFirst2 _ _ _ _ 3 _ (by exact newBlk _ _)).mono ?_
  rintro e w2 ⟨rfl, rfl⟩
  rw [HE.out]
  go_wp2
  go_ret
  exact ⟨rfl, (Below.refl _ _).alloc (Nat.le_refl _) _⟩
theorem spanI (b m : Nat) : 2 * (b : Int) * (m : Int) = ((2 * b * m : Nat) : Int) := by push_cast; rfl
theorem span_le {b m : Nat} (hb : b ≤ 100) (hm : m ≤ 300) : 2 * b * m ≤ 60000 := Nat.le_trans (Nat.mul_le_mul (Nat.mul_le_mul (Nat.le_refl 2) hb) hm) (by decide)
set_option maxHeartbeats 1000000 in
set_option maxRecDepth 100000 in
theorem rfWidth (P D b m : Nat) (w : World) (h1 : 1 ≤ P) (hP : P ≤ D) (hD : D ≤ 30) (hb : b ≤ 100) (hm : m ≤ 300) :
    Calls Tryz.prog 30 #[.agg #[.int .i64 P, .int .i64 D], .int .i64 b, .int .i64 m] w fun e w' => e = .returned (.agg #[.int .i64 (qn (2 * b * m * P) D : Nat), .int .i64 (qd (2 * b * m * P) D : Nat)]) ∧ Below w.heap.size w w' := by
  have hs := span_le hb hm
  have hsP : 2 * b * m * P ≤ 60000 * 30 := Nat.mul_le_mul hs (Nat.le_trans hP hD)
  have HQ := fun w => rfRatio (2 * b * m * P) D w (by omega) (by omega) (by omega)
  have h3 := spanI b m
  have wa : IntKind.i64.wrap (2 * (b : Int)) = 2 * (b : Int) := wr64 (by omega) (by omega)
  have wb : IntKind.i64.wrap (2 * (b : Int) * (m : Int)) = 2 * (b : Int) * (m : Int) := by rw [h3]; exact wr64 (by omega) (by omega)
  have h4 : 2 * (b : Int) * (m : Int) * (P : Int) = ((2 * b * m * P : Nat) : Int) := by push_cast; rfl
  have wc : IntKind.i64.wrap (2 * (b : Int) * (m : Int) * (P : Int)) = 2 * (b : Int) * (m : Int) * (P : Int) := by rw [h4]; exact wr64 (by omega) (by omega)
  have HU := Lib.hid h4
  clear h3 h4
  generalize 2 * b * m * P = U at HQ HU hsP ⊢
  generalize qn U D = u at HQ ⊢
  generalize qd U D = v at HQ ⊢
  obtain ⟨w1, hw1, k1, hb1, hz1⟩ := boxS w (.cells #[.int .i64 P, .int .i64 D] 23)
  obtain ⟨w2, hw2, k2, hb2, hz2⟩ := boxS w1 (.cells #[.int .i64 0, .int .i64 0] 23)
  obtain ⟨p0, p1, -, -⟩ := cel2 (blkT k1 hb2)
  go_enter Tryz.func30, Tryz.ntmps30
  go_wp2_with fail
  rw [HU.out]
  refine (HQ _).mono ?_
  rintro e w3 ⟨rfl, hb3⟩
  have k3 := blkT k2 hb3
  obtain ⟨q0, q1, q2, q3⟩ := cel2 k3
  obtain ⟨s1, s2⟩ := set2 k3 (.int .i64 u) (.int .i64 v)
  obtain ⟨t0, t1, -, -⟩ := cel2 s1
  have hbw := tw (tw hb1 hb2) hb3
  have hbf := hbw.grown s2 hbw.size (fun j e => by cases e; exact hb1.size)
  go_wp2
  exact bodyPost_ret (v := .agg #[.int .i64 u, .int .i64 v]) (by simp [results, Tryz.results30, go_sem, t0, t1]) rfl ⟨rfl, hbf⟩
set_option maxHeartbeats 1000000 in
set_option maxRecDepth 100000 in
theorem rfHeight (P D b m : Nat) (w : World) (h1 : 1 ≤ P) (hP : P ≤ D) (hD : D ≤ 30) (hb : b ≤ 100) (hm : m ≤ 300) :
    Calls Tryz.prog 31 #[.agg #[.int .i64 P, .int .i64 D], .int .i64 b, .int .i64 m] w fun e w' => e = .returned (.agg #[.int .i64 (qn (upN (2 * b * m) P D) (D * D) : Nat), .int .i64 (qd (upN (2 * b * m) P D) (D * D) : Nat)]) ∧ Below w.heap.size w w' := by
  have hs := span_le hb hm
  have h3 := spanI b m
  have wa0 : IntKind.i64.wrap (2 * (b : Int)) = 2 * (b : Int) := wr64 (by omega) (by omega)
  have HS := Lib.hid h3
  have wb0 : IntKind.i64.wrap (2 * (b : Int) * (m : Int)) = ((2 * b * m : Nat) : Int) := by rw [h3]; exact wr64 (by omega) (by omega)
  clear h3
  generalize 2 * b * m = L at hs HS wb0 ⊢
  have hU := upN_le (P := P) hs hD
  have hDD : 0 < D * D := Nat.mul_pos (by omega) (by omega)
  have hDD2 : D * D ≤ 30 * 30 := Nat.mul_le_mul hD hD
  have HQ := fun w => rfSquare (upN L P D) (D * D) w (by omega) (by omega) hDD
  have HU := Lib.hid (upNI (L := L) hP)
  have HDD := Lib.hid (mulI D D)
  have b1 := mulB hs hs
  have b2 := mulB hD hD
  have b3 := mulB (Nat.le_trans hP hD) (Nat.le_trans hP hD)
  have b4 := sqSub hP
  have b5 : 0 ≤ (L : Int) * (L : Int) * ((D : Int) * (D : Int) - (P : Int) * (P : Int)) ∧ (L : Int) * (L : Int) * ((D : Int) * (D : Int) - (P : Int) * (P : Int)) ≤ 3240000000000 := by rw [HU.out]; omega
  obtain ⟨b10, b11⟩ := b1
  obtain ⟨b20, b21⟩ := b2
  obtain ⟨b30, b31⟩ := b3
  obtain ⟨b50, b51⟩ := b5
  clear b4 hU hDD hDD2
  generalize upN L P D = U at HQ HU ⊢
  generalize hE : D * D = E at HQ HDD ⊢
  generalize qn U E = u at HQ ⊢
  generalize qd U E = v at HQ ⊢
  clear hE
  obtain ⟨w1, hw1, k1, hb1, hz1⟩ := boxS w (.cells #[.int .i64 P, .int .i64 D] 23)
  obtain ⟨w2, hw2, k2, hb2, hz2⟩ := boxS w1 (.cells #[.int .i64 0, .int .i64 0] 24)
  obtain ⟨p0, p1, -, -⟩ := cel2 (blkT k1 hb2)
  go_enter Tryz.func31, Tryz.ntmps31
  go_wp2_with fail
  rw [HU.out, HDD.out]
  refine (HQ _).mono ?_
  rintro e w3 ⟨rfl, hb3⟩
  have k3 := blkT k2 hb3
  obtain ⟨q0, q1, q2, q3⟩ := cel2 k3
  obtain ⟨s1, s2⟩ := set2 k3 (.int .i64 u) (.int .i64 v)
  obtain ⟨t0, t1, -, -⟩ := cel2 s1
  have hbw := tw (tw hb1 hb2) hb3
  have hbf := hbw.grown s2 hbw.size (fun j e => by cases e; exact hb1.size)
  go_wp2
  exact bodyPost_ret (v := .agg #[.int .i64 u, .int .i64 v]) (by simp [results, Tryz.results31, go_sem, t0, t1]) rfl ⟨rfl, hbf⟩
end Go.Proofs.YtlkeejhaodedmaaGreatDoor

/- The reference's Rope. -/
namespace Go.Proofs.YtlkeejhaodedmaaGreatDoor
open Go.RowKit

theorem secOk_take {l : List Sec} (h : SecOk l) (k : Nat) : SecOk (l.take k) := fun i hi => by
  rw [List.getElem_take]
  exact h i (by rw [List.length_take] at hi; omega)
theorem sumW_take {b : Nat} {l : List Sec} (hb : b ≤ 100) (hv : SecOk l) (hl : l.length ≤ 32) (k : Nat) : sumW (widL b (l.take k)) ≤ 4500000000000000000 :=
  sumW_wid hb (secOk_take hv k) (by rw [List.length_take]; omega)
/-- A product and a quotient as the reference reckons them. -/
structure Wd (B M P D W : Nat) where
  x1 : Nat
  x2 : Nat
  x3 : Nat
  q : Nat
  e1 : 2 * (B : Int) = (x1 : Int)
  e2 : (x1 : Int) * (M : Int) = (x2 : Int)
  e3 : (x2 : Int) * (P : Int) = (x3 : Int)
  e4 : (2329089562800 : Int).tdiv (D : Int) = (q : Int)
  e5 : (x3 : Int) * (q : Int) = ((M * W : Nat) : Int)
  b1 : x1 ≤ 200
  b2 : x2 ≤ 60000
  b3 : x3 ≤ 1800000
  b4 : q ≤ 2329089562800
def wdOf {B M P D : Nat} (hB : B ≤ 100) (hM : M ≤ 300) (hP : P ≤ 30) : Wd B M P D (2 * B * 1 * P * (2329089562800 / D)) :=
  ⟨2 * B, 2 * B * M, 2 * B * M * P, 2329089562800 / D, by push_cast; rfl, by push_cast; rfl, by push_cast; rfl, divN 2329089562800 D, by
    rw [← Int.natCast_mul]
    congr 1
    generalize 2329089562800 / D = q
    grind, by omega, Nat.le_trans (Nat.mul_le_mul (show 2 * B ≤ 200 by omega) hM) (by decide), Nat.le_trans (Nat.mul_le_mul (Nat.mul_le_mul (show 2 * B ≤ 200 by omega) hM) hP) (by decide), Nat.div_le_self _ _⟩
set_option maxHeartbeats 4000000 in
set_option maxRecDepth 100000 in
theorem rfRopeN (A : Option Addr) (c : Nat) (l : List Sec) (B : Nat) (w : World) (hl : l.length ≤ 32) (hv : SecOk l) (hB : B ≤ 100) (hA : OKV Sec.c 3 w A c l) (E : Int) (u v : Nat) (hu : qn (sumW (widL B l)) 2329089562800 = u) (hw : qd (sumW (widL B l)) 2329089562800 = v) (hE : (if larB (u : Int) (v : Int) = true then 4 else 0) = E) :
    Calls Tryz.prog 44 #[.slice A l.length c, .int .i64 B] w fun e w' => e = .returned (.tuple #[.agg #[.int .i64 (oz E u), .int .i64 (oz E v)], .int .i64 E]) ∧ Below w.heap.size w w' := by
  obtain ⟨w1, hw1, k1, hb1, hz1⟩ := boxS w (.cells #[.int .i64 0, .int .i64 0] 23)
  have HA := Lib.hid hA
  have HV := Lib.hid hv
  have HE := Lib.hid hE
  have HR := fun w => rfRatio (sumW (widL B l)) 2329089562800 w (Nat.le_trans (sumW_wid hB hv hl) (by decide)) (by decide) (by decide)
  rw [hu, hw] at HR
  clear hA hv hE hu hw
  go_enter Tryz.func44, Tryz.ntmps44
  go_wp2_with fail
  go_loopw [6, 7] (fun s i wr => ∃ k : Nat, k ≤ l.length ∧ i = .int .i64 k ∧ s = .int .i64 ((sumW (widL B (l.take k)) : Nat) : Int) ∧ wr.heap[w.heap.size]? = some (.cells #[.int .i64 0, .int .i64 0] 23 (0, 0)) ∧ Below w.heap.size w wr) (fun _ i _ => l.length - (intOf i).toNat)
  case atStart => exact ⟨0, Nat.zero_le _, rfl, rfl, k1, hb1⟩
  case round =>
    clear k1 hb1
    obtain ⟨k, hk, rfl, rfl, kz, hb⟩ := hrel
    by_cases hlt : k < l.length
    · have hki : (k : Int) < (l.length : Int) := by omega
      have hk0 : (0 : Int) ≤ (k : Int) := by omega
      obtain ⟨b, off, hAe, hBb, c0, c1, c2⟩ := atS (OKV.below HA.out hb).2.2.2 hlt
      subst hAe
      obtain ⟨M, P, D, h1, h2, h3, m1, m2, m3, m4, m5, -⟩ := HV.out k hlt
      have W0 := wdOf (B := B) (M := M) (P := P) (D := D) hB m2 (by omega)
      have hN := sumW_take hB HV.out hl (k + 1)
      have HN := Lib.hid (show sumW (widL B (l.take (k + 1))) = sumW (widL B (l.take k)) + M * (2 * B * 1 * P * (2329089562800 / D)) by
        rw [widL_succ B l hlt, sumW_app]
        simp only [sumW, widE, h1, h2, h3, Int.toNat_natCast]
        omega)
      rw [HN.out] at hN
      rw [h1] at c0
      rw [h2] at c1
      rw [h3] at c2
      generalize sumW (widL B (l.take k)) = S at HN hN ⊢
      obtain ⟨x1, x2, x3, q, e1, e2, e3, e4, e5, b1, b2, b3, b4⟩ := W0
      generalize M * (2 * B * 1 * P * (2329089562800 / D)) = Y at HN hN e5
      have hD0 : ¬ (D : Int) = 0 := by omega
      have hD1 : ((D : Int) != 0) = true := by rw [bne_iff_ne]; omega
      have v1 : IntKind.i64.wrap (x1 : Int) = (x1 : Int) := wr64 (by omega) (by omega)
      have v2 : IntKind.i64.wrap (x2 : Int) = (x2 : Int) := wr64 (by omega) (by omega)
      have v3 : IntKind.i64.wrap (x3 : Int) = (x3 : Int) := wr64 (by omega) (by omega)
      have v4 : IntKind.i64.wrap (q : Int) = (q : Int) := wr64 (by omega) (by omega)
      have v5 : IntKind.i64.wrap (Y : Int) = (Y : Int) := wr64 (by omega) (by omega)
      have v6 : IntKind.i64.wrap ((S : Int) + (Y : Int)) = (S : Int) + (Y : Int) := wr64 (by omega) (by omega)
      clear h1 h2 h3
      go_wp2_with fail
      go_quiet (fail)
      go_wp2_with fail
      go_roundw
      case rel => exact ⟨k + 1, by omega, by go_num, by rw [HN.out]; push_cast; rfl, kz, below_drewN hb _⟩
      case measure => simp [intOf]; omega
    · obtain rfl : k = l.length := by omega
      have hki : ¬ (l.length : Int) < (l.length : Int) := by omega
      rw [List.take_length]
      go_wp2_with fail
      refine (HR _).mono ?_
      rintro e w3 ⟨rfl, hb3⟩
      obtain ⟨w4, hw4, k4, hb4, hz4⟩ := boxS w3 (.cells #[.int .i64 u, .int .i64 v] 23)
      obtain ⟨x0, x1, -, -⟩ := cel2 k4
      have k5 := blkT (blkT kz hb3) hb4
      have hbw := tw (tw hb hb3) hb4
      obtain ⟨q0, q1, q2, q3⟩ := cel2 k5
      by_cases hlb : larB (u : Int) (v : Int) = true
      · have HE4 := Lib.hid (show E = 4 by rw [← HE.out, if_pos hlb])
        obtain ⟨s1, s2⟩ := set2 k5 (.int .i64 0) (.int .i64 0)
        obtain ⟨t0, t1, -, -⟩ := cel2 s1
        have hbf := hbw.grown s2 hbw.size (fun j e => by cases e; exact Nat.le_refl _)
        have hor : 999999999 < (u : Int) ∨ 999999999 < (v : Int) := of_decide_eq_true hlb
        clear hlb
        by_cases a1 : 999999999 < (u : Int)
        · go_wp2
          exact bodyPost_ret (v := .tuple #[.agg #[.int .i64 0, .int .i64 0], .int .i64 4]) (by simp [results, Tryz.results44, go_sem, t0, t1]) rfl ⟨by rw [HE4.out, ozE (by decide), ozE (by decide)], hbf⟩
        · have a2 : 999999999 < (v : Int) := by omega
          clear hor
          go_wp2
          exact bodyPost_ret (v := .tuple #[.agg #[.int .i64 0, .int .i64 0], .int .i64 4]) (by simp [results, Tryz.results44, go_sem, t0, t1]) rfl ⟨by rw [HE4.out, ozE (by decide), ozE (by decide)], hbf⟩
      · have HE4 := Lib.hid (show E = 0 by rw [← HE.out, if_neg hlb])
        have hor : ¬ (999999999 < (u : Int) ∨ 999999999 < (v : Int)) := fun h => hlb (decide_eq_true h)
        have a1 : ¬ 999999999 < (u : Int) := by omega
        have a2 : ¬ 999999999 < (v : Int) := by omega
        obtain ⟨s1, s2⟩ := set2 k5 (.int .i64 u) (.int .i64 v)
        obtain ⟨t0, t1, -, -⟩ := cel2 s1
        have hbf := hbw.grown s2 hbw.size (fun j e => by cases e; exact Nat.le_refl _)
        clear hlb hor
        go_wp2
        exact bodyPost_ret (v := .tuple #[.agg #[.int .i64 u, .int .i64 v], .int .i64 0]) (by simp [results, Tryz.results44, go_sem, t0, t1]) rfl ⟨by rw [HE4.out, oz0, oz0], hbf⟩
end Go.Proofs.YtlkeejhaodedmaaGreatDoor

/- The reference's Marks. -/
namespace Go.Proofs.YtlkeejhaodedmaaGreatDoor
open Go.RowKit

theorem marksN_app (l m : List (Nat × Nat)) : marksN (l ++ m) = marksN l ++ numsL (sumW l) m := by
  simp [marksN, numsL_app]
/-- The marks so far: whole sections, and k meshes of the next one. -/
def mrk (b : Nat) (l : List Sec) (i W k : Nat) : List Rt := (marksN (widL b (l.take i)) ++ (List.range k).map fun j => sumW (widL b (l.take i)) + (j + 1) * W).map markR
theorem mrk_zero (b : Nat) (l : List Sec) (i W : Nat) : mrk b l i W 0 = (marksN (widL b (l.take i))).map markR := by simp [mrk]
theorem mrk_succ (b : Nat) (l : List Sec) (i W k : Nat) : mrk b l i W (k + 1) = mrk b l i W k ++ [markR (sumW (widL b (l.take i)) + (k + 1) * W)] := by simp [mrk, List.range_succ]
theorem mrk_end (b : Nat) (l : List Sec) {i : Nat} (h : i < l.length) {M W : Nat} (e : widE b l[i] = (M, W)) : mrk b l i W M = (marksN (widL b (l.take (i + 1)))).map markR := by
  rw [widL_succ b l h, marksN_snoc, e, mrk]
theorem mrk_len (b : Nat) (l : List Sec) (i W k : Nat) : (mrk b l i W k).length = cntW (widL b (l.take i)) + 1 + k := by
  rw [mrk, List.length_map, List.length_append, marksN_len, List.length_map, List.length_range]
theorem mrk_mem (b : Nat) (l : List Sec) {i : Nat} (h : i < l.length) {M W : Nat} (e : widE b l[i] = (M, W)) {k : Nat} (hk : k < M) : markR (sumW (widL b (l.take i)) + (k + 1) * W) ∈ (marksN (widL b l)).map markR := by
  have e1 : widL b l = widL b (l.take (i + 1)) ++ widL b (l.drop (i + 1)) := by unfold widL; rw [← List.map_append, List.take_append_drop]
  rw [e1, marksN_app, List.map_append]
  refine List.mem_append_left _ ?_
  rw [widL_succ b l h, marksN_snoc, e]
  exact List.mem_map.2 ⟨_, List.mem_append_right _ (List.mem_map.2 ⟨k, List.mem_range.2 hk, rfl⟩), rfl⟩
theorem cntW_le (b : Nat) {l : List Sec} (hv : SecOk l) (i : Nat) : cntW (widL b (l.take i)) ≤ i * 300 := by
  induction i with
  | zero => simp [widL, cntW]
  | succ i ih =>
    rcases Nat.lt_or_ge i l.length with h | h
    · obtain ⟨M, P, D, h1, h2, h3, m1, m2, -⟩ := hv i h
      have e : (widE b l[i]).1 = M := by simp only [widE, h1, Int.toNat_natCast]
      have e2 : cntW [widE b l[i]] = M := by rw [cntW, cntW, e]; rfl
      rw [widL_succ b l h, cntW_app, e2]
      clear e e2
      generalize cntW (widL b (l.take i)) = z at ih ⊢
      omega
    · rw [List.take_of_length_le (by omega)]
      rw [List.take_of_length_le h] at ih
      exact Nat.le_trans ih (Nat.mul_le_mul (Nat.le_succ i) (Nat.le_refl _))
set_option maxHeartbeats 8000000 in
set_option maxRecDepth 100000 in
theorem rfMarksN (A : Option Addr) (c : Nat) (l : List Sec) (B : Nat) (w : World) (hl : l.length ≤ 32) (hv : SecOk l) (hB : B ≤ 100) (hA : OKV Sec.c 3 w A c l) (E : Int) (hE : (if ((marksN (widL B l)).map markR).any larR = true then 4 else 0) = E) :
    Calls Tryz.prog 45 #[.slice A l.length c, .int .i64 B] w (ListP Rt.c 2 (ozL E ((marksN (widL B l)).map markR)) E w) := by
  have HA := Lib.hid hA
  have HV := Lib.hid hv
  have HE := Lib.hid hE
  obtain ⟨i0, hi, hz0, hz1, hz2⟩ := info_parts infoHR
  have HI := Lib.hid hi
  have HZ0 := Lib.hid hz0
  have HZ1 := Lib.hid hz1
  have HZ2 := Lib.hid hz2
  clear hi hz0 hz1 hz2 hA hv hE
  obtain ⟨w1, hw1, k1, hb1, hz1⟩ := boxS w (.cells #[.int .i64 0, .int .i64 1] 23)
  have HO := World.ownsRow_lit (base := w.heap.size) (e := 23) (size := 2) w #[.int .i64 0, .int .i64 1] 1 (Nat.le_refl _) (by unfold maxLen; omega) rfl
  rw [hw1] at HO
  have hm0 : ((marksN (widL B (l.take 0))).map markR).flatMap Rt.c = [.int .i64 0, .int .i64 1] := by
    have e1 : marksN (widL B (l.take 0)) = [0] := by simp [widL, marksN, numsL]
    have e2 : markR 0 = ⟨0, 1⟩ := by
      unfold markR qn qd
      rw [Nat.gcd_zero_left]
      rfl
    rw [e1]
    simp [e2, Rt.c]
  have HO1 := Lib.hid (show w1.ownsRow w.heap.size 23 2 (.slice (some ⟨w.heap.size, 0, none⟩) 1 1) 1 (((marksN (widL B (l.take 0))).map markR).flatMap Rt.c) by rw [hm0]; exact HO)
  have hl0 : (marksN (widL B (l.take 0))).length = 1 := by simp [widL, marksN, numsL]
  have HN0 := Lib.hid (show ∀ x ∈ (marksN (widL B (l.take 0))).map markR, larR x = false by
    have e1 : marksN (widL B (l.take 0)) = [0] := by simp [widL, marksN, numsL]
    rw [e1]
    intro x hx
    simp at hx
    subst hx
    have e2 : markR 0 = ⟨0, 1⟩ := by
      unfold markR qn qd
      rw [Nat.gcd_zero_left]
      rfl
    rw [e2]
    rfl)
  have HL0 := Lib.hid hl0
  clear HO hm0 hl0
  go_enter Tryz.func45, Tryz.ntmps45
  go_wp2_with fail
  go_loopw [6, 7, 8] (fun v s i wr => ∃ k n : Nat, k ≤ l.length ∧ i = .int .i64 k ∧ s = .int .i64 ((sumW (widL B (l.take k)) : Nat) : Int) ∧ Hid ((marksN (widL B (l.take k))).length = n) ∧ Hid (wr.ownsRow w.heap.size 23 2 v n (((marksN (widL B (l.take k))).map markR).flatMap Rt.c)) ∧ Hid (∀ x ∈ (marksN (widL B (l.take k))).map markR, larR x = false) ∧ Below w.heap.size w wr) (fun _ _ i _ => l.length - (intOf i).toNat)
  case atStart => exact ⟨0, 1, Nat.zero_le _, rfl, rfl, HL0, HO1, HN0, hb1⟩
  case round =>
    clear HO1 HN0 HL0 hb1 k1
    obtain ⟨i, n, hik, rfl, rfl, HL, hown, HN, hb⟩ := hrel
    by_cases hlt : i < l.length
    · have hki : (i : Int) < (l.length : Int) := by omega
      have hk0 : (0 : Int) ≤ (i : Int) := by omega
      obtain ⟨M, P, D, h1, h2, h3, m1, m2, m3, m4, m5, -⟩ := HV.out i hlt
      have HC := Lib.hid (fun (X : World) (h : Below w.heap.size w X) => by
        have h' := atS (OKV.below HA.out h).2.2.2 hlt
        rw [h1, h2, h3] at h'
        exact h')
      obtain ⟨W, hW⟩ : ∃ W, 2 * B * 1 * P * (2329089562800 / D) = W := ⟨_, rfl⟩
      have HWE := Lib.hid (show widE B l[i] = (M, W) by rw [← hW]; simp only [widE, h1, h2, h3, Int.toNat_natCast])
      have hwl := (widE_le (b := B) hB h1 h2 h3 m2 m4).2
      rw [show (widE B l[i]).2 = W by rw [HWE.out]] at hwl
      obtain ⟨x1, x2, x3, q, e1, e2, e3, e4, e5, b1, b2, b3, b4⟩ := wdOf (B := B) (M := 1) (P := P) (D := D) hB (by decide) (by omega)
      rw [hW] at e5
      simp only [Nat.one_mul] at e5
      have e2' : x2 = x1 := by
        have : (x1 : Int) * ((1 : Nat) : Int) = (x1 : Int) := Int.mul_one _
        omega
      subst e2'
      clear e2 hW h1 h2 h3
      have hS9 := sumW_take hB HV.out hl (i + 1)
      have HSS := Lib.hid (show sumW (widL B (l.take (i + 1))) = sumW (widL B (l.take i)) + M * W by
        rw [widL_succ B l hlt, sumW_app, HWE.out]
        simp only [sumW]
        omega)
      rw [HSS.out] at hS9
      have hcn := cntW_le B HV.out i
      have hn9 : n = cntW (widL B (l.take i)) + 1 := by rw [← HL.out, marksN_len]
      have hn8 : n ≤ 9601 := by
        have : i * 300 ≤ 32 * 300 := Nat.mul_le_mul (by omega) (Nat.le_refl _)
        omega
      have HL2 := Lib.hid (show ∀ k, (mrk B l i W k).length = n + k from fun k => by rw [mrk_len]; omega)
      have HMS := Lib.hid (mrk_succ B l i W)
      have HME := Lib.hid (mrk_end B l hlt HWE.out)
      have HMM := Lib.hid (fun k (h : k < M) => mrk_mem B l hlt HWE.out h)
      have HST := Lib.hid (show Hid (wr.ownsRow w.heap.size 23 2 u6 n ((mrk B l i W 0).flatMap Rt.c)) ∧ ∀ x ∈ mrk B l i W 0, larR x = false by rw [mrk_zero]; exact ⟨hown, HN.out⟩)
      have HLX := Lib.hid (show (marksN (widL B (l.take (i + 1)))).length = n + M by
        have h2 := HL2.out M
        rw [HME.out, List.length_map] at h2
        exact h2)
      clear hn9 hcn HL hown HN
      generalize sumW (widL B (l.take i)) = S at HSS HMS HMM hS9 ⊢
      go_wp2_with fail
      go_loopw [6, 7, 9] (fun v s j wz => ∃ k : Nat, k ≤ M ∧ j = .int .i64 k ∧ s = .int .i64 ((S + k * W : Nat) : Int) ∧ Hid (wz.ownsRow w.heap.size 23 2 v (n + k) ((mrk B l i W k).flatMap Rt.c)) ∧ Hid (∀ x ∈ mrk B l i W k, larR x = false) ∧ Below w.heap.size w wz) (fun _ _ j _ => M - (intOf j).toNat)
      case atStart => exact ⟨0, Nat.zero_le _, rfl, by rw [Nat.zero_mul]; rfl, HST.out.1, Lib.hid HST.out.2, hb⟩
      case round =>
        clear HST hb
        obtain ⟨k, hkM, rfl, rfl, hown, HN, hb⟩ := hrel
        obtain ⟨b, off, hAe, hBb, c0, c1, c2⟩ := HC.out wr hb
        subst hAe
        by_cases hkl : k < M
        · have hkj : (k : Int) < (M : Int) := by omega
          have hle : (k + 1) * W ≤ M * W := Nat.mul_le_mul (by omega) (Nat.le_refl _)
          have hsum : ((S + k * W : Nat) : Int) + (W : Int) = ((S + (k + 1) * W : Nat) : Int) := by rw [Nat.add_mul]; omega
          have HMk := Lib.hid (HMM.out k hkl)
          have HMSk := Lib.hid (HMS.out k)
          have hR := fun w => rfRatio (S + (k + 1) * W) 2329089562800 w (by omega) (by decide) (by decide)
          have hkw : k * W ≤ M * W := Nat.mul_le_mul (by omega) (Nat.le_refl _)
          have hSk : S + k * W ≤ 4500000000000000000 := by omega
          have hSk1 : S + (k + 1) * W ≤ 4500000000000000000 := by omega
          have HMR : Hid (markR (S + (k + 1) * W) = ⟨(qn (S + (k + 1) * W) 2329089562800 : Nat), (qd (S + (k + 1) * W) 2329089562800 : Nat)⟩) := Lib.hid rfl
          generalize S + k * W = S1 at hsum hSk ⊢
          generalize hS2 : S + (k + 1) * W = S2 at hsum hSk1 hR HMR HMk HMSk
          have HS2 := Lib.hid hS2
          clear hS2
          generalize qn S2 2329089562800 = u at hR HMR
          generalize qd S2 2329089562800 = v at hR HMR
          generalize markR S2 = mk at HMR HMk HMSk
          have hD0 : ¬ (D : Int) = 0 := by omega
          have hD1 : ((D : Int) != 0) = true := by rw [bne_iff_ne]; omega
          have v1 : IntKind.i64.wrap (x2 : Int) = (x2 : Int) := wr64 (by omega) (by omega)
          have v3 : IntKind.i64.wrap (x3 : Int) = (x3 : Int) := wr64 (by omega) (by omega)
          have v4 : IntKind.i64.wrap (q : Int) = (q : Int) := wr64 (by omega) (by omega)
          have v5 : IntKind.i64.wrap (W : Int) = (W : Int) := wr64 (by omega) (by omega)
          have v6 : IntKind.i64.wrap (S2 : Int) = (S2 : Int) := wr64 (by omega) (by omega)
          clear hle hkw
          go_wp2_with fail
          go_quiet (fail)
          have hb5 := below_drewN hb nq
          have hown5 := Lib.hid (ownTo hown.out (below_drewN (Below.refl _ _) nq))
          generalize World.drewN wr nq = w5 at hb5 hown5 ⊢
          clear c0 c1 c2 hb hown
          go_wp2_with fail
          refine (hR _).mono ?_
          rintro e w6 ⟨rfl, hb6⟩
          obtain ⟨w7, hw7, k7, hb7, hz7⟩ := boxS w6 (.cells #[.int .i64 u, .int .i64 v] 23)
          obtain ⟨q0, q1, -, -⟩ := cel2 k7
          have hbf := tw (tw hb5 hb6) hb7
          have hown7 := Lib.hid (ownTo (ownTo hown5.out hb6) hb7)
          clear hb5 hown5 hb6 hb7 hR
          by_cases hbad : 999999999 < (u : Int) ∨ 999999999 < (v : Int)
          · have HE4 := Lib.hid (show E = 4 by
              rw [← HE.out, if_pos]
              refine List.any_eq_true.2 ⟨mk, HMk.out, ?_⟩
              rw [HMR.out, larR, larB]
              exact decide_eq_true hbad)
            by_cases a1 : 999999999 < (u : Int)
            · clear hbad
              go_wp2_with fail
              go_ret2
              exact ⟨none, 0, by rw [HE4.out, ozLE (by decide)]; rfl, by rw [HE4.out, ozLE (by decide)]; exact OKV.none _ _ _, hbf⟩
            · have a2 : 999999999 < (v : Int) := by omega
              clear hbad
              go_wp2_with fail
              go_ret2
              exact ⟨none, 0, by rw [HE4.out, ozLE (by decide)]; rfl, by rw [HE4.out, ozLE (by decide)]; exact OKV.none _ _ _, hbf⟩
          · have a1 : ¬ 999999999 < (u : Int) := by omega
            have a2 : ¬ 999999999 < (v : Int) := by omega
            have HNN := Lib.hid (show ∀ x ∈ mrk B l i W (k + 1), larR x = false by
              rw [HMSk.out]
              intro x hx
              rcases List.mem_append.1 hx with h | h
              · exact HN.out x h
              · rw [List.mem_singleton.1 h, HMR.out, larR, larB]
                exact decide_eq_false hbad)
            have HSN := Lib.hid (show (mrk B l i W (k + 1)).flatMap Rt.c = (mrk B l i W k).flatMap Rt.c ++ [.int .i64 (u : Int), .int .i64 (v : Int)] by
              rw [HMSk.out, List.flatMap_append, HMR.out]
              simp [Rt.c])
            have hbz := hbf.size
            clear hbad
            go_wp2_with (at_builtin; refine wpList_append_own _ rfl _ _ 65 rfl w.heap.size 23 i0 (.agg #[.int .i64 0, .int .i64 0]) 2 16 Tryz.underlying65 HI.out HZ0.out HZ1.out HZ2.out rfl (by decide) _ _ _ rfl (hown7.out.alloc _) ⟨w7.heap.size, 0, none⟩ 1 1 [.int .i64 (u : Int), .int .i64 (v : Int)] rfl rfl (newsH _ _ _) ?c2 ?c3 ?c4 ?c5 ?_)
            case c2 => first | rfl | (intro u hu; simp at hu; rcases hu with rfl | rfl <;> rfl) | simp [Value.oneCell']
            case c3 => unfold maxLen; omega
            case c4 => omega
            case c5 => first | omega | (simp; omega)
            intro v' w10 hown10 hgrow10 _
            have hq10 : Below w.heap.size w w10 := (hbf.alloc hbz (.cells #[.int .i64 (u : Int), .int .i64 (v : Int)] 23)).grown hgrow10 (by simp; omega) (baseOf hown7.out)
            have HO10 := Lib.hid (show w10.ownsRow w.heap.size 23 2 v' (n + (k + 1)) ((mrk B l i W (k + 1)).flatMap Rt.c) by rw [HSN.out]; exact hown10)
            have hSN := hsum
            clear hown10 hgrow10 hown7
            go_wp2
            go_roundw
            case rel => exact ⟨k + 1, by omega, by go_num, by rw [HS2.out], HO10, HNN, hq10⟩
            case measure => simp [intOf]; omega
        · obtain rfl : M = k := by omega
          have hkj : ¬ (M : Int) < (M : Int) := by omega
          have HOW := Lib.hid (show wr.ownsRow w.heap.size 23 2 u6 (n + M) (((marksN (widL B (l.take (i + 1)))).map markR).flatMap Rt.c) by rw [← HME.out]; exact hown.out)
          have HNN := Lib.hid (show ∀ x ∈ (marksN (widL B (l.take (i + 1)))).map markR, larR x = false by rw [← HME.out]; exact HN.out)
          go_wp2_with fail
          go_roundw
          case rel => exact ⟨i + 1, n + M, by omega, by go_num, by rw [HSS.out], HLX, HOW, HNN, hb⟩
          case measure => simp [intOf]; omega
    · obtain rfl : i = l.length := by omega
      have hki : ¬ (l.length : Int) < (l.length : Int) := by omega
      have ho := hown.out
      have hn := HN.out
      have hL := HL.out
      rw [List.take_length] at ho hn hL
      have HE2 := Lib.hid (show E = 0 by
        rw [← HE.out, if_neg]
        intro h
        obtain ⟨x, hx, hq⟩ := List.any_eq_true.1 h
        rw [hn x hx] at hq
        cases hq)
      obtain ⟨av, cv, rfl, hok⟩ := OKV.ownN Rt.c2 ho (by rw [List.length_map]; exact hL)
      have HOK := Lib.hid hok
      have HLL := Lib.hid hL
      clear hok hown ho hn hL
      go_wp2_with fail
      go_ret2
      refine ⟨av, cv, ?_, ?_, hb⟩
      · rw [HE2.out, ozL0, List.length_map, HLL.out]; rfl
      · rw [HE2.out, ozL0]; exact HOK.out
end Go.Proofs.YtlkeejhaodedmaaGreatDoor

/- The law's converters of lists. -/
namespace Go.Proofs.YtlkeejhaodedmaaGreatDoor
open Go.RowKit

theorem info_sections : (Tryz.prog.info? 131).map (fun i => (i.zero, i.size, i.bytes)) = some (some (.agg #[.int .i64 0, .int .i64 0, .int .i64 0]), 3, 24) := by kernel_rfl
set_option maxHeartbeats 4000000 in
set_option maxRecDepth 100000 in
theorem law_sections (A : Option Addr) (c : Nat) (l : List Sec) (w : World) (hl : l.length ≤ 1000) (hA : OKV Sec.c 3 w A c l) :
    Calls Tryz.prog 40 #[.slice A l.length c] w (SliP Sec.c 3 l w) := by
  obtain ⟨i0, hi, hz0, hz1, hz2⟩ := info_parts info_sections
  have HI := Lib.hid hi
  have HZ0 := Lib.hid hz0
  have HZ1 := Lib.hid hz1
  have HZ2 := Lib.hid hz2
  have HA := Lib.hid hA
  clear hi hz0 hz1 hz2 hA
  go_enter Tryz.func40, Tryz.ntmps40
  go_wp2_with fail
  go_loopw [3, 8] (fun v i wr => ∃ j : Nat, j ≤ l.length ∧ i = .int .i64 j ∧ Hid (wr.ownsRow w.heap.size 131 3 v j ((l.take j).flatMap Sec.c)) ∧ Below w.heap.size w wr) (fun _ i _ => l.length - (intOf i).toNat)
  case atStart => exact ⟨0, Nat.zero_le _, rfl, World.ownsRow_nil _ _ _ _, Below.refl _ _⟩
  case round =>
    obtain ⟨j, hj, rfl, hown, hb⟩ := hrel
    by_cases hlt : j < l.length
    · have hki : (j : Int) < (l.length : Int) := by omega
      have hk0 : (0 : Int) ≤ (j : Int) := by omega
      have hbz := hb.size
      obtain ⟨b, off, hAe, hB, c0, c1, c2⟩ := atS (OKV.below HA.out hb).2.2.2 hlt
      subst hAe
      have HSN := Lib.hid (show (l.take (j + 1)).flatMap Sec.c = (l.take j).flatMap Sec.c ++ [.int .i64 l[j].m, .int .i64 l[j].n, .int .i64 l[j].d] by rw [List.take_succ_eq_append_getElem hlt, List.flatMap_append]; simp; rfl)
      generalize l[j].m = x0 at c0 HSN
      generalize l[j].n = x1 at c1 HSN
      generalize l[j].d = x2 at c2 HSN
      obtain ⟨w5, hw5, k5, hb5, hz5⟩ := boxS wr (.cells #[.int .i64 x0, .int .i64 x1, .int .i64 x2] 112)
      obtain ⟨d0, d1, d2, -, -, -⟩ := cel3 k5
      have hb5w := tw hb hb5
      have hown5 := Lib.hid (ownTo hown.out hb5)
      have hbz5 := hb5w.size
      go_wp2_with (at_builtin; refine wpList_append_own _ rfl _ _ 63 rfl w.heap.size 131 i0 (.agg #[.int .i64 0, .int .i64 0, .int .i64 0]) 3 24 Tryz.underlying63 HI.out HZ0.out HZ1.out HZ2.out rfl (by decide) _ _ _ rfl (hown5.out.alloc _) ⟨w5.heap.size, 0, none⟩ 1 1 [.int .i64 x0, .int .i64 x1, .int .i64 x2] rfl rfl (newsH _ _ _) ?c2 ?c3 ?c4 ?c5 ?_)
      case c2 => first | rfl | (intro u hu; simp at hu; rcases hu with rfl | rfl | rfl <;> rfl) | (intro u hu; simp at hu; rcases hu with rfl | rfl | rfl | rfl <;> rfl) | simp [Value.oneCell']
      case c3 => unfold maxLen; omega
      case c4 => omega
      case c5 => first | omega | (simp; omega)
      intro v' w6 hown6 hgrow6 _
      have hq6 : Below w.heap.size w w6 := (hb5w.alloc hbz5 (.cells #[.int .i64 x0, .int .i64 x1, .int .i64 x2] 131)).grown hgrow6 (by simp; omega) (baseOf hown5.out)
      have HO6 := Lib.hid (show w6.ownsRow w.heap.size 131 3 v' (j + 1) ((l.take (j + 1)).flatMap Sec.c) by rw [HSN.out]; exact hown6)
      clear hown6 hgrow6 hown hown5
      go_wp2
      go_roundw
      case rel => exact ⟨j + 1, by omega, by go_num, HO6, hq6⟩
      case measure => simp [intOf]; omega
    · obtain rfl : j = l.length := by omega
      have hki : ¬ (l.length : Int) < (l.length : Int) := by omega
      have ho := hown.out
      rw [List.take_length] at ho
      obtain ⟨a, cv, rfl, hok⟩ := OKV.ownN Sec.c3 ho rfl
      have HOK := Lib.hid hok
      clear hok hown ho
      go_wp2
      go_ret
      exact ⟨a, cv, rfl, HOK.out, hb⟩
theorem info_twines : (Tryz.prog.info? 132).map (fun i => (i.zero, i.size, i.bytes)) = some (some (.agg #[.string ByteArray.empty, .int .i64 0, .int .i64 0]), 3, 32) := by kernel_rfl
set_option maxHeartbeats 4000000 in
set_option maxRecDepth 100000 in
theorem law_twines (A : Option Addr) (c : Nat) (l : List Twn) (w : World) (hl : l.length ≤ 1000) (hA : OKV Twn.c 3 w A c l) :
    Calls Tryz.prog 51 #[.slice A l.length c] w (SliP Twn.c 3 l w) := by
  obtain ⟨i0, hi, hz0, hz1, hz2⟩ := info_parts info_twines
  have HI := Lib.hid hi
  have HZ0 := Lib.hid hz0
  have HZ1 := Lib.hid hz1
  have HZ2 := Lib.hid hz2
  have HA := Lib.hid hA
  clear hi hz0 hz1 hz2 hA
  go_enter Tryz.func51, Tryz.ntmps51
  go_wp2_with fail
  go_loopw [3, 8] (fun v i wr => ∃ j : Nat, j ≤ l.length ∧ i = .int .i64 j ∧ Hid (wr.ownsRow w.heap.size 132 3 v j ((l.take j).flatMap Twn.c)) ∧ Below w.heap.size w wr) (fun _ i _ => l.length - (intOf i).toNat)
  case atStart => exact ⟨0, Nat.zero_le _, rfl, World.ownsRow_nil _ _ _ _, Below.refl _ _⟩
  case round =>
    obtain ⟨j, hj, rfl, hown, hb⟩ := hrel
    by_cases hlt : j < l.length
    · have hki : (j : Int) < (l.length : Int) := by omega
      have hk0 : (0 : Int) ≤ (j : Int) := by omega
      have hbz := hb.size
      obtain ⟨b, off, hAe, hB, c0, c1, c2⟩ := atT (OKV.below HA.out hb).2.2.2 hlt
      subst hAe
      have HSN := Lib.hid (show (l.take (j + 1)).flatMap Twn.c = (l.take j).flatMap Twn.c ++ [.string l[j].s, .int .i64 l[j].x, .int .i64 l[j].h] by rw [List.take_succ_eq_append_getElem hlt, List.flatMap_append]; simp; rfl)
      generalize l[j].s = x0 at c0 HSN
      generalize l[j].x = x1 at c1 HSN
      generalize l[j].h = x2 at c2 HSN
      obtain ⟨w5, hw5, k5, hb5, hz5⟩ := boxS wr (.cells #[.string x0, .int .i64 x1, .int .i64 x2] 121)
      obtain ⟨d0, d1, d2, -, -, -⟩ := cel3 k5
      have hb5w := tw hb hb5
      have hown5 := Lib.hid (ownTo hown.out hb5)
      have hbz5 := hb5w.size
      go_wp2_with (at_builtin; refine wpList_append_own _ rfl _ _ 81 rfl w.heap.size 132 i0 (.agg #[.string ByteArray.empty, .int .i64 0, .int .i64 0]) 3 32 Tryz.underlying81 HI.out HZ0.out HZ1.out HZ2.out rfl (by decide) _ _ _ rfl (hown5.out.alloc _) ⟨w5.heap.size, 0, none⟩ 1 1 [.string x0, .int .i64 x1, .int .i64 x2] rfl rfl (newsH _ _ _) ?c2 ?c3 ?c4 ?c5 ?_)
      case c2 => first | rfl | (intro u hu; simp at hu; rcases hu with rfl | rfl | rfl <;> rfl) | (intro u hu; simp at hu; rcases hu with rfl | rfl | rfl | rfl <;> rfl) | simp [Value.oneCell']
      case c3 => unfold maxLen; omega
      case c4 => omega
      case c5 => first | omega | (simp; omega)
      intro v' w6 hown6 hgrow6 _
      have hq6 : Below w.heap.size w w6 := (hb5w.alloc hbz5 (.cells #[.string x0, .int .i64 x1, .int .i64 x2] 132)).grown hgrow6 (by simp; omega) (baseOf hown5.out)
      have HO6 := Lib.hid (show w6.ownsRow w.heap.size 132 3 v' (j + 1) ((l.take (j + 1)).flatMap Twn.c) by rw [HSN.out]; exact hown6)
      clear hown6 hgrow6 hown hown5
      go_wp2
      go_roundw
      case rel => exact ⟨j + 1, by omega, by go_num, HO6, hq6⟩
      case measure => simp [intOf]; omega
    · obtain rfl : j = l.length := by omega
      have hki : ¬ (l.length : Int) < (l.length : Int) := by omega
      have ho := hown.out
      rw [List.take_length] at ho
      obtain ⟨a, cv, rfl, hok⟩ := OKV.ownN Twn.c3 ho rfl
      have HOK := Lib.hid hok
      clear hok hown ho
      go_wp2
      go_ret
      exact ⟨a, cv, rfl, HOK.out, hb⟩
theorem info_lines : (Tryz.prog.info? 133).map (fun i => (i.zero, i.size, i.bytes)) = some (some (.agg #[.int .i64 0, .int .i64 0, .int .i64 0, .string ByteArray.empty]), 4, 40) := by kernel_rfl
set_option maxHeartbeats 4000000 in
set_option maxRecDepth 100000 in
theorem law_lines (A : Option Addr) (c : Nat) (l : List Lin) (w : World) (hl : l.length ≤ 1000) (hA : OKV Lin.c 4 w A c l) :
    Calls Tryz.prog 62 #[.slice A l.length c] w (SliP Lin.c 4 l w) := by
  obtain ⟨i0, hi, hz0, hz1, hz2⟩ := info_parts info_lines
  have HI := Lib.hid hi
  have HZ0 := Lib.hid hz0
  have HZ1 := Lib.hid hz1
  have HZ2 := Lib.hid hz2
  have HA := Lib.hid hA
  clear hi hz0 hz1 hz2 hA
  go_enter Tryz.func62, Tryz.ntmps62
  go_wp2_with fail
  go_loopw [3, 8] (fun v i wr => ∃ j : Nat, j ≤ l.length ∧ i = .int .i64 j ∧ Hid (wr.ownsRow w.heap.size 133 4 v j ((l.take j).flatMap Lin.c)) ∧ Below w.heap.size w wr) (fun _ i _ => l.length - (intOf i).toNat)
  case atStart => exact ⟨0, Nat.zero_le _, rfl, World.ownsRow_nil _ _ _ _, Below.refl _ _⟩
  case round =>
    obtain ⟨j, hj, rfl, hown, hb⟩ := hrel
    by_cases hlt : j < l.length
    · have hki : (j : Int) < (l.length : Int) := by omega
      have hk0 : (0 : Int) ≤ (j : Int) := by omega
      have hbz := hb.size
      obtain ⟨b, off, hAe, hB, c0, c1, c2, c3⟩ := atL (OKV.below HA.out hb).2.2.2 hlt
      subst hAe
      have HSN := Lib.hid (show (l.take (j + 1)).flatMap Lin.c = (l.take j).flatMap Lin.c ++ [.int .i64 l[j].b, .int .i64 l[j].k, .int .i64 l[j].r, .string l[j].s] by rw [List.take_succ_eq_append_getElem hlt, List.flatMap_append]; simp; rfl)
      generalize l[j].b = x0 at c0 HSN
      generalize l[j].k = x1 at c1 HSN
      generalize l[j].r = x2 at c2 HSN
      generalize l[j].s = x3 at c3 HSN
      obtain ⟨w5, hw5, k5, hb5, hz5⟩ := boxS wr (.cells #[.int .i64 x0, .int .i64 x1, .int .i64 x2, .string x3] 119)
      obtain ⟨d0, d1, d2, d3, -, -, -, -⟩ := cel4 k5
      have hb5w := tw hb hb5
      have hown5 := Lib.hid (ownTo hown.out hb5)
      have hbz5 := hb5w.size
      go_wp2_with (at_builtin; refine wpList_append_own _ rfl _ _ 99 rfl w.heap.size 133 i0 (.agg #[.int .i64 0, .int .i64 0, .int .i64 0, .string ByteArray.empty]) 4 40 Tryz.underlying99 HI.out HZ0.out HZ1.out HZ2.out rfl (by decide) _ _ _ rfl (hown5.out.alloc _) ⟨w5.heap.size, 0, none⟩ 1 1 [.int .i64 x0, .int .i64 x1, .int .i64 x2, .string x3] rfl rfl (newsH _ _ _) ?c2 ?c3 ?c4 ?c5 ?_)
      case c2 => first | rfl | (intro u hu; simp at hu; rcases hu with rfl | rfl | rfl <;> rfl) | (intro u hu; simp at hu; rcases hu with rfl | rfl | rfl | rfl <;> rfl) | simp [Value.oneCell']
      case c3 => unfold maxLen; omega
      case c4 => omega
      case c5 => first | omega | (simp; omega)
      intro v' w6 hown6 hgrow6 _
      have hq6 : Below w.heap.size w w6 := (hb5w.alloc hbz5 (.cells #[.int .i64 x0, .int .i64 x1, .int .i64 x2, .string x3] 133)).grown hgrow6 (by simp; omega) (baseOf hown5.out)
      have HO6 := Lib.hid (show w6.ownsRow w.heap.size 133 4 v' (j + 1) ((l.take (j + 1)).flatMap Lin.c) by rw [HSN.out]; exact hown6)
      clear hown6 hgrow6 hown hown5
      go_wp2
      go_roundw
      case rel => exact ⟨j + 1, by omega, by go_num, HO6, hq6⟩
      case measure => simp [intOf]; omega
    · obtain rfl : j = l.length := by omega
      have hki : ¬ (l.length : Int) < (l.length : Int) := by omega
      have ho := hown.out
      rw [List.take_length] at ho
      obtain ⟨a, cv, rfl, hok⟩ := OKV.ownN Lin.c4 ho rfl
      have HOK := Lib.hid hok
      clear hok hown ho
      go_wp2
      go_ret
      exact ⟨a, cv, rfl, HOK.out, hb⟩
end Go.Proofs.YtlkeejhaodedmaaGreatDoor

/- The law HangRopes. -/
namespace Go.Proofs.YtlkeejhaodedmaaGreatDoor
open Go.RowKit

theorem tie_if (m t : Int) : tieE m t = if rngH m 1 300 = 0 then rngH t 1 m else rngH m 1 300 := by
  unfold tieE
  simp only [fstE]
  repeat' split
  all_goals first | rfl | omega | simp_all
theorem boxP {W : World} (o : Obj) : ∃ g w1, W.heap.size = g ∧ W.alloc o = w1 ∧ w1.heap[g]? = some o ∧ Below g W w1 ∧ g < w1.heap.size := ⟨_, _, rfl, rfl, newBlk _ _, (Below.refl _ _).alloc (Nat.le_refl _) _, by simp⟩
/-- A slice that reads as a list, and nothing below n has changed. -/
def RowsP {α : Type} (cd : α → List Value) (k : Nat) (L : List α) (t : Value) (X : World) : Prop := ∃ a c, t = .slice a L.length c ∧ OKV cd k X a c L
set_option maxHeartbeats 16000000 in
set_option maxRecDepth 100000 in
theorem lawRopesW (A : Option Addr) (c : Nat) (l : List Sec) (b n0 n1 E0 u v EN EM ET : Int) (L : List Rt) (TL : List Int) (w : World) (hT : Tab w) (hA : OKV Sec.c 3 w A c l)
    (h0 : fstE [secsE l, rngH b 1 100] = E0) (hte : (if rngH n0 1 300 = 0 then rngH n1 1 n0 else rngH n0 1 300) = ET)
    (HRp : ∀ A c w, OKV Sec.c 3 w A c l → l.length ≤ 33 → Calls Tryz.prog 39 #[.slice A l.length c, .int .i64 b] w fun e w' => e = .returned (.tuple #[.agg #[.int .i64 u, .int .i64 v], .int .i64 EN]) ∧ Below w.heap.size w w')
    (HMk : ∀ A c w, OKV Sec.c 3 w A c l → l.length ≤ 33 → Calls Tryz.prog 41 #[.slice A l.length c, .int .i64 b] w (ListP Rt.c 2 L EM w))
    (HTi : ∀ w, Calls Tryz.prog 42 #[.int .i64 n0, .int .i64 n1] w (ListP ic 1 TL ET w))
    (RRp : E0 = 0 → ∀ w, OKV Sec.c 3 w A c l → Calls Tryz.prog 44 #[.slice A l.length c, .int .i64 b] w fun e w' => e = .returned (.tuple #[.agg #[.int .i64 u, .int .i64 v], .int .i64 EN]) ∧ Below w.heap.size w w')
    (RMk : E0 = 0 → ∀ w, OKV Sec.c 3 w A c l → Calls Tryz.prog 45 #[.slice A l.length c, .int .i64 b] w (ListP Rt.c 2 L EM w))
    (rro : E0 ≠ 0 → u = 0 ∧ v = 0 ∧ EN = E0 ∧ EM = E0 ∧ L = [])
    (RTi : ET = 0 → ∀ w, Calls Tryz.prog 46 #[.int .i64 n0, .int .i64 n1] w (SliP ic 1 TL w)) (rti : ET ≠ 0 → TL = [])
    (hL : L.length ≤ 100000) (hTL : TL.length ≤ 100000) :
    Calls Tryz.prog 6 #[.slice A l.length c, .int .i64 b, .agg #[.int .i64 n0, .int .i64 n1]] w fun e w' => e = .returned (.bool true) ∧ Below w.heap.size w w' := by
  have H0 := Lib.hid h0
  have HTE := Lib.hid hte
  have HRR := Lib.hid RRp
  have HRM := Lib.hid RMk
  have Hrr := Lib.hid rro
  have HRT := Lib.hid RTi
  have Hrt := Lib.hid rti
  have HLL := Lib.hid hL
  have HTL := Lib.hid hTL
  have HPR := Lib.hid HRp
  have HPM := Lib.hid HMk
  clear h0 hte RRp RMk rro RTi rti hL hTL HRp HMk
  obtain ⟨w1, hw1, k5, hb1, hz1⟩ := boxS w (.cells #[.int .i64 n0, .int .i64 n1] 51)
  have HA := Lib.hid hA
  have HSH := fun w h => rfShortSections A c l w h
  clear hA
  go_enter Tryz.func6, Tryz.ntmps6
  go_wp2_with fail
  refine (HSH _ (OKV.below HA.out hb1)).mono ?_
  rintro e w2 ⟨p, rfl, hp, rfl⟩
  cases p
  · clear hp HSH HTi
    go_wp2_with fail
    refine (awake6 _ (hT.below hb1)).mono ?_
    rintro e w20 ⟨rfl, hb20⟩
    go_wp2
    go_ret
    exact ⟨rfl, tw hb1 hb20⟩
  · have hl : l.length ≤ 33 := hp rfl
    have HCV := fun w h => law_sections A c l w (by omega) h
    have HCS := fun w h => rfCheckSections A c l w (by omega) h
    have HLE := Lib.hid hl
    clear hp HSH hl
    go_wp2_with fail
    refine (HCV _ (OKV.below HA.out hb1)).mono ?_
    rintro e w3 ⟨a3, c3, rfl, h3, hb3⟩
    have H3 := Lib.hid h3
    replace k5 := blkT k5 hb3
    have B := tw hb1 hb3
    clear h3 hb1 hb3
    go_wp2_with fail
    refine (HPR.out _ _ _ H3.out HLE.out).mono ?_
    rintro e w4 ⟨rfl, hb4⟩
    obtain ⟨w5, hw5, k7, hb5, hz5⟩ := boxS w4 (.cells #[.int .i64 u, .int .i64 v] 23)
    replace k5 := blkT (blkT k5 hb4) hb5
    replace B := tw (tw B hb4) hb5
    clear hb4 hb5 H3
    go_wp2_with fail
    refine (HCV _ (OKV.below HA.out B)).mono ?_
    rintro e w6 ⟨a6, c6, rfl, h6, hb6⟩
    have H6 := Lib.hid h6
    replace k5 := blkT k5 hb6
    replace k7 := blkT k7 hb6
    replace B := tw B hb6
    clear h6 hb6
    go_wp2_with fail
    refine (HPM.out _ _ _ H6.out HLE.out).mono ?_
    rintro e w7 ⟨a9, c9, rfl, h9, hb7⟩
    have H9 := Lib.hid h9
    replace k5 := blkT k5 hb7
    replace k7 := blkT k7 hb7
    replace B := tw B hb7
    clear h9 hb7 H6
    obtain ⟨c0, c1, -, -⟩ := cel2 k5
    go_wp2_with fail
    refine (HTi _).mono ?_
    rintro e w8 ⟨a11, c11, rfl, h11, hb8⟩
    have H11 := Lib.hid h11
    replace H9 := Lib.hid (OKV.below H9.out hb8)
    replace k5 := blkT k5 hb8
    replace k7 := blkT k7 hb8
    replace B := tw B hb8
    clear h11 hb8 c0 c1 HTi
    go_wp2_with fail
    refine (HCS _ (OKV.below HA.out B)).mono ?_
    rintro e w9 ⟨rfl, hb9⟩
    go_wp2_with fail
    refine (rfCheckRange _ _ _ _).mono ?_
    rintro e w10 ⟨rfl, rfl⟩
    go_wp2_with fail
    refine (rfFirst2 _ _ _ _ 3 _ (by exact newBlk _ _)).mono ?_
    rintro e w10 ⟨rfl, rfl⟩
    rw [H0.out]
    obtain ⟨w11, hw11, hb11⟩ : ∃ w11, w9.alloc (.cells #[.int .i64 (secsE l), .int .i64 (rngH b 1 100)] 3) = w11 ∧ Below w8.heap.size w8 w11 := ⟨_, rfl, hb9.alloc hb9.size _⟩
    rw [hw11]
    replace H11 := Lib.hid (OKV.below H11.out hb11)
    replace H9 := Lib.hid (OKV.below H9.out hb11)
    replace k5 := blkT k5 hb11
    replace k7 := blkT k7 hb11
    replace B := tw B hb11
    clear hw11 hb9 hb11 HCS HCV
    obtain ⟨c0, c1, -, -⟩ := cel2 k5
    go_wp2_with fail
    refine (rfCheckRange _ _ _ _).mono ?_
    rintro e w12 ⟨rfl, rfl⟩
    obtain ⟨E8, hE8⟩ : ∃ x, rngH n0 1 300 = x := ⟨_, rfl⟩
    rw [hE8] at HTE ⊢
    clear hE8
    go_upto_if 56 with fail
    go_cut [15] (fun s X => s = .int .i64 ET ∧ w11 = X)
    case first =>
      by_cases hE : E8 = 0
      · have hq : (E8 == 0) = true := by rw [hE]; rfl
        have HE1 := Lib.hid (show ET = rngH n1 1 n0 by rw [← HTE.out, if_pos hE])
        replace hE := Lib.hid hE
        go_wp2_with fail
        refine (rfCheckRange _ _ _ _).mono ?_
        rintro e w13 ⟨rfl, rfl⟩
        go_wp2
        go_meet
        exact ⟨by rw [HE1.out], rfl⟩
      · have hq : (E8 == 0) = false := by rw [beq_eq_false_iff_ne]; exact hE
        have HE1 := Lib.hid (show ET = E8 by rw [← HTE.out, if_neg hE])
        replace hE := Lib.hid hE
        go_wp2_with fail
        go_meet
        exact ⟨by rw [HE1.out], rfl⟩
    case rest =>
      obtain ⟨rfl, rfl⟩ := hcut
      obtain ⟨g16, v1, hg16, hv1, k16, hbv1, hzv1⟩ := boxP (W := w11) (.cells #[.int .i64 0, .int .i64 0] 23)
      have z7 := blkSz k7
      have z5' := blkSz k5
      have hbv : Below w11.heap.size w11 v1 := by rw [hg16]; exact hbv1
      have H11w := H11
      have H9w := H9
      have k5w := Lib.hid k5
      have k7w := Lib.hid k7
      have Bw := Lib.hid B
      replace H11 := Lib.hid (OKV.below H11.out hbv)
      replace H9 := Lib.hid (OKV.below H9.out hbv)
      replace k5 := blkT k5 hbv
      replace k7 := blkT k7 hbv
      replace B := tw B hbv
      have HB11 := Lib.hid hbv
      clear hbv hbv1 c0 c1
      go_upto_if 63 with fail
      go_cut [13, 14, 17] (fun s t q X => s = .int .i64 EN ∧ t = .int .i64 EM ∧ RowsP Rt.c 2 L q X ∧ X.heap[g16]? = some (.cells #[.int .i64 u, .int .i64 v] 23 (0, 0)) ∧ Below g16 v1 X)
      case first =>
        by_cases hE : E0 = 0
        · have hq : (E0 == 0) = true := by rw [hE]; rfl
          replace hE := Lib.hid hE
          go_wp2_with fail
          refine (HRR.out hE.out _ (OKV.below HA.out B)).mono ?_
          rintro e x1 ⟨rfl, hx1⟩
          have k16a := blkT k16 hx1
          obtain ⟨q0, q1, q2, q3⟩ := cel2 k16a
          obtain ⟨s1, s2⟩ := set2 k16a (.int .i64 u) (.int .i64 v)
          have hB1 := (hx1.mono (Nat.le_of_lt hzv1)).grown s2 (Nat.le_of_lt (blkSz k16a)) (fun j e => by cases e; exact Nat.le_refl _)
          have hBw := (tw B hx1).grown s2 (tw B hx1).size (fun j e => by cases e; rw [← hg16]; have := HB11.out.size; have := B.size; omega)
          go_wp2_with fail
          generalize (x1.setCell ⟨g16, 0, none⟩ (.int .i64 u)).setCell ⟨g16, 1, none⟩ (.int .i64 v) = x2 at s1 hB1 hBw ⊢
          clear q0 q1 q2 q3 s2 k16a hx1
          refine (HRM.out hE.out _ (OKV.below HA.out hBw)).mono ?_
          rintro e x3 ⟨a17, c17, rfl, h17, hx3⟩
          have H17 := Lib.hid h17
          clear h17
          have hB3 := hB1.trans (hx3.mono (Nat.le_of_lt (blkSz s1)))
          have s3 := blkT s1 hx3
          go_wp2
          go_meet
          exact ⟨rfl, rfl, ⟨a17, c17, rfl, H17.out⟩, s3, hB3⟩
        · have hq : (E0 == 0) = false := by rw [beq_eq_false_iff_ne]; exact hE
          have hz := Lib.hid (Hrr.out hE)
          replace hE := Lib.hid hE
          go_wp2_with fail
          go_meet
          obtain ⟨y1, y2, y3, y4, y5⟩ := hz.out
          exact ⟨by rw [y3], by rw [y4], ⟨none, 0, by rw [y5]; rfl, by rw [y5]; exact OKV.none _ _ _⟩, by rw [y1, y2]; exact k16, Below.refl _ _⟩
      case rest =>
        obtain ⟨rfl, rfl, ⟨a17, c17, rfl, h17⟩, k16, hb⟩ := hcut
        obtain ⟨v4, rfl⟩ : ∃ V, V = wc := ⟨_, rfl⟩
        have H17 := Lib.hid h17
        have hbg : Below w11.heap.size w11 v4 := HB11.out.trans (by rw [hg16]; exact hb)
        have H11 := Lib.hid (OKV.below H11w.out hbg)
        have H9 := Lib.hid (OKV.below H9w.out hbg)
        have k5 := blkT k5w.out hbg
        have k7 := blkT k7w.out hbg
        have B := tw Bw.out hbg
        clear hbg hb h17 HRR HRM Hrr HPR HPM H11w H9w
        obtain ⟨c0, c1, -, -⟩ := cel2 k5
        go_upto_if 77 with fail
        go_cut [18] (fun s X => RowsP ic 1 TL s X ∧ Below v4.heap.size v4 X)
        case first =>
          by_cases hE : ET = 0
          · have hq : (ET == 0) = true := by rw [hE]; rfl
            replace hE := Lib.hid hE
            go_wp2_with fail
            refine (HRT.out hE.out _).mono ?_
            rintro e x1 ⟨a18, c18, rfl, h18, hx1⟩
            have H18 := Lib.hid h18
            clear h18
            go_wp2
            go_meet
            exact ⟨⟨a18, c18, rfl, H18.out⟩, hx1⟩
          · have hq : (ET == 0) = false := by rw [beq_eq_false_iff_ne]; exact hE
            have hz := Lib.hid (Hrt.out hE)
            replace hE := Lib.hid hE
            go_wp2_with fail
            go_meet
            exact ⟨⟨none, 0, by rw [hz.out]; rfl, by rw [hz.out]; exact OKV.none _ _ _⟩, Below.refl _ _⟩
        case rest =>
          obtain ⟨⟨a18, c18, rfl, h18⟩, hb⟩ := hcut
          obtain ⟨v6, rfl⟩ : ∃ V, V = wc := ⟨_, rfl⟩
          have H18 := Lib.hid h18
          replace H17 := Lib.hid (OKV.below H17.out hb)
          replace H11 := Lib.hid (OKV.below H11.out hb)
          replace H9 := Lib.hid (OKV.below H9.out hb)
          replace k7 := blkT k7 hb
          replace k16 := blkT k16 hb
          replace B := tw B hb
          clear h18 hb c0 c1 k5 HRT Hrt HTE
          obtain ⟨c0, c1, -, -⟩ := cel2 k7
          obtain ⟨c2, c3, -, -⟩ := cel2 k16
          have f1 := fun w => eqRat u v u v true (by simp) w
          have hgA := guardRat
          go_wp2_with fail
          refine (rfSameRatios a9 a17 c9 c17 L.length L.length L _ rfl rfl HLL.out H9.out.2.2.2 H17.out.2.2.2).mono ?_
          rintro e x1 ⟨rfl, hx1⟩
          replace H18 := Lib.hid (OKV.below H18.out hx1)
          replace H11 := Lib.hid (OKV.below H11.out hx1)
          replace B := tw B hx1
          clear c0 c1 c2 c3 k7 k16 hx1
          go_wp2_with fail
          refine (rfSameInts a11 a18 c11 c18 TL.length TL.length TL _ rfl rfl HTL.out H11.out.2.2.2 H18.out.2.2.2).mono ?_
          rintro e x2 ⟨rfl, hx2⟩
          replace B := tw B hx2
          go_wp2_with fail
          refine (awake6 _ (hT.below B)).mono ?_
          rintro e w20 ⟨rfl, hb20⟩
          go_wp2
          go_ret
          exact ⟨rfl, tw B hb20⟩
theorem lawHangRopes (A : Option Addr) (c : Nat) (l : List Sec) (b n0 n1 : Int) (w : World) (hT : Tab w) (hA : OKV Sec.c 3 w A c l) :
    Calls Tryz.prog 6 #[.slice A l.length c, .int .i64 b, .agg #[.int .i64 n0, .int .i64 n1]] w fun e w' => e = .returned (.bool true) ∧ Below w.heap.size w w' := by
  refine lawRopesW A c l b n0 n1 (ropE l b) _ _ (ropeE l b) (marE l b) (tieE n0 n1) (ozL (marE l b) (marL l b)) (ozL (tieE n0 n1) (tiesL n0.toNat n1.toNat n1.toNat)) w hT hA rfl (tie_if n0 n1).symm
    (fun A c w h hl => hgRope A c l b w (by omega) h) (fun A c w h hl => hgMarks A c l b w (by omega) h) (fun w => hgTies n0 n1 w) ?_ ?_ ?_ ?_ (fun h => ozLE h _) ?_ ?_
  · intro hz w h
    obtain ⟨r1, r2⟩ := fst2_zero hz
    obtain ⟨l1, l2, hv⟩ := secsE_zero r1
    have g := rngH_zero r2
    obtain ⟨B, rfl⟩ : ∃ B : Nat, b = (B : Int) := ⟨b.toNat, by omega⟩
    have hS : ropS l (B : Int) = sumW (widL B l) := by rw [ropS, Int.toNat_natCast]
    have hE : (if larB ((qn (sumW (widL B l)) 2329089562800 : Nat) : Int) ((qd (sumW (widL B l)) 2329089562800 : Nat) : Int) = true then 4 else 0) = ropeE l (B : Int) := by rw [ropeE, if_pos hz, hS]
    rw [hS]
    exact rfRopeN A c l B w l2 hv (by omega) h _ _ _ rfl rfl hE
  · intro hz w h
    obtain ⟨r1, r2⟩ := fst2_zero hz
    obtain ⟨l1, l2, hv⟩ := secsE_zero r1
    have g := rngH_zero r2
    obtain ⟨B, rfl⟩ : ∃ B : Nat, b = (B : Int) := ⟨b.toNat, by omega⟩
    have hM : marL l (B : Int) = (marksN (widL B l)).map markR := by rw [marL, Int.toNat_natCast]
    have hE : (if ((marksN (widL B l)).map markR).any larR = true then 4 else 0) = marE l (B : Int) := by rw [marE, if_pos hz, hM]
    rw [hM]
    exact rfMarksN A c l B w l2 hv (by omega) h _ hE
  · intro h
    have e1 : ropeE l b = ropE l b := by rw [ropeE, if_neg h]
    have e2 : marE l b = ropE l b := by rw [marE, if_neg h]
    rw [e1, e2]
    exact ⟨ozE h _, ozE h _, rfl, rfl, ozLE h _⟩
  · intro hz w
    have h2 := tie_if n0 n1
    rw [hz] at h2
    by_cases g : rngH n0 1 300 = 0
    · rw [if_pos g] at h2
      have g1 := rngH_zero g
      have g2 := rngH_zero h2.symm
      obtain ⟨M, rfl⟩ : ∃ M : Nat, n0 = (M : Int) := ⟨n0.toNat, by omega⟩
      obtain ⟨T, rfl⟩ : ∃ T : Nat, n1 = (T : Int) := ⟨n1.toNat, by omega⟩
      rw [hz, ozL0]
      simp only [Int.toNat_natCast]
      exact rfTies M T w (by omega) (by omega) (by omega) (by omega)
    · rw [if_neg g] at h2
      exact absurd h2.symm g
  · unfold ozL
    split
    · rename_i hz
      have hr : ropE l b = 0 := by
        rw [marE] at hz
        split at hz
        · assumption
        · exact hz
      obtain ⟨r1, r2⟩ := fst2_zero hr
      obtain ⟨l1, l2, hv⟩ := secsE_zero r1
      have hc := cntW_le b.toNat hv l.length
      rw [List.take_length] at hc
      rw [marL, List.length_map, marksN_len]
      have : l.length * 300 ≤ 32 * 300 := Nat.mul_le_mul l2 (Nat.le_refl _)
      omega
    · simp
  · unfold ozL
    split
    · rename_i hz
      have h2 := tie_if n0 n1
      rw [hz] at h2
      by_cases g : rngH n0 1 300 = 0
      · rw [if_pos g] at h2
        have g1 := rngH_zero g
        have g2 := rngH_zero h2.symm
        rw [tiesL_length]
        omega
      · rw [if_neg g] at h2
        exact absurd h2.symm g
    · simp
end Go.Proofs.YtlkeejhaodedmaaGreatDoor

/- The reference's Compare, Root and Fullest. -/
namespace Go.Proofs.YtlkeejhaodedmaaGreatDoor
open Go.RowKit

set_option maxHeartbeats 1000000 in
set_option maxRecDepth 100000 in
theorem rfCompare (a b c d : Nat) (w : World) (ha : a ≤ 4000000000000) (hb : b ≤ 810000) (hc : c ≤ 4000000000000) (hd : d ≤ 810000) :
    Calls Tryz.prog 35 #[.agg #[.int .i64 a, .int .i64 b], .agg #[.int .i64 c, .int .i64 d]] w fun e w' => e = .returned (.int .i64 (cmpH ((a : Int) * d) ((c : Int) * b))) ∧ Below w.heap.size w w' := by
  have b1 := mulB ha hd
  have b2 := mulB hc hb
  obtain ⟨b10, b11⟩ := b1
  obtain ⟨b20, b21⟩ := b2
  obtain ⟨w1, hw1, k1, hb1, hz1⟩ := boxS w (.cells #[.int .i64 a, .int .i64 b] 24)
  obtain ⟨w2, hw2, k2, hb2, hz2⟩ := boxS w1 (.cells #[.int .i64 c, .int .i64 d] 24)
  obtain ⟨c0, c1, -, -⟩ := cel2 (blkT k1 hb2)
  obtain ⟨d0, d1, -, -⟩ := cel2 k2
  unfold cmpH
  have hB := tw hb1 hb2
  have wx : IntKind.i64.wrap ((a : Int) * (d : Int)) = (a : Int) * (d : Int) := wr64 (by omega) (by omega)
  have wy : IntKind.i64.wrap ((c : Int) * (b : Int)) = (c : Int) * (b : Int) := wr64 (by omega) (by omega)
  by_cases h1 : (a : Int) * d < (c : Int) * b
  · rw [if_pos h1]
    go_enter Tryz.func35, Tryz.ntmps35
    go_wp2_with fail
    go_region
    go_wp2_with fail
    go_ret
    exact ⟨rfl, below_drew hB⟩
  · rw [if_neg h1]
    by_cases h2 : (c : Int) * b < (a : Int) * d
    · rw [if_pos h2]
      go_enter Tryz.func35, Tryz.ntmps35
      go_wp2_with fail
      go_region
      go_wp2_with fail
      go_ret
      exact ⟨rfl, below_drew hB⟩
    · rw [if_neg h2]
      go_enter Tryz.func35, Tryz.ntmps35
      go_wp2_with fail
      go_region
      go_wp2_with fail
      go_ret
      exact ⟨rfl, below_drew hB⟩
theorem tenK_pow {K : Nat} (h : K ≤ 2) : tenK (K : Int) = 10 ^ K := by
  have : K = 0 ∨ K = 1 ∨ K = 2 := by omega
  rcases this with rfl | rfl | rfl <;> rfl
theorem pow_le {j : Nat} (h : j ≤ 2) : 10 ^ j ≤ 100 := by
  have : j = 0 ∨ j = 1 ∨ j = 2 := by omega
  rcases this with rfl | rfl | rfl <;> decide
theorem pow_pos' (j : Nat) : 1 ≤ 10 ^ j := Nat.pos_of_ne_zero (by simp)
set_option maxHeartbeats 4000000 in
set_option maxRecDepth 100000 in
theorem rfRootN (a b K T r u v : Nat) (w : World) (ha : a ≤ 4000000000000) (hb0 : 1 ≤ b) (hb9 : b ≤ 810000) (hk : K ≤ 2) (hT : 10 ^ K = T) (hU : ∀ r', IsRt (a * T * T / b) r' → r' = r)
    (HR : ∀ w, Calls Tryz.prog 81 #[.int .i64 r, .int .i64 T] w fun e w' => e = .returned (.agg #[.int .i64 u, .int .i64 v]) ∧ Below w.heap.size w w') :
    Calls Tryz.prog 36 #[.agg #[.int .i64 a, .int .i64 b], .int .i64 K] w fun e w' => e = .returned (.agg #[.int .i64 u, .int .i64 v]) ∧ Below w.heap.size w w' := by
  have t1 : T ≤ 100 := by rw [← hT]; exact pow_le hk
  have m1 : a * T ≤ 4000000000000 * 100 := Nat.mul_le_mul ha t1
  have m2 : a * T * T ≤ 4000000000000 * 100 * 100 := Nat.mul_le_mul m1 t1
  have m3 : a * T * T / b ≤ 4000000000000 * 100 * 100 := Nat.le_trans (Nat.div_le_self _ _) m2
  have hn : ((a : Int) * (T : Int) * (T : Int)).tdiv (b : Int) = ((a * T * T / b : Nat) : Int) := by rw [← divN]; push_cast; rfl
  have i1 : (a : Int) * (T : Int) = ((a * T : Nat) : Int) := by push_cast; rfl
  have i2 : (a : Int) * (T : Int) * (T : Int) = ((a * T * T : Nat) : Int) := by push_cast; rfl
  have w1 : IntKind.i64.wrap ((a : Int) * (T : Int)) = (a : Int) * (T : Int) := by rw [i1]; exact wr64 (by omega) (by omega)
  have w2 : IntKind.i64.wrap ((a : Int) * (T : Int) * (T : Int)) = (a : Int) * (T : Int) * (T : Int) := by rw [i2]; exact wr64 (by omega) (by omega)
  have hN0 : 0 * 0 ≤ a * T * T / b ∧ a * T * T / b < 1000000000 * 1000000000 := ⟨Nat.zero_le _, Nat.lt_of_le_of_lt m3 (by decide)⟩
  generalize a * T * T / b = N at hU m3 hn hN0
  have HU := Lib.hid hU
  have HT := Lib.hid hT
  have hb1 : ¬ (b : Int) = 0 := by omega
  have hb2 : ((b : Int) != 0) = true := by rw [bne_iff_ne]; omega
  have w3 : IntKind.i64.wrap (N : Int) = (N : Int) := wr64 (by omega) (by omega)
  clear i1 i2 m1 m2 hU hT
  obtain ⟨w1', hw1, k1, hb1', hz1⟩ := boxS w (.cells #[.int .i64 a, .int .i64 b] 24)
  obtain ⟨w2', hw2, k2, hb2', hz2⟩ := boxS w1' (.cells #[.int .i64 0, .int .i64 0] 23)
  obtain ⟨c0, c1, -, -⟩ := cel2 (blkT k1 hb2')
  go_enter Tryz.func36, Tryz.ntmps36
  go_wp2_with fail
  go_loopg [5, 6] K (fun g t i wi => ∃ j : Nat, j ≤ K ∧ g = K - j ∧ t = .int .i64 (10 ^ j : Nat) ∧ i = .int .i64 j ∧ w2' = wi)
  case atStart => exact ⟨0, Nat.zero_le _, by omega, rfl, rfl, rfl⟩
  case round =>
    obtain ⟨j, hj, hg, rfl, rfl, rfl⟩ := hrel
    by_cases hlt : j < K
    · have p1 := pow_le (show j ≤ 2 by omega)
      have HP := Lib.hid (show 10 ^ j * 10 = 10 ^ (j + 1) from (Nat.pow_succ ..).symm)
      generalize 10 ^ j = x at p1 HP
      have hl : (j : Int) < (K : Int) := by omega
      have wx : IntKind.i64.wrap ((x : Int) * 10) = (x : Int) * 10 := wr64 (by omega) (by omega)
      go_wp2_with fail
      go_roundg (K - (j + 1))
      case measure => omega
      case rel => exact ⟨j + 1, by omega, rfl, by rw [← HP.out]; push_cast; rfl, by go_num, rfl⟩
    · obtain rfl : j = K := by omega
      rw [HT.out]
      have hl : ¬ (j : Int) < (j : Int) := by omega
      go_wp2_with fail
      go_loopg [7, 8] 1000000000 (fun g lo hi wi => ∃ x y : Nat, x < y ∧ y ≤ 1000000000 ∧ y ≤ g + x ∧ x * x ≤ N ∧ N < y * y ∧ lo = .int .i64 x ∧ hi = .int .i64 y ∧ w2' = wi)
      case atStart => exact ⟨0, 1000000000, by decide, by decide, by omega, hN0.1, hN0.2, rfl, rfl, rfl⟩
      case round =>
        obtain ⟨x, y, h1, h2, h3, h4, h5, rfl, rfl, rfl⟩ := hrel
        have wd : IntKind.i64.wrap ((y : Int) - (x : Int)) = (y : Int) - (x : Int) := wr64 (by omega) (by omega)
        by_cases hone : x + 1 = y
        · subst hone
          obtain rfl : x = r := HU.out x ⟨h4, h5⟩
          have hc : ¬ (1 : Int) < ((x + 1 : Nat) : Int) - (x : Int) := by omega
          clear h4 h5
          go_wp2_with fail
          refine (HR _).mono ?_
          rintro e w3 ⟨rfl, hb3⟩
          have k3 := blkT k2 hb3
          obtain ⟨q0, q1, q2, q3⟩ := cel2 k3
          obtain ⟨s1, s2⟩ := set2 k3 (.int .i64 u) (.int .i64 v)
          obtain ⟨t0, t1, -, -⟩ := cel2 s1
          have hbw := tw (tw hb1' hb2') hb3
          have hbf := hbw.grown s2 hbw.size (fun j e => by cases e; exact hb1'.size)
          go_wp2
          exact bodyPost_ret (v := .agg #[.int .i64 u, .int .i64 v]) (by simp [results, Tryz.results36, go_sem, t0, t1]) rfl ⟨rfl, hbf⟩
        · have hc : (1 : Int) < (y : Int) - (x : Int) := by omega
          have ws : IntKind.i64.wrap ((x : Int) + (y : Int)) = (x : Int) + (y : Int) := wr64 (by omega) (by omega)
          have hm : ((x : Int) + (y : Int)).tdiv 2 = (((x + y) / 2 : Nat) : Int) := by rw [← divN]; push_cast; rfl
          have hm1 : x < (x + y) / 2 ∧ (x + y) / 2 < y := by omega
          obtain ⟨hm2, hm3⟩ := hm1
          generalize (x + y) / 2 = m at hm hm2 hm3
          have wm : IntKind.i64.wrap (m : Int) = (m : Int) := wr64 (by omega) (by omega)
          have b1 := mulB (show m ≤ 1000000000 by omega) (show m ≤ 1000000000 by omega)
          obtain ⟨b10, b11⟩ := b1
          have wmm : IntKind.i64.wrap ((m : Int) * (m : Int)) = (m : Int) * (m : Int) := wr64 (by omega) (by omega)
          have emm : ((m * m : Nat) : Int) = (m : Int) * (m : Int) := by push_cast; rfl
          by_cases hle : m * m ≤ N
          · have hl : (m : Int) * (m : Int) ≤ (N : Int) := by omega
            have HLE := Lib.hid hle
            have H5 := Lib.hid h5
            clear hle h4 h5 emm
            go_wp2_with fail
            go_roundg (y - m)
            case measure => omega
            case rel => exact ⟨m, y, hm3, h2, by omega, HLE.out, H5.out, rfl, rfl, rfl⟩
          · have hl : ¬ (m : Int) * (m : Int) ≤ (N : Int) := by omega
            have HLE := Lib.hid (show N < m * m by omega)
            have H4 := Lib.hid h4
            clear hle h4 h5 emm
            go_wp2_with fail
            go_roundg (m - x)
            case measure => omega
            case rel => exact ⟨x, m, hm2, by omega, by omega, H4.out, HLE.out, rfl, rfl, rfl⟩
theorem rfRoot (a b : Nat) (k : Int) (w : World) (ha : a ≤ 4000000000000) (hb0 : 1 ≤ b) (hb9 : b ≤ 810000) (hk0 : 0 ≤ k) (hk : k ≤ 2) :
    Calls Tryz.prog 36 #[.agg #[.int .i64 a, .int .i64 b], .int .i64 k] w fun e w' => e = .returned (.agg #[.int .i64 (qn (rtQ a b k) (tenK k) : Nat), .int .i64 (qd (rtQ a b k) (tenK k) : Nat)]) ∧ Below w.heap.size w w' := by
  obtain ⟨K, rfl⟩ : ∃ K : Nat, k = (K : Int) := ⟨k.toNat, by omega⟩
  have hK : K ≤ 2 := by omega
  have t1 := pow_le hK
  have t2 := pow_pos' K
  unfold rtQ
  rw [tenK_pow hK]
  simp only [Int.toNat_natCast]
  have m1 : a * 10 ^ K ≤ 4000000000000 * 100 := Nat.mul_le_mul ha t1
  have m2 : a * 10 ^ K * 10 ^ K ≤ 4000000000000 * 100 * 100 := Nat.mul_le_mul m1 t1
  have m3 : a * 10 ^ K * 10 ^ K / b ≤ 4000000000000 * 100 * 100 := Nat.le_trans (Nat.div_le_self _ _) m2
  have hrl : isq (a * 10 ^ K * 10 ^ K / b) ≤ 1000000000 := isq_le_of (Nat.lt_of_le_of_lt m3 (by decide))
  exact rfRootN a b K _ _ _ _ w ha hb0 hb9 hK rfl (fun r' h => (isq_eq h).symm) (fun w => rfRatio _ _ w (by omega) (by omega) (by omega))
end Go.Proofs.YtlkeejhaodedmaaGreatDoor

/- Roots and decimals: plain mathematics. -/
namespace Go.Proofs.YtlkeejhaodedmaaGreatDoor
open Go.RowKit

theorem IsRt.mono {n m r s : Nat} (h : IsRt n r) (k : IsRt m s) (hn : n ≤ m) : r ≤ s := by
  rcases Nat.lt_or_ge s r with h' | h'
  · have := Nat.mul_le_mul (show s + 1 ≤ r by omega) (show s + 1 ≤ r by omega)
    have := h.1
    have := k.2
    omega
  · exact h'
theorem IsRt.ten {n m r s : Nat} (h : IsRt n r) (k : IsRt m s) (h1 : 100 * n ≤ m) (h2 : m < 100 * (n + 1)) : 10 * r ≤ s ∧ s < 10 * (r + 1) := by
  obtain ⟨a1, a2⟩ := h
  obtain ⟨b1, b2⟩ := k
  constructor
  · rcases Nat.lt_or_ge s (10 * r) with h' | h'
    · have := Nat.mul_le_mul (show s + 1 ≤ 10 * r by omega) (show s + 1 ≤ 10 * r by omega)
      have e : 10 * r * (10 * r) = 100 * (r * r) := by grind
      omega
    · exact h'
  · rcases Nat.lt_or_ge s (10 * (r + 1)) with h' | h'
    · exact h'
    · have := Nat.mul_le_mul h' h'
      have e : 10 * (r + 1) * (10 * (r + 1)) = 100 * ((r + 1) * (r + 1)) := by grind
      omega
theorem dec_step {a b : Nat} (t : Nat) (hb : 0 < b) : 100 * (a * t * t / b) ≤ a * (t * 10) * (t * 10) / b ∧ a * (t * 10) * (t * 10) / b < 100 * (a * t * t / b + 1) := by
  have e : a * (t * 10) * (t * 10) = 100 * (a * t * t) := by grind
  rw [e]
  generalize a * t * t = x
  constructor
  · rw [Nat.le_div_iff_mul_le hb, Nat.mul_assoc]
    exact Nat.mul_le_mul (Nat.le_refl _) (Nat.div_mul_le_self _ _)
  · rw [Nat.div_lt_iff_lt_mul hb, Nat.mul_assoc]
    refine Nat.mul_lt_mul_of_pos_left ?_ (by decide)
    have e1 := Nat.div_add_mod x b
    have := Nat.mod_lt x hb
    rw [Nat.mul_comm] at e1
    rw [Nat.add_mul]
    omega
theorem cross_le {a b c d : Nat} (t : Nat) (hb : 0 < b) (hd : 0 < d) (h : a * d ≤ c * b) : a * t * t / b ≤ c * t * t / d := by
  rw [Nat.le_div_iff_mul_le hd]
  have h1 : a * t * t / b * d * b ≤ c * t * t * b := by
    have h2 := Nat.div_mul_le_self (a * t * t) b
    have h3 : a * t * t / b * d * b = a * t * t / b * b * d := by grind
    have h4 : a * t * t * d ≤ c * t * t * b := by
      have e1 : a * t * t * d = a * d * (t * t) := by grind
      have e2 : c * t * t * b = c * b * (t * t) := by grind
      rw [e1, e2]
      exact Nat.mul_le_mul h (Nat.le_refl _)
    rw [h3]
    exact Nat.le_trans (Nat.mul_le_mul h2 (Nat.le_refl _)) h4
  exact Nat.le_of_mul_le_mul_right h1 hb
theorem qd_all {a b : Nat} (h : 0 < b) : b % qd a b = 0 ∧ 0 < qd a b ∧ qn a b * (b / qd a b) = a ∧ (qn a b).gcd (qd a b) = 1 ∧ qn a b ≤ a ∧ qd a b ≤ b ∧ b / qd a b ≤ b := by
  have hg : 0 < a.gcd b := Nat.gcd_pos_of_pos_right _ h
  obtain ⟨x, hx⟩ := Nat.gcd_dvd_left a b
  obtain ⟨y, hy⟩ := Nat.gcd_dvd_right a b
  have e1 : qn a b = x := by unfold qn; rw [Nat.div_eq_iff_eq_mul_right hg (Nat.gcd_dvd_left a b)]; exact hx
  have e2 : qd a b = y := by unfold qd; rw [Nat.div_eq_iff_eq_mul_right hg (Nat.gcd_dvd_right a b)]; exact hy
  have hy0 : 0 < y := by
    rcases Nat.eq_zero_or_pos y with h0 | h0
    · rw [h0, Nat.mul_zero] at hy; omega
    · exact h0
  have e3 : b / y = a.gcd b := by rw [Nat.div_eq_iff_eq_mul_left hy0 ⟨_, by rw [Nat.mul_comm]; exact hy⟩]; exact hy
  refine ⟨?_, by rw [e2]; exact hy0, ?_, ?_, by unfold qn; exact Nat.div_le_self _ _, by unfold qd; exact Nat.div_le_self _ _, Nat.div_le_self _ _⟩
  · rw [e2]; exact Nat.mod_eq_zero_of_dvd ⟨_, by rw [Nat.mul_comm]; exact hy⟩
  · rw [e1, e2, e3, Nat.mul_comm]; exact hx.symm
  · unfold qn qd; exact Nat.gcd_div_gcd_div_gcd_of_pos_right h
end Go.Proofs.YtlkeejhaodedmaaGreatDoor

/- Sums of widths: what the law HangJoins asks, plain mathematics; its sane and adds. -/
namespace Go.Proofs.YtlkeejhaodedmaaGreatDoor
open Go.RowKit

theorem marks_at (b : Nat) (l : List Sec) {i : Nat} (h : i < l.length) {M W : Nat} (e : widE b l[i] = (M, W)) {k : Nat} (hk : k ≤ M) : (marksN (widL b l))[cntW (widL b (l.take i)) + k]? = some (sumW (widL b (l.take i)) + k * W) := by
  have e1 : widL b l = widL b (l.take (i + 1)) ++ widL b (l.drop (i + 1)) := by unfold widL; rw [← List.map_append, List.take_append_drop]
  have e2 : marksN (widL b (l.take (i + 1))) = marksN (widL b (l.take i)) ++ (List.range M).map fun j => sumW (widL b (l.take i)) + (j + 1) * W := by
    rw [widL_succ b l h, marksN_snoc, e]
  have hl1 := marksN_len (widL b (l.take i))
  have hlast := marksN_last (widL b (l.take i))
  rw [e1, marksN_app, e2]
  generalize numsL (sumW (widL b (l.take (i + 1)))) (widL b (l.drop (i + 1))) = R
  generalize marksN (widL b (l.take i)) = A at hl1 hlast ⊢
  generalize sumW (widL b (l.take i)) = S at hlast ⊢
  generalize cntW (widL b (l.take i)) = c at hl1 hlast ⊢
  rw [List.append_assoc]
  rcases Nat.eq_zero_or_pos k with h0 | h0
  · subst h0
    rw [Nat.add_zero, List.getElem?_append_left (by omega), hlast, Nat.zero_mul, Nat.add_zero]
  · rw [List.getElem?_append_right (by omega), hl1, List.getElem?_append_left (by rw [List.length_map, List.length_range]; omega), List.getElem?_map, List.getElem?_range (by omega)]
    have : c + k - (c + 1) + 1 = k := by omega
    simp only [Option.map_some]
    rw [this]
def whole : Nat := 2329089562800
theorem whole_dvd : ∀ d : Fin 30, 2329089562800 % (d.val + 1) = 0 := by decide +kernel
theorem whole_mul {d : Nat} (h1 : 1 ≤ d) (h2 : d ≤ 30) : d * (2329089562800 / d) = 2329089562800 := by
  have h := whole_dvd ⟨d - 1, by omega⟩
  simp only [show d - 1 + 1 = d by omega] at h
  have := Nat.div_add_mod 2329089562800 d
  omega
theorem dvd_mul_div {a b c : Nat} (h1 : a % b = 0) (h2 : b % c = 0) (hb : 0 < b) (hc : 0 < c) : a / c = a / b * (b / c) := by
  obtain ⟨x, rfl⟩ := Nat.dvd_of_mod_eq_zero h1
  obtain ⟨y, rfl⟩ := Nat.dvd_of_mod_eq_zero h2
  rw [Nat.mul_div_cancel_left _ hc, Nat.mul_div_cancel_left _ hb, Nat.mul_assoc, Nat.mul_div_cancel_left _ hc, Nat.mul_comm]
/-- The parts of a sum of widths. -/
structure Prt (N n d : Nat) : Prop where
  h1 : 2329089562800 % d = 0
  h2 : 0 < d
  h3 : n * (2329089562800 / d) = N
  h4 : n ≤ 2000000 * d
  h5 : d ≤ 2329089562800
theorem prt_mark {N : Nat} (h : N ≤ 4500000000000000000) : Prt N (qn N 2329089562800) (qd N 2329089562800) := by
  obtain ⟨a1, a2, a3, a4, a5, a6, a7⟩ := qd_all (a := N) (b := 2329089562800) (by decide)
  refine ⟨a1, a2, a3, ?_, a6⟩
  unfold qn qd
  have hg : 0 < N.gcd 2329089562800 := Nat.gcd_pos_of_pos_right _ (by decide)
  obtain ⟨y, hy⟩ := Nat.gcd_dvd_right N 2329089562800
  have e : 2329089562800 / N.gcd 2329089562800 = y := by rw [Nat.div_eq_iff_eq_mul_right hg (Nat.gcd_dvd_right _ _)]; exact hy
  rw [e]
  refine Nat.le_of_lt_succ ((Nat.div_lt_iff_lt_mul hg).2 ?_)
  have : (2000000 * y).succ * N.gcd 2329089562800 = 2000000 * (N.gcd 2329089562800 * y) + N.gcd 2329089562800 := by grind
  rw [this, ← hy]
  omega
theorem prt_width {B P D : Nat} (hB : B ≤ 100) (hP : P ≤ D) (h1 : 1 ≤ D) (h2 : D ≤ 30) (M : Nat) (hM : M ≤ 300) : Prt (M * (2 * B * 1 * P * (2329089562800 / D))) (qn (2 * B * M * P) D) (qd (2 * B * M * P) D) := by
  obtain ⟨a1, a2, a3, a4, a5, a6, a7⟩ := qd_all (a := 2 * B * M * P) (b := D) (by omega)
  have hw := whole_mul h1 h2
  have hd : 2329089562800 % D = 0 := by rw [← hw]; exact Nat.mul_mod_right _ _
  obtain ⟨x, hx⟩ := Nat.dvd_of_mod_eq_zero a1
  refine ⟨?_, a2, ?_, ?_, by omega⟩
  · refine Nat.mod_eq_zero_of_dvd (Nat.dvd_trans ⟨x, hx⟩ (Nat.dvd_of_mod_eq_zero hd))
  · rw [dvd_mul_div hd a1 (by omega) a2]
    generalize 2329089562800 / D = q at *
    have : qn (2 * B * M * P) D * (q * (D / qd (2 * B * M * P) D)) = qn (2 * B * M * P) D * (D / qd (2 * B * M * P) D) * q := by grind
    rw [this, a3]
    grind
  · have h3 : 2 * B * M * P ≤ 2 * 100 * 300 * 30 := Nat.mul_le_mul (Nat.mul_le_mul (Nat.mul_le_mul (Nat.le_refl 2) hB) hM) (by omega)
    omega
theorem one_rope {B P D M : Nat} (h1 : 1 ≤ D) (h2 : D ≤ 30) : qn (M * (2 * B * 1 * P * (2329089562800 / D))) 2329089562800 = qn (2 * B * M * P) D ∧ qd (M * (2 * B * 1 * P * (2329089562800 / D))) 2329089562800 = qd (2 * B * M * P) D := by
  have hw := whole_mul h1 h2
  have hq : 0 < 2329089562800 / D := by
    rcases Nat.eq_zero_or_pos (2329089562800 / D) with h | h
    · rw [h] at hw; omega
    · exact h
  generalize 2329089562800 / D = q at hw hq ⊢
  have e : M * (2 * B * 1 * P * q) = 2 * B * M * P * q := by grind
  rw [e, ← hw]
  unfold qn qd
  rw [Nat.gcd_mul_right, Nat.mul_div_mul_right _ _ hq, Nat.mul_div_mul_right _ _ hq]
  exact ⟨rfl, rfl⟩
set_option maxHeartbeats 1000000 in
set_option maxRecDepth 100000 in
theorem lawSane (n d : Nat) (w : World) (h1 : n ≤ 999999999) (h2 : 0 < d) (h3 : d ≤ 999999999) :
    Calls Tryz.prog 67 #[.agg #[.int .i64 n, .int .i64 d]] w fun e w' => e = .returned (.bool true) ∧ Below w.heap.size w w' := by
  obtain ⟨w1, hw1, k1, hb1, hz1⟩ := boxS w (.cells #[.int .i64 n, .int .i64 d] 23)
  obtain ⟨c0, c1, -, -⟩ := cel2 k1
  have a1 : (0 : Int) ≤ (n : Int) := by omega
  have a2 : (n : Int) ≤ 999999999 := by omega
  have a3 : (0 : Int) < (d : Int) := by omega
  have a4 : (d : Int) ≤ 999999999 := by omega
  go_enter Tryz.func67, Tryz.ntmps67
  go_wp2_with fail
  go_ret
  exact ⟨rfl, hb1⟩
set_option maxHeartbeats 2000000 in
set_option maxRecDepth 100000 in
theorem lawAdds (n d n' d' n2 d2 N N' : Nat) (w : World) (p : Prt N n d) (p' : Prt N' n' d') (p2 : Prt (N + N') n2 d2) (hN : N + N' ≤ 4500000000000000000) :
    Calls Tryz.prog 68 #[.agg #[.int .i64 n, .int .i64 d], .agg #[.int .i64 n', .int .i64 d'], .agg #[.int .i64 n2, .int .i64 d2]] w fun e w' => e = .returned (.bool true) ∧ Below w.heap.size w w' := by
  obtain ⟨a1, a2, a3, a4, a5⟩ := p
  obtain ⟨b1, b2, b3, b4, b5⟩ := p'
  obtain ⟨c1, c2, c3, c4, c5⟩ := p2
  have m1 : (2329089562800 : Int).tmod (d : Int) = 0 := by rw [show (2329089562800 : Int) = ((2329089562800 : Nat) : Int) from rfl, modN, a1]; rfl
  have m2 : (2329089562800 : Int).tmod (d' : Int) = 0 := by rw [show (2329089562800 : Int) = ((2329089562800 : Nat) : Int) from rfl, modN, b1]; rfl
  have m3 : (2329089562800 : Int).tmod (d2 : Int) = 0 := by rw [show (2329089562800 : Int) = ((2329089562800 : Nat) : Int) from rfl, modN, c1]; rfl
  have q1 : (2329089562800 : Int).tdiv (d : Int) = ((2329089562800 / d : Nat) : Int) := divN _ _
  have q2 : (2329089562800 : Int).tdiv (d' : Int) = ((2329089562800 / d' : Nat) : Int) := divN _ _
  have q3 : (2329089562800 : Int).tdiv (d2 : Int) = ((2329089562800 / d2 : Nat) : Int) := divN _ _
  have x1 : 2329089562800 / d ≤ 2329089562800 := Nat.div_le_self _ _
  have x2 : 2329089562800 / d' ≤ 2329089562800 := Nat.div_le_self _ _
  have x3 : 2329089562800 / d2 ≤ 2329089562800 := Nat.div_le_self _ _
  have e1 : (n : Int) * ((2329089562800 / d : Nat) : Int) = (N : Int) := by rw [← Int.natCast_mul, a3]
  have e2 : (n' : Int) * ((2329089562800 / d' : Nat) : Int) = (N' : Int) := by rw [← Int.natCast_mul, b3]
  have e3 : (n2 : Int) * ((2329089562800 / d2 : Nat) : Int) = (N : Int) + (N' : Int) := by
    rw [← Int.natCast_mul, c3, Int.natCast_add]
  clear a1 b1 c1 a3 b3 c3
  generalize 2329089562800 / d = y1 at q1 x1 e1
  generalize 2329089562800 / d' = y2 at q2 x2 e2
  generalize 2329089562800 / d2 = y3 at q3 x3 e3
  have v1 : IntKind.i64.wrap (y1 : Int) = (y1 : Int) := wr64 (by omega) (by omega)
  have v2 : IntKind.i64.wrap (y2 : Int) = (y2 : Int) := wr64 (by omega) (by omega)
  have v3 : IntKind.i64.wrap (y3 : Int) = (y3 : Int) := wr64 (by omega) (by omega)
  have v4 : IntKind.i64.wrap (N : Int) = (N : Int) := wr64 (by omega) (by omega)
  have v5 : IntKind.i64.wrap (N' : Int) = (N' : Int) := wr64 (by omega) (by omega)
  have v6 : IntKind.i64.wrap ((N : Int) + (N' : Int)) = (N : Int) + (N' : Int) := wr64 (by omega) (by omega)
  have v7 : IntKind.i64.wrap (2000000 * (d : Int)) = 2000000 * (d : Int) := wr64 (by omega) (by omega)
  have v8 : IntKind.i64.wrap (2000000 * (d' : Int)) = 2000000 * (d' : Int) := wr64 (by omega) (by omega)
  have v9 : IntKind.i64.wrap (2000000 * (d2 : Int)) = 2000000 * (d2 : Int) := wr64 (by omega) (by omega)
  have r1 : ¬ 2000000 * (d : Int) < (n : Int) := by omega
  have r2 : ¬ 2000000 * (d' : Int) < (n' : Int) := by omega
  have r3 : ¬ 2000000 * (d2 : Int) < (n2 : Int) := by omega
  have s1 : ¬ (d : Int) = 0 := by omega
  have s2 : ¬ (d' : Int) = 0 := by omega
  have s3 : ¬ (d2 : Int) = 0 := by omega
  have s4 : ((d : Int) != 0) = true := by rw [bne_iff_ne]; exact s1
  have s5 : ((d' : Int) != 0) = true := by rw [bne_iff_ne]; exact s2
  have s6 : ((d2 : Int) != 0) = true := by rw [bne_iff_ne]; exact s3
  obtain ⟨w1, hw1, k1, hb1, hz1⟩ := boxS w (.cells #[.int .i64 n, .int .i64 d] 23)
  obtain ⟨w2, hw2, k2, hb2, hz2⟩ := boxS w1 (.cells #[.int .i64 n', .int .i64 d'] 23)
  obtain ⟨w3, hw3, k3, hb3, hz3⟩ := boxS w2 (.cells #[.int .i64 n2, .int .i64 d2] 23)
  obtain ⟨g0, g1, -, -⟩ := cel2 (blkT (blkT k1 hb2) hb3)
  obtain ⟨g2, g3, -, -⟩ := cel2 (blkT k2 hb3)
  obtain ⟨g4, g5, -, -⟩ := cel2 k3
  have B := tw (tw hb1 hb2) hb3
  clear a4 b4 c4 hN
  go_enter Tryz.func68, Tryz.ntmps68
  go_wp2_with fail
  go_quiet (fail)
  go_wp2_with fail
  go_ret
  exact ⟨rfl, below_drewN B _⟩
end Go.Proofs.YtlkeejhaodedmaaGreatDoor

/- The law HangJoins: what it reads and calls. -/
namespace Go.Proofs.YtlkeejhaodedmaaGreatDoor
open Go.RowKit

theorem okv_take {α : Type} {enc : α → List Value} {k : Nat} {w : World} {A : Option Addr} {c : Nat} {l : List α} (h : OKV enc k w A c l) (n : Nat) : OKV enc k w A c (l.take n) :=
  ⟨Nat.le_trans (by rw [List.length_take]; omega) h.1, h.2.1, h.2.2.1, h.2.2.2.take n⟩
theorem okv_drop {α : Type} {enc : α → List Value} {k : Nat} {w : World} {b off : Nat} {c : Nat} {l : List α} (h : OKV enc k w (some ⟨b, off, none⟩) c l) (n : Nat) (hn : n ≤ l.length) : OKV enc k w (some ⟨b, off + n * k, none⟩) (c - n) (l.drop n) := by
  refine ⟨?_, ?_, (fun h => by cases h), fun hp => ?_⟩
  · have := h.1
    rw [List.length_drop]
    omega
  · have := h.2.1
    omega
  · rw [List.length_drop] at hp
    obtain ⟨b', off', e, hB, hc⟩ := h.2.2.2 (by omega)
    injection e with e
    injection e with e1 e2
    subst e1 e2
    refine ⟨b, off + n * k, rfl, hB, fun i hi j u hu => ?_⟩
    rw [List.length_drop] at hi
    rw [List.getElem_drop] at hu
    have h2 := hc (n + i) (by omega) j u hu
    rw [Nat.add_mul] at h2
    rw [show off + n * k + i * k + j = off + (n * k + i * k) + j by omega]
    exact h2
theorem widthN (P D B M : Nat) (w : World) (h1 : 1 ≤ P) (h2 : P ≤ D) (h3 : D ≤ 30) (hg : P.gcd D = 1) (hB1 : 1 ≤ B) (hB : B ≤ 100) (hM1 : 1 ≤ M) (hM : M ≤ 300) :
    Calls Tryz.prog 24 #[.agg #[.int .i64 P, .int .i64 D], .int .i64 B, .int .i64 M] w fun e w' => e = .returned (.tuple #[.agg #[.int .i64 (qn (2 * B * M * P) D : Nat), .int .i64 (qd (2 * B * M * P) D : Nat)], .int .i64 0]) ∧ Below w.heap.size w w' := by
  have h := hgWidth (P : Int) (D : Int) (B : Int) (M : Int) w
  have e0 : hunH (P : Int) (D : Int) (B : Int) (M : Int) = 0 := by
    unfold hunH ratH
    simp only [fstE, rngH, Int.toNat_natCast, hg]
    repeat' split
    all_goals first | rfl | omega | simp_all
  rw [e0] at h
  simp only [oz0, Int.toNat_natCast] at h
  exact h
theorem marL_len (l : List Sec) (b : Int) : (marL l b).length = totM l + 1 := by
  rw [marL, List.length_map, marksN_len, cntW_wid]
/-- What a rope that has no error is. -/
structure Jn (l : List Sec) (B : Nat) : Prop where
  ok : SecOk l
  n1 : 1 ≤ l.length
  n2 : l.length ≤ 32
  b1 : 1 ≤ B
  b2 : B ≤ 100
  small : ∀ x ∈ marL l (B : Int), larR x = false
theorem jn_of {l : List Sec} {b : Int} (h1 : secsE l = 0) (h2 : rngH b 1 100 = 0) (h3 : marE l b = 0) : ∃ B : Nat, b = (B : Int) ∧ Jn l B := by
  obtain ⟨l1, l2, hv⟩ := secsE_zero h1
  have g := rngH_zero h2
  refine ⟨b.toNat, by omega, hv, l1, l2, by omega, by omega, ?_⟩
  rw [Int.toNat_of_nonneg (by omega)]
  have hz : ropE l b = 0 := by unfold ropE; rw [h1, h2]; rfl
  rw [marE, if_pos hz] at h3
  intro x hx
  cases hq : larR x with
  | false => rfl
  | true =>
    rw [if_pos (List.any_eq_true.2 ⟨x, hx, hq⟩)] at h3
    cases h3
theorem ropE_of {l : List Sec} {B : Nat} (h : Jn l B) {m : List Sec} (hm : SecOk m) (h1 : 1 ≤ m.length) (h2 : m.length ≤ 32) : ropE m (B : Int) = 0 := by
  have hs : secsE m = 0 := by
    unfold secsE
    rw [if_neg (by omega), if_neg (by omega)]
    have key : ∀ (r bf : List Sec), (∀ s ∈ r, secE s = 0) → lstE (fun _ s => secE s) bf r = 0 := by
      intro r
      induction r with
      | nil => intro bf _; rfl
      | cons x r ih => intro bf hx; rw [lstE, if_pos (hx x (by simp))]; exact ih _ fun s hs => hx s (by simp [hs])
    refine key m [] fun s hs => ?_
    obtain ⟨i, hi, rfl⟩ := List.getElem_of_mem hs
    obtain ⟨M, P, D, e1, e2, e3, v1, v2, v3, v4, v5, v6⟩ := hm i hi
    unfold secE ratH
    rw [e1, e2, e3]
    simp only [fstE, rngH, Int.toNat_natCast, v6]
    repeat' split
    all_goals first | rfl | omega | simp_all
  have hr : rngH (B : Int) 1 100 = 0 := by
    have := h.b1
    have := h.b2
    unfold rngH
    split
    · omega
    · rfl
  unfold ropE
  rw [hs, hr]
  rfl
theorem small_sum {l : List Sec} {B : Nat} (h : Jn l B) {i k M W : Nat} (hi : i < l.length) (e : widE B l[i] = (M, W)) (hk : k ≤ M) : larR (markR (sumW (widL B (l.take i)) + k * W)) = false := by
  refine h.small _ ?_
  rw [marL, Int.toNat_natCast]
  exact List.mem_map.2 ⟨_, List.mem_of_getElem? (marks_at B l hi e hk), rfl⟩
theorem secOk_drop {l : List Sec} (h : SecOk l) (k : Nat) : SecOk (l.drop k) := fun i hi => by
  rw [List.getElem_drop]
  exact h (k + i) (by rw [List.length_drop] at hi; omega)
/-- A part from the beginning has no error. -/
theorem marE_take {l : List Sec} {B : Nat} (h : Jn l B) {k : Nat} (h1 : 1 ≤ k) (h2 : k ≤ l.length) : marE (l.take k) (B : Int) = 0 ∧ marL (l.take k) (B : Int) = (marL l (B : Int)).take (totM (l.take k) + 1) := by
  have hz := ropE_of h (secOk_take h.ok k) (by rw [List.length_take]; omega) (by rw [List.length_take]; have := h.n2; omega)
  have e1 : widL B l = widL B (l.take k) ++ widL B (l.drop k) := by unfold widL; rw [← List.map_append, List.take_append_drop]
  have hL : marL (l.take k) (B : Int) = (marL l (B : Int)).take (totM (l.take k) + 1) := by
    rw [marL, marL, Int.toNat_natCast, e1, marksN_app, List.map_append]
    exact (List.take_left' (by rw [List.length_map, marksN_len, cntW_wid])).symm
  refine ⟨?_, hL⟩
  rw [marE, if_pos hz, if_neg]
  intro hany
  obtain ⟨x, hx, hq⟩ := List.any_eq_true.1 hany
  rw [hL] at hx
  rw [h.small x (List.mem_of_mem_take hx)] at hq
  cases hq
theorem ropeE_jn {l : List Sec} {B : Nat} (h : Jn l B) : ropeE l (B : Int) = 0 := by
  have hz := ropE_of h h.ok h.n1 h.n2
  rw [ropeE, if_pos hz, if_neg]
  intro hl
  have hm := marksN_last (widL B l)
  have h2 := h.small (markR (sumW (widL B l))) (by rw [marL, Int.toNat_natCast]; exact List.mem_map.2 ⟨_, List.mem_of_getElem? hm, rfl⟩)
  rw [ropS, Int.toNat_natCast] at hl
  rw [larR, markR] at h2
  rw [hl] at h2
  cases h2
end Go.Proofs.YtlkeejhaodedmaaGreatDoor

/- The law HangJoins. -/
namespace Go.Proofs.YtlkeejhaodedmaaGreatDoor
open Go.RowKit

theorem keepJ {W w1 w2 : World} {b o o' b' : Nat} {x0 x1 x2 x3 x4 x5 : Value} (zb : b < W.heap.size) (zb' : b' < W.heap.size)
    (k : w1.cell? ⟨b, o, none⟩ = some x0 ∧ w1.cell? ⟨b, o + 1, none⟩ = some x1 ∧ w1.cell? ⟨b, o', none⟩ = some x2 ∧ w1.cell? ⟨b, o' + 1, none⟩ = some x3 ∧ w1.cell? ⟨b', 0, none⟩ = some x4 ∧ w1.cell? ⟨b', 1, none⟩ = some x5 ∧ Below W.heap.size W w1) (hb : Below w1.heap.size w1 w2) :
    w2.cell? ⟨b, o, none⟩ = some x0 ∧ w2.cell? ⟨b, o + 1, none⟩ = some x1 ∧ w2.cell? ⟨b, o', none⟩ = some x2 ∧ w2.cell? ⟨b, o' + 1, none⟩ = some x3 ∧ w2.cell? ⟨b', 0, none⟩ = some x4 ∧ w2.cell? ⟨b', 1, none⟩ = some x5 ∧ Below W.heap.size W w2 := by
  obtain ⟨a0, a1, a2, a3, a4, a5, c⟩ := k
  have := c.size
  exact ⟨(hb.cell (p := ⟨b, _, none⟩) (by show b < _; omega)).trans a0, (hb.cell (p := ⟨b, _, none⟩) (by show b < _; omega)).trans a1, (hb.cell (p := ⟨b, _, none⟩) (by show b < _; omega)).trans a2, (hb.cell (p := ⟨b, _, none⟩) (by show b < _; omega)).trans a3, (hb.cell (p := ⟨b', _, none⟩) (by show b' < _; omega)).trans a4, (hb.cell (p := ⟨b', _, none⟩) (by show b' < _; omega)).trans a5, tw c hb⟩
theorem keepW {W w1 w2 : World} {b o b' b'' : Nat} {x0 x1 x2 x3 x4 x5 : Value} (zb : b < W.heap.size) (zb' : b' < W.heap.size) (zb'' : b'' < W.heap.size)
    (k : w1.cell? ⟨b, o, none⟩ = some x0 ∧ w1.cell? ⟨b, o + 1, none⟩ = some x1 ∧ w1.cell? ⟨b', 0, none⟩ = some x2 ∧ w1.cell? ⟨b', 1, none⟩ = some x3 ∧ w1.cell? ⟨b'', 0, none⟩ = some x4 ∧ w1.cell? ⟨b'', 1, none⟩ = some x5 ∧ Below W.heap.size W w1) (hb : Below w1.heap.size w1 w2) :
    w2.cell? ⟨b, o, none⟩ = some x0 ∧ w2.cell? ⟨b, o + 1, none⟩ = some x1 ∧ w2.cell? ⟨b', 0, none⟩ = some x2 ∧ w2.cell? ⟨b', 1, none⟩ = some x3 ∧ w2.cell? ⟨b'', 0, none⟩ = some x4 ∧ w2.cell? ⟨b'', 1, none⟩ = some x5 ∧ Below W.heap.size W w2 := by
  obtain ⟨a0, a1, a2, a3, a4, a5, c⟩ := k
  have := c.size
  exact ⟨(hb.cell (p := ⟨b, _, none⟩) (by show b < _; omega)).trans a0, (hb.cell (p := ⟨b, _, none⟩) (by show b < _; omega)).trans a1, (hb.cell (p := ⟨b', _, none⟩) (by show b' < _; omega)).trans a2, (hb.cell (p := ⟨b', _, none⟩) (by show b' < _; omega)).trans a3, (hb.cell (p := ⟨b'', _, none⟩) (by show b'' < _; omega)).trans a4, (hb.cell (p := ⟨b'', _, none⟩) (by show b'' < _; omega)).trans a5, tw c hb⟩
theorem rat_small {n d : Nat} (h : larR ⟨(n : Int), (d : Int)⟩ = false) : n ≤ 999999999 ∧ d ≤ 999999999 := by
  unfold larR larB at h
  have h2 := of_decide_eq_false h
  simp only at h2
  omega
set_option maxHeartbeats 16000000 in
set_option maxRecDepth 100000 in
theorem lawJoinsN (A : Option Addr) (c : Nat) (l : List Sec) (B K : Nat) (w : World) (hT : Tab w) (hA : OKV Sec.c 3 w A c l) (hJ : Jn l B) (hK : K < 256) :
    Calls Tryz.prog 11 #[.slice A l.length c, .int .i64 B, .int .u8 K] w fun e w' => e = .returned (.bool true) ∧ Below w.heap.size w w' := by
  have HA := Lib.hid hA
  have HJ := Lib.hid hJ
  have HSH := fun w h => rfShortSections A c l w h
  have hn1 := hJ.n1
  have hn2 := hJ.n2
  have hB1 := hJ.b1
  have hB2 := hJ.b2
  have HCV := fun w h => law_sections A c l w (by omega) h
  have HCS := fun w h => rfCheckSections A c l w (by omega) h
  have hz : secsE l = 0 := (fst2_zero (ropE_of hJ hJ.ok hJ.n1 hJ.n2)).1
  have hr : rngH (B : Int) 1 100 = 0 := (fst2_zero (ropE_of hJ hJ.ok hJ.n1 hJ.n2)).2
  rw [hz] at HCS
  have HRB := Lib.hid hr
  have HM := fun A c w h => hgMarks A c l (B : Int) w (by omega) h
  have hmE : marE l (B : Int) = 0 := by
    have h := (marE_take hJ hn1 (Nat.le_refl _)).1
    rw [List.take_length] at h
    exact h
  rw [hmE, ozL0] at HM
  have HR := fun A c w h => hgRope A c l (B : Int) w (by omega) h
  rw [ropeE_jn hJ, oz0, oz0, ropS, Int.toNat_natCast] at HR
  have hlen := marL_len l (B : Int)
  obtain ⟨tot, htot⟩ : ∃ x, totM l = x := ⟨_, rfl⟩
  rw [htot] at hlen
  have HTOT := Lib.hid htot
  have hsum9 := sumW_wid (b := B) hB2 hJ.ok hn2
  obtain ⟨u, hu⟩ : ∃ x, qn (sumW (widL B l)) 2329089562800 = x := ⟨_, rfl⟩
  obtain ⟨v, hv⟩ : ∃ x, qd (sumW (widL B l)) 2329089562800 = x := ⟨_, rfl⟩
  have HUV := Lib.hid (show markR (sumW (widL B l)) = ⟨(u : Int), (v : Int)⟩ by unfold markR; rw [hu, hv])
  have HPT := Lib.hid (show Prt (sumW (widL B l)) u v by rw [← hu, ← hv]; exact prt_mark hsum9)
  rw [hu, hv] at HR
  obtain ⟨L, hL⟩ : ∃ x, marL l (B : Int) = x := ⟨_, rfl⟩
  rw [hL] at HM hlen
  have HL := Lib.hid hL
  have htot9 : tot ≤ 9600 := by
    have h := totM_le (l := l) fun i hi => by obtain ⟨M, P, D, e1, -, -, v1, v2, -⟩ := hJ.ok i hi; rw [e1]; omega
    have : l.length * 300 ≤ 32 * 300 := Nat.mul_le_mul hn2 (Nat.le_refl _)
    omega
  have HM2 := fun A c w h => (HM A c w h).mono (fun e w' (h : ListP Rt.c 2 L 0 w e w') => (show ∃ a c, e = .returned (.tuple #[.slice a (tot + 1) c, .int .i64 0]) ∧ OKV Rt.c 2 w' a c L ∧ Below w.heap.size w w' by obtain ⟨a, c, he, ho, hb⟩ := h; rw [hlen] at he; exact ⟨a, c, he, ho, hb⟩))
  have HLN := Lib.hid hlen
  -- the marks by their places
  have HAT := Lib.hid (show ∀ j N, (marksN (widL B l))[j]? = some N → ∀ hj : j < L.length, L[j] = markR N from fun j N hj hj' => by
    subst hL
    simp only [marL, Int.toNat_natCast, List.getElem_map]
    congr 1
    exact (List.getElem?_eq_some_iff.1 hj).2)
  clear hA hJ hz hr hmE hu hv hL htot HM hlen hsum9
  go_enter Tryz.func11, Tryz.ntmps11
  go_wp2_with fail
  refine (HSH _ HA.out).mono ?_
  rintro e w2 ⟨p, rfl, hp, rfl⟩
  cases p
  · go_wp2_with fail
    refine (awake6 _ hT).mono ?_
    rintro e w20 ⟨rfl, hb20⟩
    go_wp2
    go_ret
    exact ⟨rfl, hb20⟩
  · clear hp HSH
    go_wp2_with fail
    refine (HCS _ HA.out).mono ?_
    rintro e w3 ⟨rfl, B3⟩
    go_wp2_with fail
    refine (rfCheckRange _ _ _ _).mono ?_
    rintro e w4 ⟨rfl, rfl⟩
    rw [HRB.out]
    go_wp2_with fail
    refine (HCV _ (OKV.below HA.out B3)).mono ?_
    rintro e w5 ⟨a5, c5, rfl, h5, hb5⟩
    have H5 := Lib.hid h5
    replace B3 := tw B3 hb5
    clear h5 hb5
    go_wp2_with fail
    refine (HM2 _ _ _ H5.out).mono ?_
    rintro e w6 ⟨a7, c7, rfl, h7, hb6⟩
    have H7 := Lib.hid h7
    replace B3 := tw B3 hb6
    clear h7 hb6 H5
    go_wp2_with fail
    refine (HCV _ (OKV.below HA.out B3)).mono ?_
    rintro e w8 ⟨a8, c8, rfl, h8, hb8⟩
    have H8 := Lib.hid h8
    replace H7 := Lib.hid (OKV.below H7.out hb8)
    replace B3 := tw B3 hb8
    clear h8 hb8
    go_wp2_with fail
    refine (HR _ _ _ H8.out).mono ?_
    rintro e w9 ⟨rfl, hb9⟩
    obtain ⟨w10, hw10, k9, hb10, hz10⟩ := boxS w9 (.cells #[.int .i64 u, .int .i64 v] 23)
    replace H7 := Lib.hid (OKV.below (OKV.below H7.out hb9) hb10)
    replace B3 := tw (tw B3 hb9) hb10
    clear hb9 hb10 H8 HCV HCS HM2 HR
    go_wp2_with fail
    go_loopw [11, 85] (fun s i wr => ∃ j : Nat, j ≤ l.length ∧ i = .int .i64 j ∧ s = .int .i64 ((totM (l.take j) : Nat) : Int) ∧ Below w10.heap.size w10 wr) (fun _ i _ => l.length - (intOf i).toNat)
    case atStart => exact ⟨0, Nat.zero_le _, rfl, rfl, Below.refl _ _⟩
    case round =>
      obtain ⟨j, hj, rfl, rfl, hb⟩ := hrel
      by_cases hlt : j < l.length
      · have hki : (j : Int) < (l.length : Int) := by omega
        have hk0 : (0 : Int) ≤ (j : Int) := by omega
        obtain ⟨b, off, hAe, hBb, c0, c1, c2⟩ := atS (OKV.below HA.out (tw B3 hb)).2.2.2 hlt
        subst hAe
        obtain ⟨M, P, D, h1, h2, h3, m1, m2, m3, m4, m5, m6⟩ := HJ.out.ok j hlt
        have HTS := Lib.hid (show totM (l.take (j + 1)) = totM (l.take j) + M by rw [totM_snoc l hlt, h1, Int.toNat_natCast])
        have htl : totM (l.take j) ≤ 9600 := by
          have h := totM_le (l := l.take j) fun i hi => by
            rw [List.getElem_take]
            obtain ⟨M, P, D, e1, -, -, v1, v2, -⟩ := HJ.out.ok i (by rw [List.length_take] at hi; omega); rw [e1]; omega
          have h2 : (l.take j).length * 300 ≤ 32 * 300 := Nat.mul_le_mul (by rw [List.length_take]; omega) (Nat.le_refl _)
          omega
        rw [h1] at c0
        rw [h2] at c1
        rw [h3] at c2
        generalize totM (l.take j) = t at HTS htl ⊢
        have wt : IntKind.i64.wrap ((t : Int) + (M : Int)) = (t : Int) + (M : Int) := wr64 (by omega) (by omega)
        obtain ⟨x5, hx5, kx, hbx, hzx⟩ := boxS wr (.cells #[.int .i64 M, .int .i64 P, .int .i64 D] 112)
        obtain ⟨d0, d1, d2, -, -, -⟩ := cel3 kx
        have hb2 := tw hb hbx
        clear h1 h2 h3
        go_wp2_with fail
        go_roundw
        case rel => exact ⟨j + 1, by omega, by go_num, by rw [HTS.out]; push_cast; rfl, hb2⟩
        case measure => simp [intOf]; omega
      · obtain rfl : j = l.length := by omega
        have hki : ¬ (l.length : Int) < (l.length : Int) := by omega
        rw [List.take_length, HTOT.out]
        replace H7 := Lib.hid (OKV.below H7.out hb)
        replace B3 := tw B3 hb
        replace k9 := blkT k9 hb
        obtain ⟨W1, rfl⟩ : ∃ W, W = wr := ⟨_, rfl⟩
        clear hb
        obtain ⟨bm, om, h7e, hBm, g0, g1⟩ := at2 H7.out.2.2.2 (i := 0) (by rw [HLN.out]; omega)
        subst h7e
        obtain ⟨bm', om', h7e, -, g2, g3⟩ := at2 H7.out.2.2.2 (i := tot) (by rw [HLN.out]; omega)
        injection h7e with h7e
        injection h7e with y1 y2
        subst y1 y2
        rw [HAT.out 0 0 rfl (by rw [HLN.out]; omega)] at g0 g1
        rw [HAT.out tot (sumW (widL B l)) (by rw [← HTOT.out, ← cntW_wid B l]; exact marksN_last _) (by rw [HLN.out]; omega), HUV.out] at g2 g3
        have e01 : markR 0 = ⟨0, 1⟩ := by
          unfold markR qn qd
          rw [Nat.gcd_zero_left]
          rfl
        rw [e01] at g0 g1
        simp only [Nat.zero_mul, Nat.add_zero] at g0 g1 g2 g3
        obtain ⟨c0, c1, -, -⟩ := cel2 k9
        have f1 := fun w => eqRat 0 1 0 1 true (by decide) w
        have f2 := fun w => eqRat u v u v true (by simp) w
        have hgA := guardRat
        have hti : (tot : Int) < (tot : Int) + 1 := by omega
        have ht0 : (0 : Int) < (tot : Int) + 1 := by omega
        have wt1 : IntKind.i64.wrap ((tot : Int) + 1) = (tot : Int) + 1 := wr64 (by omega) (by omega)
        clear e01
        go_wp2_with fail
        go_quiet (fail)
        have hb0 := below_drewN (Below.refl W1.heap.size W1) nq
        replace H7 := Lib.hid (OKV.below H7.out hb0)
        replace B3 := tw B3 hb0
        replace k9 := blkT k9 hb0
        clear hb0 c0 c1 g0 g1 g2 g3 f1 f2
        generalize World.drewN W1 nq = W2 at H7 B3 k9 ⊢
        as_aux_lemma =>
          go_wp2_with fail
          go_loopw [14, 116] (fun s i wr => ∃ j : Nat, j ≤ l.length ∧ i = .int .i64 j ∧ s = .int .i64 ((cntW (widL B (l.take j)) : Nat) : Int) ∧ Below W2.heap.size W2 wr) (fun _ i _ => l.length - (intOf i).toNat)
          case atStart => exact ⟨0, Nat.zero_le _, rfl, rfl, Below.refl _ _⟩
          case round =>
            obtain ⟨j, hj, rfl, rfl, hb⟩ := hrel
            by_cases hlt : j < l.length
            · have hki : (j : Int) < (l.length : Int) := by omega
              have hk0 : (0 : Int) ≤ (j : Int) := by omega
              obtain ⟨b, off, hAe, hBb, c0, c1, c2⟩ := atS (OKV.below HA.out (tw B3 hb)).2.2.2 hlt
              subst hAe
              obtain ⟨M, P, D, h1, h2, h3, m1, m2, m3, m4, m5, m6⟩ := HJ.out.ok j hlt
              rw [h1] at c0
              rw [h2] at c1
              rw [h3] at c2
              obtain ⟨W, hW⟩ : ∃ W, 2 * B * 1 * P * (2329089562800 / D) = W := ⟨_, rfl⟩
              have hwe : widE B l[j] = (M, W) := by rw [← hW]; simp only [widE, h1, h2, h3, Int.toNat_natCast]
              have HMA := Lib.hid (fun k (hk : k ≤ M) => marks_at B l hlt hwe hk)
              have HSS := Lib.hid (fun k (hk : k ≤ M) => small_sum HJ.out hlt hwe hk)
              have HCN := Lib.hid (show cntW (widL B (l.take (j + 1))) = cntW (widL B (l.take j)) + M by
                rw [widL_succ B l hlt, cntW_app, hwe]
                simp only [cntW, Nat.add_zero])
              have hcn := cntW_le B HJ.out.ok j
              have hct : cntW (widL B (l.take j)) + M ≤ tot := by
                have e1 : widL B l = widL B (l.take (j + 1)) ++ widL B (l.drop (j + 1)) := by unfold widL; rw [← List.map_append, List.take_append_drop]
                have e2 : cntW (widL B l) = tot := by rw [cntW_wid]; exact HTOT.out
                rw [e1, cntW_app, HCN.out] at e2
                generalize cntW (widL B (l.drop (j + 1))) = z at e2
                generalize cntW (widL B (l.take j)) = z2 at e2 ⊢
                omega
              have hS9 := sumW_take hB2 HJ.out.ok hn2 (j + 1)
              have hSe : sumW (widL B (l.take (j + 1))) = sumW (widL B (l.take j)) + M * W := by
                rw [widL_succ B l hlt, sumW_app, hwe]
                simp only [sumW, Nat.add_zero]
              rw [hSe] at hS9
              have HPW := Lib.hid (show Prt W (qn (2 * B * 1 * P) D) (qd (2 * B * 1 * P) D) by
                have h := prt_width (B := B) (P := P) (D := D) hB2 m4 (by omega) m5 1 (by decide)
                rw [Nat.one_mul, hW] at h
                exact h)
              have hWT := fun w => widthN P D B 1 w m3 m4 m5 m6 hB1 hB2 (by decide) (by decide)
              have hwn : qn (2 * B * 1 * P) D ≤ 6000 := Nat.le_trans (Nat.div_le_self _ _) (Nat.le_trans (Nat.mul_le_mul (show 2 * B * 1 ≤ 200 by omega) (show P ≤ 30 by omega)) (by decide))
              have hwd : qd (2 * B * 1 * P) D ≤ 30 := Nat.le_trans (Nat.div_le_self _ _) m5
              have hwd0 := HPW.out.h2
              clear h1 h2 h3 hwe hSe hW hcn
              generalize sumW (widL B (l.take j)) = S at HMA HSS hS9
              generalize cntW (widL B (l.take j)) = cn at HMA HCN hct ⊢
              generalize qn (2 * B * 1 * P) D = wn at HPW hWT hwn
              generalize qd (2 * B * 1 * P) D = wd at HPW hWT hwd hwd0
              obtain ⟨x5, hx5, kx, hbx, hzx⟩ := boxS wr (.cells #[.int .i64 M, .int .i64 P, .int .i64 D] 112)
              obtain ⟨d0, d1, d2, -, -, -⟩ := cel3 kx
              replace hb := tw hb hbx
              clear hbx
              go_wp2_with fail
              refine (hWT _).mono ?_
              rintro e x6 ⟨rfl, hx6⟩
              obtain ⟨x7, hx7, k17, hbx7, hzx7⟩ := boxS x6 (.cells #[.int .i64 wn, .int .i64 wd] 23)
              replace kx := blkT (blkT kx hx6) hbx7
              replace hb := tw (tw hb hx6) hbx7
              clear d0 d1 d2 hx6 hbx7 c0 c1 c2
              obtain ⟨c0, c1, -, -⟩ := cel2 k17
              obtain ⟨d0, d1, d2, -, -, -⟩ := cel3 kx
              go_wp2_with fail
              refine (lawSane wn wd _ (by omega) hwd0 (by omega)).mono ?_
              rintro e x8 ⟨rfl, hx8⟩
              replace kx := blkT kx hx8
              replace k17 := blkT k17 hx8
              replace hb := tw hb hx8
              clear c0 c1 d0 d1 d2 hx8
              obtain ⟨d0, d1, d2, -, -, -⟩ := cel3 kx
              go_wp2_with fail
              go_loopw [14, 136] (fun s q wz => ∃ k : Nat, k ≤ M ∧ q = .int .i64 k ∧ s = .int .i64 ((cn + k : Nat) : Int) ∧ Below x8.heap.size x8 wz) (fun _ q _ => M - (intOf q).toNat)
              case atStart => exact ⟨0, Nat.zero_le _, rfl, rfl, Below.refl _ _⟩
              case round =>
                obtain ⟨k, hkM, rfl, rfl, hbz⟩ := hrel
                by_cases hkl : k < M
                · have hkj : (k : Int) < (M : Int) := by omega
                  have hbw := tw hb hbz
                  obtain ⟨bm2, om2, h7e, hBm2, g0, g1⟩ := at2 (OKV.below H7.out hbw).2.2.2 (i := cn + k) (by rw [HLN.out]; omega)
                  injection h7e with h7e
                  injection h7e with y1 y2
                  subst y1 y2
                  obtain ⟨bm2, om2, h7e, -, g2, g3⟩ := at2 (OKV.below H7.out hbw).2.2.2 (i := cn + k + 1) (by rw [HLN.out]; omega)
                  injection h7e with h7e
                  injection h7e with y1 y2
                  subst y1 y2
                  rw [HAT.out (cn + k) _ (HMA.out k hkM) (by rw [HLN.out]; omega)] at g0 g1
                  rw [HAT.out (cn + k + 1) _ (HMA.out (k + 1) hkl) (by rw [HLN.out]; omega)] at g2 g3
                  have s0 := HSS.out k hkM
                  have s1 := HSS.out (k + 1) hkl
                  have hle : (k + 1) * W ≤ M * W := Nat.mul_le_mul hkl (Nat.le_refl _)
                  have hkw : (k + 1) * W = k * W + W := by rw [Nat.add_mul, Nat.one_mul]
                  have p0 := prt_mark (N := S + k * W) (by omega)
                  have p1 := prt_mark (N := S + k * W + W) (by omega)
                  have hN9 : S + k * W + W ≤ 4500000000000000000 := by omega
                  rw [hkw, ← Nat.add_assoc] at g2 g3 s1
                  clear hle hkw
                  generalize S + k * W = N0 at g0 g1 g2 g3 s0 s1 p0 p1 hN9
                  unfold markR at g0 g1 g2 g3 s0 s1
                  obtain ⟨r0, r1⟩ := rat_small s0
                  obtain ⟨r2, r3⟩ := rat_small s1
                  have r4 := p0.h2
                  have r5 := p1.h2
                  have HAD := Lib.hid (fun w => lawAdds _ _ _ _ _ _ N0 W w p0 HPW.out p1 hN9)
                  clear s0 s1 p0 p1
                  simp only at g0 g1 g2 g3
                  generalize qn N0 2329089562800 = n0 at g0 r0 HAD
                  generalize qd N0 2329089562800 = e0 at g1 r1 r4 HAD
                  generalize qn (N0 + W) 2329089562800 = n1 at g2 r2 HAD
                  generalize qd (N0 + W) 2329089562800 = e1 at g3 r3 r5 HAD
                  obtain ⟨c0, c1, -, -⟩ := cel2 (blkT k17 hbz)
                  have z17 := blkSz (blkT k17 hbz)
                  have hx0 : (0 : Int) ≤ ((cn + k : Nat) : Int) := by omega
                  have hx1 : ((cn + k : Nat) : Int) < (tot : Int) + 1 := by omega
                  have hx2 : ((cn + k : Nat) : Int) + 1 < (tot : Int) + 1 := by omega
                  have hx3 : (((cn + k : Nat) : Int) + 1).toNat = cn + k + 1 := by omega
                  have wx : IntKind.i64.wrap (((cn + k : Nat) : Int) + 1) = ((cn + k : Nat) : Int) + 1 := wr64 (by omega) (by omega)
                  have HNX := Lib.hid (show cn + k + 1 = cn + (k + 1) from rfl)
                  generalize hx : cn + k = x at g0 g1 g2 g3 hx0 hx1 hx2 hx3 wx HNX ⊢
                  have hx4 : (x : Int) < (tot : Int) := by omega
                  have hx5 : x < tot := by omega
                  have hx6 : (0 : Int) ≤ (x : Int) + 1 := by omega
                  have B9 := Below.refl wr.heap.size wr
                  clear hx
                  go_wp2_with fail
                  go_region_held3 (fun X => X.cell? ⟨bm, om + x * 2, none⟩ = some (.int .i64 n0) ∧ X.cell? ⟨bm, om + x * 2 + 1, none⟩ = some (.int .i64 e0) ∧ X.cell? ⟨bm, om + (x + 1) * 2, none⟩ = some (.int .i64 n1) ∧ X.cell? ⟨bm, om + (x + 1) * 2 + 1, none⟩ = some (.int .i64 e1) ∧ X.cell? ⟨x6.heap.size, 0, none⟩ = some (.int .i64 wn) ∧ X.cell? ⟨x6.heap.size, 1, none⟩ = some (.int .i64 wd) ∧ Below wr.heap.size wr X)
                    (first | exact ⟨g0, g1, g2, g3, c0, c1, B9⟩ | exact ⟨g0, g1, g2, g3, c0, c1, below_drew B9⟩ | exact keepJ hBm2 z17 (by assumption) (by assumption) | exact keepJ hBm2 z17 (by assumption) ((Below.refl _ _).alloc (Nat.le_refl _) _) | assumption | exact keepJ hBm2 z17 (by assumption) (below_drew (Below.refl _ _)) | go_keep)
                    (first
                      | (go_at_call 67; refine (lawSane _ _ _ (by first | exact r0 | exact r2) (by first | exact r4 | exact r5) (by first | exact r1 | exact r3)).mono ?_; rintro e w' ⟨rfl, hbx⟩)
                      | (go_at_call 68; refine (HAD.out _).mono ?_; rintro e w' ⟨rfl, hbx⟩))
                  all_goals
                    rename_i hH
                    obtain ⟨-, -, -, -, -, -, hb6⟩ := hH
                    have hbf := tw hbz hb6
                    clear g0 g1 g2 g3 c0 c1 B9 hb6
                    go_wp2_with fail
                    go_roundw
                    case rel => exact ⟨k + 1, by omega, by go_num, by rw [← HNX.out]; push_cast; rfl, hbf⟩
                    case measure => simp [intOf]; omega
                · obtain rfl : M = k := by omega
                  have hkj : ¬ (M : Int) < (M : Int) := by omega
                  go_wp2_with fail
                  go_roundw
                  case rel => exact ⟨j + 1, by omega, by go_num, by rw [HCN.out], tw hb hbz⟩
                  case measure => simp [intOf]; omega
            · obtain rfl : j = l.length := by omega
              have hki : ¬ (l.length : Int) < (l.length : Int) := by omega
              replace H7 := Lib.hid (OKV.below H7.out hb)
              replace B3 := tw B3 hb
              replace k9 := blkT k9 hb
              obtain ⟨W3, rfl⟩ : ∃ W, W = wr := ⟨_, rfl⟩
              clear hb
              as_aux_lemma =>
                have hmod := modN K l.length
                have wK : IntKind.i64.wrap (K : Int) = (K : Int) := wr64 (by omega) (by omega)
                have hlt := Nat.mod_lt K (show 0 < l.length by omega)
                obtain ⟨kk, hkk⟩ : ∃ x, K % l.length = x := ⟨_, rfl⟩
                rw [hkk] at hmod hlt
                have wkk : IntKind.i64.wrap (kk : Int) = (kk : Int) := wr64 (by omega) (by omega)
                have hl0 : ¬ (l.length : Int) = 0 := by omega
                have hl1 : ((l.length : Int) != 0) = true := by rw [bne_iff_ne]; exact hl0
                have HCV := fun (A : Option Addr) (c : Nat) (l' : List Sec) (n : Nat) (hn : l'.length = n) (hl' : l'.length ≤ 1000) (w : World) (h : OKV Sec.c 3 w A c l') => (show Calls Tryz.prog 40 #[.slice A n c] w (fun e w' => ∃ a c', e = .returned (.slice a n c') ∧ OKV Sec.c 3 w' a c' l' ∧ Below w.heap.size w w') by
                  subst hn
                  exact law_sections A c l' w hl' h)
                clear hkk
                by_cases hk0 : kk = 0
                · subst hk0
                  obtain ⟨b, off, hAe, hBb, c0, c1, c2⟩ := atS (OKV.below HA.out B3).2.2.2 (i := 0) (by omega)
                  subst hAe
                  obtain ⟨M, P, D, h1, h2, h3, m1, m2, m3, m4, m5, m6⟩ := HJ.out.ok 0 (by omega)
                  rw [h1] at c0
                  rw [h2] at c1
                  rw [h3] at c2
                  simp only [Nat.zero_mul, Nat.add_zero] at c0 c1 c2
                  have hWT := fun w => widthN P D B M w m3 m4 m5 m6 hB1 hB2 m1 m2
                  have hli : (0 : Int) < (l.length : Int) := by omega
                  have ht1 : (l.take 1).length = 1 := by rw [List.length_take]; omega
                  have hoT : SecOk (l.take 1) := secOk_take HJ.out.ok 1
                  have hzT := ropE_of HJ.out hoT (by omega) (by omega)
                  have hsT : sumW (widL B (l.take 1)) = M * (2 * B * 1 * P * (2329089562800 / D)) := by
                    have e : l.take 1 = [l[0]] := by
                      have := List.take_succ_eq_append_getElem (l := l) (i := 0) (by omega)
                      simpa using this
                    rw [e]
                    simp only [widL, List.map_cons, List.map_nil, sumW, widE, h1, h2, h3, Int.toNat_natCast, Nat.add_zero]
                  have ho := one_rope (B := B) (P := P) (D := D) (M := M) (by omega) m5
                  have hJT : Jn (l.take 1) B := ⟨hoT, by omega, by omega, hB1, hB2, fun x hx => by
                    rw [(marE_take HJ.out (Nat.le_refl 1) hn1).2] at hx
                    exact HJ.out.small x (List.mem_of_mem_take hx)⟩
                  have hRT := fun A c w h => hgRope A c (l.take 1) (B : Int) w (by omega) h
                  rw [ropeE_jn hJT, oz0, oz0, ropS, Int.toNat_natCast, hsT, ho.1, ho.2, ht1] at hRT
                  have HRT := Lib.hid hRT
                  have HC1 := Lib.hid (fun w h => HCV (some ⟨b, off, none⟩) c (l.take 1) 1 ht1 (by omega) w h)
                  clear hRT ho hsT hJT hzT hoT ht1 h1 h2 h3
                  generalize qn (2 * B * M * P) D = wn at hWT HRT
                  generalize qd (2 * B * M * P) D = wd at hWT HRT
                  have hl1c : (1 : Int) ≤ (c : Int) := by have := HA.out.1; omega
                  go_wp2_with fail
                  have Q : ∀ {X : World}, Below W3.heap.size W3 X → X.cell? ⟨b, off, none⟩ = some (.int .i64 M) ∧ X.cell? ⟨b, off + 1, none⟩ = some (.int .i64 P) ∧ X.cell? ⟨b, off + 2, none⟩ = some (.int .i64 D) := fun h => ⟨(h.cell (p := ⟨b, _, none⟩) hBb).trans c0, (h.cell (p := ⟨b, _, none⟩) hBb).trans c1, (h.cell (p := ⟨b, _, none⟩) hBb).trans c2⟩
                  refine wp_region_held_drew (S := (fun X => Below W3.heap.size W3 X)) (by kernel_rfl) ?_ (fun hHeld => ?_)
                  · exact below_drew (Below.refl _ _)
                  refine wpAnyH_take (i := 0) (oi := _) (v := ?vj0_1) rfl (by kernel_rfl) (by kernel_rfl) (by kernel_rfl) (fun _ _ _ h => h) (Or.inl ⟨by rfl, ?hyj0_1⟩) (by assumption) ?restj0_1
                  case hyj0_1 => (intro w hSw; (try dsimp only at hSw); go_simp; first | done | rfl)
                  try simp only [layAH]
                  refine wpAnyH_take (i := 1) (oi := _) (v := ?vj1_2) rfl (by kernel_rfl) (by kernel_rfl) (by kernel_rfl) (fun _ _ _ h => h) (Or.inl ⟨by rfl, ?hyj1_2⟩) (by assumption) ?restj1_2
                  case hyj1_2 => (intro w hSw; (try dsimp only at hSw); go_simp; first | done | rfl)
                  try simp only [layAH]
                  refine wpAnyH_take (i := 2) (oi := _) (v := ?vj2_3) rfl (by kernel_rfl) (by kernel_rfl) (by kernel_rfl) (fun _ _ _ h => h) (Or.inl ⟨by rfl, ?hyj2_3⟩) (by assumption) ?restj2_3
                  case hyj2_3 => (intro w hSw; (try dsimp only at hSw); go_simp; first | done | rfl)
                  try simp only [layAH]
                  refine wpAnyH_take (i := 3) (oi := _) (v := ?vj3_4) rfl (by kernel_rfl) (by kernel_rfl) (by kernel_rfl) (fun _ _ _ h => h) (Or.inl ⟨by rfl, ?hyj3_4⟩) (by assumption) ?restj3_4
                  case hyj3_4 => (intro w hSw; (try dsimp only at hSw); obtain ⟨p0, p1, p2⟩ := Q hSw; go_simp; first | done | rfl)
                  try simp only [layAH]
                  refine wpAnyH_take (i := 4) (oi := _) (v := ?vj4_5) rfl (by kernel_rfl) (by kernel_rfl) (by kernel_rfl) (fun _ _ _ h => h) (Or.inl ⟨by rfl, ?hyj4_5⟩) (by assumption) ?restj4_5
                  case hyj4_5 => (intro w hSw; (try dsimp only at hSw); go_simp; first | done | rfl)
                  try simp only [layAH]
                  refine wpAnyH_take (i := 5) (oi := _) (v := ?vj5_6) rfl (by kernel_rfl) (by kernel_rfl) (by kernel_rfl) (fun _ _ _ h => h) (Or.inl ⟨by rfl, ?hyj5_6⟩) (by assumption) ?restj5_6
                  case hyj5_6 => (intro w hSw; (try dsimp only at hSw); go_simp; first | done | rfl)
                  try simp only [layAH]
                  refine wpAnyH_take (i := 6) (oi := _) (v := ?vj6_7) rfl (by kernel_rfl) (by kernel_rfl) (by kernel_rfl) (fun _ _ _ h => h) (Or.inl ⟨by rfl, ?hyj6_7⟩) (by assumption) ?restj6_7
                  case hyj6_7 => (intro w hSw; (try dsimp only at hSw); go_simp; first | done | rfl)
                  try simp only [layAH]
                  refine wpAnyH_take (i := 7) (oi := _) (v := ?vj7_8) rfl (by kernel_rfl) (by kernel_rfl) (by kernel_rfl) (fun _ _ _ h => h) (Or.inl ⟨by rfl, ?hyj7_8⟩) (by assumption) ?restj7_8
                  case hyj7_8 => (intro w hSw; (try dsimp only at hSw); go_simp; first | done | rfl)
                  try simp only [layAH]
                  refine wpAnyH_take (i := 8) (oi := _) (v := ?vj8_9) rfl (by kernel_rfl) (by kernel_rfl) (by kernel_rfl) (fun _ _ _ h => h) (Or.inl ⟨by rfl, ?hyj8_9⟩) (by assumption) ?restj8_9
                  case hyj8_9 => (intro w hSw; (try dsimp only at hSw); obtain ⟨p0, p1, p2⟩ := Q hSw; go_simp; first | done | rfl)
                  try simp only [layAH]
                  refine wpAnyH_ready (rs := [9, 13]) (by kernel_rfl) (by simp) ?_
                  refine (AllReadyH.cons (o := _) rfl (fun K hK => ?rj9_10) (AllReadyH.cons (o := _) rfl (fun K hK => ?rj13_10) AllReadyH.nil))
                  case rj9_10 =>
                    simp only [layGH]
                    go_simp
                    refine (hWT _).mono ?_
                    rintro e x1 ⟨rfl, hx1⟩
                    have hS1 : Below W3.heap.size W3 x1 := tw (below_drew (Below.refl _ _)) hx1
                    refine hK.out _ _ hS1 (fun hHeld => ?_)
                    clear hK K
                    try simp only [layAH]
                    refine wpAnyH_take (i := 10) (oi := _) (v := ?vj10_11) rfl (by kernel_rfl) (by kernel_rfl) (by kernel_rfl) (fun _ _ _ h => h) (Or.inl ⟨by rfl, ?hyj10_11⟩) (by assumption) ?restj10_11
                    case hyj10_11 => (intro w hSw; (try dsimp only at hSw); go_simp; first | done | rfl)
                    try simp only [layAH]
                    refine wpAnyH_take (i := 11) (oi := _) (v := ?vj11_12) rfl (by kernel_rfl) (by kernel_rfl) (by kernel_rfl) (fun _ _ _ h => h) (Or.inl ⟨by rfl, ?hyj11_12⟩) (by assumption) ?restj11_12
                    case hyj11_12 => (intro w hSw; (try dsimp only at hSw); go_simp; first | done | rfl)
                    try simp only [layAH]
                    refine wpAnyH_take (i := 12) (oi := _) (v := ?vj12_13) rfl (by kernel_rfl) (by kernel_rfl) (by kernel_rfl) (fun _ _ _ h => h) (Or.inl ⟨by rfl, ?hyj12_13⟩) (by assumption) ?restj12_13
                    case hyj12_13 => (intro w hSw; (try dsimp only at hSw); go_simp; first | done | rfl)
                    try simp only [layAH]
                    refine wpAnyH_ready (rs := [13]) (by kernel_rfl) (by simp) ?_
                    refine (AllReadyH.cons (o := _) rfl (fun K hK => ?rj13_14) AllReadyH.nil)
                    case rj13_14 =>
                      simp only [layGH]
                      go_simp
                      obtain ⟨x2, hx2, k20, hbx2, hzx2⟩ := boxS x1 (.cells #[.int .i64 0, .int .i64 0] 23)
                      rw [hx2]
                      obtain ⟨q0, q1, q2, q3⟩ := cel2 k20
                      have hS2 := tw hS1 hbx2
                      refine hK.out _ _ hS2 (fun hHeld => ?_)
                      clear hK K
                      try simp only [layAH]
                      refine wpAnyH_ready (rs := [14]) (by kernel_rfl) (by simp) ?_
                      refine (AllReadyH.cons (o := _) rfl (fun K hK => ?rj14_15) AllReadyH.nil)
                      case rj14_15 =>
                        simp only [layGH]
                        go_simp
                        obtain ⟨s1, s2⟩ := set2 k20 (.int .i64 wn) (.int .i64 wd)
                        have hS3 := hS2.grown s2 hS2.size (fun j e => by cases e; exact hS1.size)
                        refine hK.out _ _ hS3 (fun hHeld => ?_)
                        clear hK K
                        try simp only [layAH]
                        refine wpAnyH_take (i := 15) (oi := _) (v := ?vj15_16) rfl (by kernel_rfl) (by kernel_rfl) (by kernel_rfl) (fun _ _ _ h => h) (Or.inl ⟨by rfl, ?hyj15_16⟩) (by assumption) ?restj15_16
                        case hyj15_16 => (intro w hSw; (try dsimp only at hSw); go_simp; first | done | rfl)
                        try simp only [layAH]
                        refine wpAnyH_done (by kernel_rfl) ?_ _
                        have k9b := (hS3.block _ (blkSz k9)).trans k9
                        have B4 := tw B3 hS3
                        clear q0 q1 q2 q3 hHeld
                        generalize (x2.setCell ⟨x1.heap.size, 0, none⟩ (.int .i64 wn)).setCell ⟨x1.heap.size, 1, none⟩ (.int .i64 wd) = W5 at s1 k9b B4 ⊢
                        generalize x1.heap.size = g20 at s1 ⊢
                        go_wp2_with fail
                        refine (HC1.out _ (okv_take (OKV.below HA.out B4) 1)).mono ?_
                        rintro e x3 ⟨a3, c3, rfl, h3, hx3⟩
                        have H3 := Lib.hid h3
                        replace s1 := blkT s1 hx3
                        replace B4 := tw B4 hx3
                        clear h3 hx3 k9b
                        go_wp2_with fail
                        refine (HRT.out _ _ _ H3.out).mono ?_
                        rintro e x4 ⟨rfl, hx4⟩
                        obtain ⟨x5, hx5, k22, hbx5, hzx5⟩ := boxS x4 (.cells #[.int .i64 wn, .int .i64 wd] 23)
                        replace s1 := blkT (blkT s1 hx4) hbx5
                        replace B4 := tw (tw B4 hx4) hbx5
                        clear hx4 hbx5 H3
                        obtain ⟨c0, c1, -, -⟩ := cel2 s1
                        obtain ⟨c2, c3, -, -⟩ := cel2 k22
                        have f1 := fun w => eqRat wn wd wn wd true (by simp) w
                        have hgA := guardRat
                        go_wp2_with fail
                        refine (awake6 _ (hT.below B4)).mono ?_
                        rintro e w20 ⟨rfl, hb20⟩
                        go_wp2
                        go_ret
                        exact ⟨rfl, tw B4 hb20⟩
                  case rj13_10 =>
                    simp only [layGH]
                    go_simp
                    obtain ⟨x2, hx2, k20, hbx2, hzx2⟩ := boxS W3 (.cells #[.int .i64 0, .int .i64 0] 23)
                    rw [hx2]
                    have hS2 : Below W3.heap.size W3 x2.drew := below_drew hbx2
                    refine hK.out _ _ hS2 (fun hHeld => ?_)
                    clear hK K
                    try simp only [layAH]
                    refine wpAnyH_ready (rs := [9]) (by kernel_rfl) (by simp) ?_
                    refine (AllReadyH.cons (o := _) rfl (fun K hK => ?rj9_17) AllReadyH.nil)
                    case rj9_17 =>
                      simp only [layGH]
                      go_simp
                      refine (hWT _).mono ?_
                      rintro e x1 ⟨rfl, hx1⟩
                      have k20b := blkT (show x2.drew.heap[W3.heap.size]? = _ from k20) hx1
                      obtain ⟨q0, q1, q2, q3⟩ := cel2 k20b
                      have hS1 : Below W3.heap.size W3 x1 := tw hS2 hx1
                      refine hK.out _ _ hS1 (fun hHeld => ?_)
                      clear hK K
                      try simp only [layAH]
                      refine wpAnyH_take (i := 10) (oi := _) (v := ?vj10_18) rfl (by kernel_rfl) (by kernel_rfl) (by kernel_rfl) (fun _ _ _ h => h) (Or.inl ⟨by rfl, ?hyj10_18⟩) (by assumption) ?restj10_18
                      case hyj10_18 => (intro w hSw; (try dsimp only at hSw); go_simp; first | done | rfl)
                      try simp only [layAH]
                      refine wpAnyH_take (i := 11) (oi := _) (v := ?vj11_19) rfl (by kernel_rfl) (by kernel_rfl) (by kernel_rfl) (fun _ _ _ h => h) (Or.inl ⟨by rfl, ?hyj11_19⟩) (by assumption) ?restj11_19
                      case hyj11_19 => (intro w hSw; (try dsimp only at hSw); go_simp; first | done | rfl)
                      try simp only [layAH]
                      refine wpAnyH_take (i := 12) (oi := _) (v := ?vj12_20) rfl (by kernel_rfl) (by kernel_rfl) (by kernel_rfl) (fun _ _ _ h => h) (Or.inl ⟨by rfl, ?hyj12_20⟩) (by assumption) ?restj12_20
                      case hyj12_20 => (intro w hSw; (try dsimp only at hSw); go_simp; first | done | rfl)
                      try simp only [layAH]
                      refine wpAnyH_ready (rs := [14]) (by kernel_rfl) (by simp) ?_
                      refine (AllReadyH.cons (o := _) rfl (fun K hK => ?rj14_21) AllReadyH.nil)
                      case rj14_21 =>
                        simp only [layGH]
                        go_simp
                        obtain ⟨s1, s2⟩ := set2 k20b (.int .i64 wn) (.int .i64 wd)
                        have hS3 := hS1.grown s2 hS1.size (fun j e => by cases e; exact Nat.le_refl _)
                        refine hK.out _ _ hS3 (fun hHeld => ?_)
                        clear hK K
                        try simp only [layAH]
                        refine wpAnyH_take (i := 15) (oi := _) (v := ?vj15_22) rfl (by kernel_rfl) (by kernel_rfl) (by kernel_rfl) (fun _ _ _ h => h) (Or.inl ⟨by rfl, ?hyj15_22⟩) (by assumption) ?restj15_22
                        case hyj15_22 => (intro w hSw; (try dsimp only at hSw); go_simp; first | done | rfl)
                        try simp only [layAH]
                        refine wpAnyH_done (by kernel_rfl) ?_ _
                        have k9b := (hS3.block _ (blkSz k9)).trans k9
                        have B4 := tw B3 hS3
                        clear q0 q1 q2 q3 hHeld
                        generalize (x1.setCell ⟨W3.heap.size, 0, none⟩ (.int .i64 wn)).setCell ⟨W3.heap.size, 1, none⟩ (.int .i64 wd) = W5 at s1 k9b B4 ⊢
                        generalize W3.heap.size = g20 at s1 ⊢
                        go_wp2_with fail
                        refine (HC1.out _ (okv_take (OKV.below HA.out B4) 1)).mono ?_
                        rintro e x3 ⟨a3, c3, rfl, h3, hx3⟩
                        have H3 := Lib.hid h3
                        replace s1 := blkT s1 hx3
                        replace B4 := tw B4 hx3
                        clear h3 hx3 k9b
                        go_wp2_with fail
                        refine (HRT.out _ _ _ H3.out).mono ?_
                        rintro e x4 ⟨rfl, hx4⟩
                        obtain ⟨x5, hx5, k22, hbx5, hzx5⟩ := boxS x4 (.cells #[.int .i64 wn, .int .i64 wd] 23)
                        replace s1 := blkT (blkT s1 hx4) hbx5
                        replace B4 := tw (tw B4 hx4) hbx5
                        clear hx4 hbx5 H3
                        obtain ⟨c0, c1, -, -⟩ := cel2 s1
                        obtain ⟨c2, c3, -, -⟩ := cel2 k22
                        have f1 := fun w => eqRat wn wd wn wd true (by simp) w
                        have hgA := guardRat
                        go_wp2_with fail
                        refine (awake6 _ (hT.below B4)).mono ?_
                        rintro e w20 ⟨rfl, hb20⟩
                        go_wp2
                        go_ret
                        exact ⟨rfl, tw B4 hb20⟩
                · have hk1 : 1 ≤ kk := by omega
                  have hkz : ((kk : Int) == 0) = false := by rw [beq_eq_false_iff_ne]; omega
                  obtain ⟨b, off, hAe, hBb, -⟩ := atS (OKV.below HA.out B3).2.2.2 (i := 0) (by omega)
                  subst hAe
                  have hlc : l.length ≤ c := HA.out.1
                  have hcap : L.length ≤ c7 := H7.out.1
                  rw [HLN.out] at hcap
                  have HTK := Lib.hid (marE_take HJ.out hk1 (Nat.le_of_lt hlt))
                  have htl : (l.take kk).length = kk := by rw [List.length_take]; omega
                  have hdl : (l.drop kk).length = l.length - kk := List.length_drop
                  have HC1 := Lib.hid (fun w h => HCV (some ⟨b, off, none⟩) c (l.take kk) kk htl (by omega) w h)
                  have HC2 := Lib.hid (fun w h => HCV (some ⟨b, off + kk * 3, none⟩) (c - kk) (l.drop kk) (l.length - kk) hdl (by omega) w h)
                  have hm9 := marL_len (l.take kk) (B : Int)
                  obtain ⟨tk, htk⟩ : ∃ x, totM (l.take kk) = x := ⟨_, rfl⟩
                  rw [htk] at hm9
                  have htt : tk ≤ tot := by
                    have e1 : widL B l = widL B (l.take kk) ++ widL B (l.drop kk) := by unfold widL; rw [← List.map_append, List.take_append_drop]
                    have e2 : cntW (widL B l) = tot := by rw [cntW_wid]; exact HTOT.out
                    rw [e1, cntW_app, cntW_wid, htk] at e2
                    omega
                  have hMT := fun A c w h => hgMarks A c (l.take kk) (B : Int) w (by omega) h
                  rw [HTK.out.1, ozL0, htl] at hMT
                  have HMT := Lib.hid (fun A c w h => (hMT A c w h).mono (fun e w' (h : ListP Rt.c 2 (marL (l.take kk) (B : Int)) 0 w e w') => (show ∃ a c, e = .returned (.tuple #[.slice a (tk + 1) c, .int .i64 0]) ∧ OKV Rt.c 2 w' a c (L.take (tk + 1)) ∧ Below w.heap.size w w' by
                    obtain ⟨a, c, he, ho, hb⟩ := h
                    rw [hm9] at he
                    rw [HTK.out.2, HL.out, htk] at ho
                    exact ⟨a, c, he, ho, hb⟩)))
                  have hoD : SecOk (l.drop kk) := secOk_drop HJ.out.ok kk
                  have hzD := ropE_of HJ.out hoD (by omega) (by omega)
                  have hRT := fun A c w h => hgRope A c (l.drop kk) (B : Int) w (by omega) h
                  rw [ropS, Int.toNat_natCast, hdl] at hRT
                  have hE7 : ropeE (l.drop kk) (B : Int) = if larB ((qn (sumW (widL B (l.drop kk))) 2329089562800 : Nat) : Int) ((qd (sumW (widL B (l.drop kk))) 2329089562800 : Nat) : Int) = true then 4 else 0 := by
                    rw [ropeE, if_pos hzD, ropS, Int.toNat_natCast]
                  have hsp : sumW (widL B l) = sumW (widL B (l.take kk)) + sumW (widL B (l.drop kk)) := by
                    have e1 : widL B l = widL B (l.take kk) ++ widL B (l.drop kk) := by unfold widL; rw [← List.map_append, List.take_append_drop]
                    rw [e1, sumW_app]
                  have hs9 := sumW_wid (b := B) hB2 HJ.out.ok hn2
                  have hlast : (marksN (widL B l))[tk]? = some (sumW (widL B (l.take kk))) := by
                    have h := marks_at B l hlt (M := (widE B l[kk]).1) (W := (widE B l[kk]).2) rfl (Nat.zero_le _)
                    rw [Nat.add_zero, Nat.zero_mul, Nat.add_zero, cntW_wid, htk] at h
                    exact h
                  have hLk : ∀ h : tk < L.length, L[tk] = markR (sumW (widL B (l.take kk))) := HAT.out tk _ hlast
                  have p2 := HPT.out
                  rw [hsp] at p2 hs9
                  have HPT2 := Lib.hid p2
                  have p1 := prt_mark (N := sumW (widL B (l.drop kk))) (by omega)
                  have p0 := prt_mark (N := sumW (widL B (l.take kk))) (by omega)
                  have HAD := Lib.hid (fun w => lawAdds _ _ _ _ _ _ _ _ w p0 p1 HPT2.out hs9)
                  have HLK := Lib.hid hLk
                  have r4 := p1.h2
                  have HRT := Lib.hid hRT
                  have HE7 := Lib.hid hE7
                  clear p0 p1 p2 hLk hlast hsp hs9 hzD hoD hMT hRT hE7 hm9 htk htl hdl HTK HCV
                  generalize ropeE (l.drop kk) (B : Int) = E7 at HRT HE7
                  generalize sumW (widL B (l.drop kk)) = S7 at HRT HE7 HAD HPT2 r4
                  unfold markR at HLK
                  generalize sumW (widL B (l.take kk)) = S6 at HLK HAD HPT2
                  generalize qn S7 2329089562800 = u7 at HRT HE7 HAD
                  generalize qd S7 2329089562800 = v7 at HRT HE7 HAD r4
                  generalize qn S6 2329089562800 = n6 at HLK HAD
                  generalize qd S6 2329089562800 = d6 at HLK HAD
                  have hkc : (kk : Int) ≤ (c : Int) := by omega
                  have hkl2 : (kk : Int) ≤ (l.length : Int) := by omega
                  have hkn : (0 : Int) ≤ (kk : Int) := by omega
                  have hlc2 : (l.length : Int) ≤ (c : Int) := by omega
                  go_wp2_with fail
                  refine (HC1.out _ (okv_take (OKV.below HA.out B3) kk)).mono ?_
                  rintro e x1 ⟨a1, c1, rfl, h1, hx1⟩
                  have H1 := Lib.hid h1
                  replace H7 := Lib.hid (OKV.below H7.out hx1)
                  replace k9 := blkT k9 hx1
                  replace B3 := tw B3 hx1
                  clear h1 hx1
                  go_wp2_with fail
                  refine (HMT.out _ _ _ H1.out).mono ?_
                  rintro e x2 ⟨a2, c2', rfl, h2, hx2⟩
                  have H2 := Lib.hid h2
                  replace H7 := Lib.hid (OKV.below H7.out hx2)
                  replace k9 := blkT k9 hx2
                  replace B3 := tw B3 hx2
                  clear h2 hx2 H1
                  go_wp2_with fail
                  refine (HC2.out _ (okv_drop (OKV.below HA.out B3) kk (Nat.le_of_lt hlt))).mono ?_
                  rintro e x3 ⟨a3, c3, rfl, h3, hx3⟩
                  have H3 := Lib.hid h3
                  replace H7 := Lib.hid (OKV.below H7.out hx3)
                  replace H2 := Lib.hid (OKV.below H2.out hx3)
                  replace k9 := blkT k9 hx3
                  replace B3 := tw B3 hx3
                  clear h3 hx3
                  go_wp2_with fail
                  refine (HRT.out _ _ _ H3.out).mono ?_
                  rintro e x4 ⟨rfl, hx4⟩
                  obtain ⟨x5, hx5, k26, hbx5, hzx5⟩ := boxS x4 (.cells #[.int .i64 (oz E7 u7), .int .i64 (oz E7 v7)] 23)
                  replace H7 := Lib.hid (OKV.below (OKV.below H7.out hx4) hbx5)
                  replace H2 := Lib.hid (OKV.below (OKV.below H2.out hx4) hbx5)
                  replace k9 := blkT (blkT k9 hx4) hbx5
                  replace B3 := tw (tw B3 hx4) hbx5
                  clear hx4 hbx5 H3
                  have hta : ¬ (tot : Int) < (tk : Int) := by omega
                  have htb : ¬ tot < tk := by omega
                  by_cases hlb : larB (u7 : Int) (v7 : Int) = true
                  · obtain rfl : E7 = 4 := by rw [HE7.out, if_pos hlb]
                    clear HE7 HRT HAD
                    go_wp2_with fail
                    refine (awake6 _ (hT.below B3)).mono ?_
                    rintro e w20 ⟨rfl, hb20⟩
                    go_wp2
                    go_ret
                    exact ⟨rfl, tw B3 hb20⟩
                  · obtain rfl : E7 = 0 := by rw [HE7.out, if_neg hlb]
                    have hsm : larR ⟨(u7 : Int), (v7 : Int)⟩ = false := by
                      unfold larR
                      exact Bool.not_eq_true _ ▸ hlb
                    obtain ⟨r2, r3⟩ := rat_small hsm
                    rw [oz0, oz0] at k26
                    clear HE7 HRT hlb hsm
                    obtain ⟨ba, oa, h2e, hBa, g0, g1⟩ := at2 H2.out.2.2.2 (i := tk) (by rw [List.length_take, HLN.out]; omega)
                    subst h2e
                    rw [List.getElem_take, HLK.out (by rw [HLN.out]; omega)] at g0 g1
                    simp only at g0 g1
                    obtain ⟨c0, c1, -, -⟩ := cel2 k26
                    obtain ⟨c2, c3, -, -⟩ := cel2 k9
                    have z26 := blkSz k26
                    have z9 := blkSz k9
                    have hLT : (L.take (tk + 1)).length = tk + 1 := by rw [List.length_take, HLN.out]; omega
                    have B9 := Below.refl x5.heap.size x5
                    have w5a : IntKind.i64.wrap (tk : Int) = (tk : Int) := wr64 (by omega) (by omega)
                    have w5b : (0 : Int) ≤ (tk : Int) := by omega
                    have w5c : (tk : Int) < (tk : Int) + 1 := by omega
                    have w5d : (0 : Int) ≤ (tk : Int) + 1 := by omega
                    have w5e : (tk : Int) + 1 ≤ (c7 : Int) := by omega
                    have w5f : (tk : Int) < (c7 : Int) := by omega
                    have w5g : tk < c7 := by omega
                    have w5h : tk + 1 ≤ c7 := by omega
                    clear c0 c1 c2 c3
                    obtain ⟨e0, e1, -, -⟩ := cel2 k26
                    obtain ⟨e2, e3, -, -⟩ := cel2 k9
                    have HSR := Lib.hid (fun (X : World) (h : Below x5.heap.size x5 X) => rfSameRatios (some ⟨ba, oa, none⟩) (some ⟨bm, om, none⟩) c2' c7 (tk + 1) (tk + 1) (L.take (tk + 1)) X hLT hLT (by omega) (OKV.below H2.out h).2.2.2 ((OKV.below H7.out h).2.2.2.take (tk + 1)))
                    go_wp2_with fail
                    go_region_held3 (fun X => X.cell? ⟨ba, oa + tk * 2, none⟩ = some (.int .i64 n6) ∧ X.cell? ⟨ba, oa + tk * 2 + 1, none⟩ = some (.int .i64 d6) ∧ X.cell? ⟨x4.heap.size, 0, none⟩ = some (.int .i64 u7) ∧ X.cell? ⟨x4.heap.size, 1, none⟩ = some (.int .i64 v7) ∧ X.cell? ⟨w9.heap.size, 0, none⟩ = some (.int .i64 u) ∧ X.cell? ⟨w9.heap.size, 1, none⟩ = some (.int .i64 v) ∧ Below x5.heap.size x5 X)
                      (first | exact ⟨g0, g1, e0, e1, e2, e3, B9⟩ | exact ⟨g0, g1, e0, e1, e2, e3, below_drew B9⟩ | exact keepW hBa z26 z9 (by assumption) (by assumption) | exact keepW hBa z26 z9 (by assumption) ((Below.refl _ _).alloc (Nat.le_refl _) _) | assumption | exact keepW hBa z26 z9 (by assumption) (below_drew (Below.refl _ _)) | go_keep)
                      (first
                        | (go_at_call 47; refine (HSR.out _ (by first | exact B9 | exact below_drew B9 | assumption)).mono ?_; rintro e w' ⟨rfl, hbx⟩)
                        | (go_at_call 67; refine (lawSane _ _ _ r2 r4 r3).mono ?_; rintro e w' ⟨rfl, hbx⟩)
                        | (go_at_call 68; refine (HAD.out _).mono ?_; rintro e w' ⟨rfl, hbx⟩)
                        | (go_at_call 22; refine (awake6 _ (hT.below (tw B3 (by first | exact And.right (And.right (And.right (And.right (And.right (And.right (by assumption)))))) | assumption)))).mono ?_; rintro e w' ⟨rfl, hbx⟩))
                    all_goals
                      rename_i hH
                      obtain ⟨-, -, -, -, -, -, hb6⟩ := hH
                      go_wp2_with fail
                      go_ret
                      exact ⟨rfl, tw B3 hb6⟩
end Go.Proofs.YtlkeejhaodedmaaGreatDoor

/- The law HangJoins: wrong arguments, and ropes with an error. -/
namespace Go.Proofs.YtlkeejhaodedmaaGreatDoor
open Go.RowKit

set_option maxHeartbeats 8000000 in
set_option maxRecDepth 100000 in
theorem lawJoinsBad (A : Option Addr) (c : Nat) (l : List Sec) (b K : Int) (w : World) (hT : Tab w) (hA : OKV Sec.c 3 w A c l) (hbad : ¬ (secsE l = 0 ∧ rngH b 1 100 = 0)) :
    Calls Tryz.prog 11 #[.slice A l.length c, .int .i64 b, .int .u8 K] w fun e w' => e = .returned (.bool true) ∧ Below w.heap.size w w' := by
  have HA := Lib.hid hA
  have HSH := fun w h => rfShortSections A c l w h
  have HBAD := Lib.hid hbad
  clear hA hbad
  go_enter Tryz.func11, Tryz.ntmps11
  go_wp2_with fail
  refine (HSH _ HA.out).mono ?_
  rintro e w2 ⟨p, rfl, hp, rfl⟩
  cases p
  · go_wp2_with fail
    refine (awake6 _ hT).mono ?_
    rintro e w20 ⟨rfl, hb20⟩
    go_wp2
    go_ret
    exact ⟨rfl, hb20⟩
  · have hl : l.length ≤ 33 := hp rfl
    have HCS := fun w h => rfCheckSections A c l w (by omega) h
    obtain ⟨E1, hE1⟩ : ∃ x, secsE l = x := ⟨_, rfl⟩
    rw [hE1] at HCS HBAD
    clear hp HSH hl hE1
    go_wp2_with fail
    refine (HCS _ HA.out).mono ?_
    rintro e w3 ⟨rfl, B3⟩
    by_cases h1 : E1 = 0
    · subst h1
      obtain ⟨E2, hE2⟩ : ∃ x, rngH b 1 100 = x := ⟨_, rfl⟩
      have HE2 := Lib.hid hE2
      have h2 : E2 ≠ 0 := fun h => HBAD.out ⟨rfl, by rw [hE2, h]⟩
      have h3 : (E2 != 0) = true := by rw [bne_iff_ne]; exact h2
      clear hE2
      go_wp2_with fail
      refine (rfCheckRange _ _ _ _).mono ?_
      rintro e w4 ⟨rfl, rfl⟩
      rw [HE2.out]
      go_wp2_with fail
      refine (awake6 _ (hT.below B3)).mono ?_
      rintro e w20 ⟨rfl, hb20⟩
      go_wp2
      go_ret
      exact ⟨rfl, tw B3 hb20⟩
    · have h3 : (E1 != 0) = true := by rw [bne_iff_ne]; exact h1
      go_wp2_with fail
      refine (awake6 _ (hT.below B3)).mono ?_
      rintro e w20 ⟨rfl, hb20⟩
      go_wp2
      go_ret
      exact ⟨rfl, tw B3 hb20⟩
set_option maxHeartbeats 8000000 in
set_option maxRecDepth 100000 in
theorem lawJoinsLarge (A : Option Addr) (c : Nat) (l : List Sec) (b K E2 : Int) (w : World) (hT : Tab w) (hA : OKV Sec.c 3 w A c l) (h1 : secsE l = 0) (h2 : rngH b 1 100 = 0) (h3 : marE l b = 4) (h4 : ropeE l b = E2) (h5 : E2 = 0 ∨ E2 = 4) :
    Calls Tryz.prog 11 #[.slice A l.length c, .int .i64 b, .int .u8 K] w fun e w' => e = .returned (.bool true) ∧ Below w.heap.size w w' := by
  have HA := Lib.hid hA
  have HSH := fun w h => rfShortSections A c l w h
  have hl : l.length ≤ 33 := by have := (secsE_zero h1).2.1; omega
  have HCS := fun w h => rfCheckSections A c l w (by omega) h
  rw [h1] at HCS
  have HCV := fun w h => law_sections A c l w (by omega) h
  have HM := fun A c w h => hgMarks A c l b w (by omega) h
  rw [h3, ozLE (by decide)] at HM
  have HR := fun A c w h => hgRope A c l b w (by omega) h
  rw [h4] at HR
  have H2 := Lib.hid h2
  generalize oz E2 (qn (ropS l b) 2329089562800 : Nat) = u at HR
  generalize oz E2 (qd (ropS l b) 2329089562800 : Nat) = v at HR
  clear hA h1 h2 h3 h4 hl
  go_enter Tryz.func11, Tryz.ntmps11
  go_wp2_with fail
  refine (HSH _ HA.out).mono ?_
  rintro e w2 ⟨p, rfl, hp, rfl⟩
  cases p
  · go_wp2_with fail
    refine (awake6 _ hT).mono ?_
    rintro e w20 ⟨rfl, hb20⟩
    go_wp2
    go_ret
    exact ⟨rfl, hb20⟩
  · clear hp HSH
    go_wp2_with fail
    refine (HCS _ HA.out).mono ?_
    rintro e w3 ⟨rfl, B3⟩
    go_wp2_with fail
    refine (rfCheckRange _ _ _ _).mono ?_
    rintro e w4 ⟨rfl, rfl⟩
    rw [H2.out]
    go_wp2_with fail
    refine (HCV _ (OKV.below HA.out B3)).mono ?_
    rintro e w5 ⟨a5, c5, rfl, h5', hb5⟩
    have H5 := Lib.hid h5'
    replace B3 := tw B3 hb5
    clear h5' hb5
    go_wp2_with fail
    refine (HM _ _ _ H5.out).mono ?_
    rintro e w6 ⟨a7, c7, rfl, h7, hb6⟩
    replace B3 := tw B3 hb6
    clear h7 hb6 H5
    go_wp2_with fail
    refine (HCV _ (OKV.below HA.out B3)).mono ?_
    rintro e w8 ⟨a8, c8, rfl, h8, hb8⟩
    have H8 := Lib.hid h8
    replace B3 := tw B3 hb8
    clear h8 hb8
    go_wp2_with fail
    refine (HR _ _ _ H8.out).mono ?_
    rintro e w9 ⟨rfl, hb9⟩
    obtain ⟨w10, hw10, k9, hb10, hz10⟩ := boxS w9 (.cells #[.int .i64 u, .int .i64 v] 23)
    replace B3 := tw (tw B3 hb9) hb10
    clear hb9 hb10 H8 HCV HCS HM HR k9
    rcases h5 with rfl | rfl
    · go_wp2_with fail
      refine (awake6 _ (hT.below B3)).mono ?_
      rintro e w20 ⟨rfl, hb20⟩
      go_wp2
      go_ret
      exact ⟨rfl, tw B3 hb20⟩
    · go_wp2_with fail
      refine (awake6 _ (hT.below B3)).mono ?_
      rintro e w20 ⟨rfl, hb20⟩
      go_wp2
      go_ret
      exact ⟨rfl, tw B3 hb20⟩
theorem lawHangJoins (A : Option Addr) (c : Nat) (l : List Sec) (b K : Int) (w : World) (hT : Tab w) (hA : OKV Sec.c 3 w A c l) (k1 : 0 ≤ K) (k2 : K < 256) :
    Calls Tryz.prog 11 #[.slice A l.length c, .int .i64 b, .int .u8 K] w fun e w' => e = .returned (.bool true) ∧ Below w.heap.size w w' := by
  by_cases hv : secsE l = 0 ∧ rngH b 1 100 = 0
  · obtain ⟨h1, h2⟩ := hv
    have hz : ropE l b = 0 := by unfold ropE; rw [h1, h2]; rfl
    by_cases hm : marE l b = 0
    · obtain ⟨B, rfl, hJ⟩ := jn_of h1 h2 hm
      obtain ⟨k, rfl⟩ : ∃ k : Nat, K = (k : Int) := ⟨K.toNat, by omega⟩
      exact lawJoinsN A c l B k w hT hA hJ (by omega)
    · have h4 : marE l b = 4 := by
        rw [marE, if_pos hz] at hm ⊢
        split
        · rfl
        · rename_i h
          rw [if_neg h] at hm
          exact absurd rfl hm
      refine lawJoinsLarge A c l b K _ w hT hA h1 h2 h4 rfl ?_
      rw [ropeE, if_pos hz]
      split
      · exact Or.inr rfl
      · exact Or.inl rfl
  · exact lawJoinsBad A c l b K w hT hA hv
end Go.Proofs.YtlkeejhaodedmaaGreatDoor

/- Lists of the small structs of chapter 6 as arguments. -/
namespace Go.Proofs.YtlkeejhaodedmaaGreatDoor
open Go.ChangeShapes Go.WideShapes Go.ChangeAt Go.WideMaps Go.WideElems Go.RowKit Go.Deep

section
variable {H : Type} {enc : TypeId × Value → H} {w : World} {spare : Nat → Bool} {held : Bool}
set_option maxRecDepth 100000 in
/-- The argument is nil, or a slice that reads as a list. -/
theorem open_rows {α : Type} {cd : α → List Value} {k : Nat} (dflt : α) (hk0 : 0 < k) (hlen : ∀ a, (cd a).length = k) {S T : TypeId} (hS : Tryz.prog.underlying S = some (.slice T)) (hC : Tryz.prog.cellsOf T = k)
    (hcell : ∀ (n : Nat) (cs : List Value) (x : DataW H × List MemPlace), DataW.trod enc Tryz.prog w 0 spare held n T cs = some x → ∃ a, cs = cd a)
    {v : Value} {d : DataW H} {p : List MemPlace} {r : Reach} {b0 : Nat} (hv : Value.okWide Tryz.prog w r b0 S v) (h : DataW.Trod enc Tryz.prog w 0 spare held S v d p) :
    ∃ (A : Option Addr) (c : Nat) (l : List α), v = .slice A l.length c ∧ OKV cd k w A c l := by
  obtain ⟨a, len, cap, rfl⟩ := okWide_slice hS hv
  obtain ⟨fuel, hf⟩ := h
  rcases open_slice hS hf with ⟨hcs, _⟩ | ⟨a', len', cap', m, n, D, Pl, hcs, hb, hl, hm, hmm, hx, hi⟩
  · simp [Value.cells] at hcs
    obtain ⟨rfl, rfl, rfl⟩ := hcs
    exact ⟨none, 0, [], rfl, Nat.le_refl _, by unfold maxLen; omega, fun _ => rfl, RV.nil _ _ _⟩
  · simp [Value.cells] at hcs
    obtain ⟨rfl, rfl, rfl⟩ := hcs
    rw [hC] at hi hx
    have hle : len ≤ m := by rw [hmm]; split <;> omega
    have each : ∀ i, ∃ b : α, i < len → ∀ j, j < k → w.cell? ((a'.add (i * k)).add j) = (cd b)[j]? := fun i => by
      by_cases hi' : i < len
      · obtain ⟨cs', h1, h2⟩ := hi i (by omega)
        obtain ⟨b, rfl⟩ := hcell _ _ _ h2
        obtain ⟨_, _, h3⟩ := World.cells?_some h1
        exact ⟨b, fun _ => h3⟩
      · exact ⟨dflt, fun h => absurd h hi'⟩
    obtain ⟨f, hf'⟩ := Classical.axiomOfChoice each
    have hlenL : ((List.range len).map f).length = len := by simp
    refine ⟨some a', cap, (List.range len).map f, by rw [hlenL], by rw [hlenL]; exact hl, hm, (fun h => by cases h), fun hpos => ?_⟩
    rw [hlenL] at hpos
    obtain ⟨blk, off, spot⟩ := a'
    have h0 := hf' 0 hpos 0 hk0
    obtain ⟨u0, hu0⟩ : ∃ u, (cd (f 0))[0]? = some u := ⟨_, List.getElem?_eq_getElem (by rw [hlen]; exact hk0)⟩
    rw [hu0] at h0
    have hspot : spot = none := by
      cases spot with
      | none => rfl
      | some s =>
        simp [Addr.add, World.cell?] at h0
        split at h0 <;> simp at h0
    subst hspot
    have hadd : ∀ o j, (⟨blk, o, none⟩ : Addr).add j = ⟨blk, o + j, none⟩ := fun o j => by
      unfold Addr.add
      split
      · simp
      · rfl
    have hblk : blk < w.heap.size := by
      rw [hadd, hadd] at h0
      unfold World.cell? at h0
      cases hh : w.heap[blk]? with
      | none => simp [hh] at h0
      | some o => exact (Array.getElem?_eq_some_iff.1 hh).1
    refine ⟨blk, off, rfl, hblk, fun i hi' j u hu => ?_⟩
    rw [hlenL] at hi'
    have hg : ((List.range len).map f)[i]'(by simpa using hi') = f i := by simp
    rw [hg] at hu
    have hj : j < k := by rw [← hlen (f i)]; exact (List.getElem?_eq_some_iff.1 hu).1
    have h3 := hf' i hi' j hj
    rw [hadd, hadd, hu] at h3
    exact h3
set_option maxRecDepth 100000 in
theorem rat_cells {n : Nat} {cs : List Value} {x : DataW H × List MemPlace} (h : DataW.trod enc Tryz.prog w 0 spare held n 23 cs = some x) : ∃ a b, cs = [.int .i64 a, .int .i64 b] := by
  have hS : Tryz.prog.underlying 23 = some (.struct (Tryz.prog.fieldsOf 23)) := by kernel_rfl
  obtain ⟨xs, m, _, _, hl, hx, hf⟩ := DataW.trod_struct Tryz.underlying23 h
  have hC : Tryz.prog.cellsOf 23 = 2 := by kernel_rfl
  have c3 : Tryz.prog.cellsOf 3 = 1 := by kernel_rfl
  rw [hC] at hl
  match cs, hl, xs, hx with
  | [c0, c1], _, [x0, x1], _ =>
    have h0 := hf 0 _ rfl
    have h1 := hf 1 _ rfl
    simp [c3] at h0 h1
    obtain ⟨n0, e0, _⟩ := DataW.trod_int Tryz.underlying3 h0
    obtain ⟨n1, e1, _⟩ := DataW.trod_int Tryz.underlying3 h1
    simp only [List.cons.injEq, and_true] at e0 e1
    exact ⟨n0, n1, by rw [e0, e1]⟩
set_option maxRecDepth 100000 in
theorem sec_cells (n : Nat) (cs : List Value) (x : DataW H × List MemPlace) (h : DataW.trod enc Tryz.prog w 0 spare held n 112 cs = some x) : ∃ a : Sec, cs = a.c := by
  obtain ⟨xs, m, _, _, hl, hx, hf⟩ := DataW.trod_struct Tryz.underlying112 h
  have hC : Tryz.prog.cellsOf 112 = 3 := by kernel_rfl
  have c3 : Tryz.prog.cellsOf 3 = 1 := by kernel_rfl
  have c4 : Tryz.prog.cellsOf 23 = 2 := by kernel_rfl
  rw [hC] at hl
  match cs, hl, xs, hx with
  | [c0, c1, c2], _, [x0, x1], _ =>
    have h0 := hf 0 _ rfl
    have h1 := hf 1 _ rfl
    simp [c3, c4] at h0 h1
    obtain ⟨n0, e0, _⟩ := DataW.trod_int Tryz.underlying3 h0
    obtain ⟨n1, n2, e1⟩ := rat_cells h1
    simp only [List.cons.injEq, and_true] at e0 e1
    exact ⟨⟨n0, n1, n2⟩, by rw [e0, e1.1, e1.2]; rfl⟩
set_option maxRecDepth 100000 in
theorem twn_cells (n : Nat) (cs : List Value) (x : DataW H × List MemPlace) (h : DataW.trod enc Tryz.prog w 0 spare held n 121 cs = some x) : ∃ a : Twn, cs = a.c := by
  obtain ⟨xs, m, _, _, hl, hx, hf⟩ := DataW.trod_struct Tryz.underlying121 h
  have hC : Tryz.prog.cellsOf 121 = 3 := by kernel_rfl
  have c3 : Tryz.prog.cellsOf 3 = 1 := by kernel_rfl
  have c4 : Tryz.prog.cellsOf 9 = 1 := by kernel_rfl
  rw [hC] at hl
  match cs, hl, xs, hx with
  | [c0, c1, c2], _, [x0, x1, x2], _ =>
    have h0 := hf 0 _ rfl
    have h1 := hf 1 _ rfl
    have h2 := hf 2 _ rfl
    simp [c3, c4] at h0 h1 h2
    obtain ⟨n0, e0, _⟩ := DataW.trod_string Tryz.underlying9 h0
    obtain ⟨n1, e1, _⟩ := DataW.trod_int Tryz.underlying3 h1
    obtain ⟨n2, e2, _⟩ := DataW.trod_int Tryz.underlying3 h2
    simp only [List.cons.injEq, and_true] at e0 e1 e2
    exact ⟨⟨n0, n1, n2⟩, by rw [e0, e1, e2]; rfl⟩
set_option maxRecDepth 100000 in
theorem lin_cells (n : Nat) (cs : List Value) (x : DataW H × List MemPlace) (h : DataW.trod enc Tryz.prog w 0 spare held n 119 cs = some x) : ∃ a : Lin, cs = a.c := by
  obtain ⟨xs, m, _, _, hl, hx, hf⟩ := DataW.trod_struct Tryz.underlying119 h
  have hC : Tryz.prog.cellsOf 119 = 4 := by kernel_rfl
  have c3 : Tryz.prog.cellsOf 3 = 1 := by kernel_rfl
  have c4 : Tryz.prog.cellsOf 9 = 1 := by kernel_rfl
  rw [hC] at hl
  match cs, hl, xs, hx with
  | [c0, c1, c2, c3'], _, [x0, x1, x2, x3], _ =>
    have h0 := hf 0 _ rfl
    have h1 := hf 1 _ rfl
    have h2 := hf 2 _ rfl
    have h3 := hf 3 _ rfl
    simp [c3, c4] at h0 h1 h2 h3
    obtain ⟨n0, e0, _⟩ := DataW.trod_int Tryz.underlying3 h0
    obtain ⟨n1, e1, _⟩ := DataW.trod_int Tryz.underlying3 h1
    obtain ⟨n2, e2, _⟩ := DataW.trod_int Tryz.underlying3 h2
    obtain ⟨n3, e3, _⟩ := DataW.trod_string Tryz.underlying9 h3
    simp only [List.cons.injEq, and_true] at e0 e1 e2 e3
    exact ⟨⟨n0, n1, n2, n3⟩, by rw [e0, e1, e2, e3]; rfl⟩
end
set_option maxRecDepth 100000 in
theorem open_secs {H : Type} {enc : TypeId × Value → H} {w : World} {spare : Nat → Bool} {held : Bool} {v : Value} {d : DataW H} {p : List MemPlace} {r : Reach} {b0 : Nat} (hv : Value.okWide Tryz.prog w r b0 60 v) (h : DataW.Trod enc Tryz.prog w 0 spare held 60 v d p) :
    ∃ (A : Option Addr) (c : Nat) (l : List Sec), v = .slice A l.length c ∧ OKV Sec.c 3 w A c l :=
  open_rows ⟨0, 0, 0⟩ (by decide) Sec.c3 Tryz.underlying60 (by kernel_rfl) sec_cells hv h
set_option maxRecDepth 100000 in
theorem open_twns {H : Type} {enc : TypeId × Value → H} {w : World} {spare : Nat → Bool} {held : Bool} {v : Value} {d : DataW H} {p : List MemPlace} {r : Reach} {b0 : Nat} (hv : Value.okWide Tryz.prog w r b0 78 v) (h : DataW.Trod enc Tryz.prog w 0 spare held 78 v d p) :
    ∃ (A : Option Addr) (c : Nat) (l : List Twn), v = .slice A l.length c ∧ OKV Twn.c 3 w A c l :=
  open_rows ⟨⟨#[]⟩, 0, 0⟩ (by decide) Twn.c3 Tryz.underlying78 (by kernel_rfl) twn_cells hv h
set_option maxRecDepth 100000 in
theorem open_lins {H : Type} {enc : TypeId × Value → H} {w : World} {spare : Nat → Bool} {held : Bool} {v : Value} {d : DataW H} {p : List MemPlace} {r : Reach} {b0 : Nat} (hv : Value.okWide Tryz.prog w r b0 94 v) (h : DataW.Trod enc Tryz.prog w 0 spare held 94 v d p) :
    ∃ (A : Option Addr) (c : Nat) (l : List Lin), v = .slice A l.length c ∧ OKV Lin.c 4 w A c l :=
  open_rows ⟨0, 0, 0, ⟨#[]⟩⟩ (by decide) Lin.c4 Tryz.underlying94 (by kernel_rfl) lin_cells hv h
end Go.Proofs.YtlkeejhaodedmaaGreatDoor

/- Bytes as arguments. -/
namespace Go.Proofs.YtlkeejhaodedmaaGreatDoor
open Go.ChangeShapes Go.WideShapes Go.ChangeAt Go.WideMaps Go.WideElems Go.RowKit

set_option maxRecDepth 100000 in
theorem open_u8 {w : World} {r : Reach} {b0 : Nat} {v : Value} (h : Value.okWide Tryz.prog w r b0 5 v) : ∃ n, v = .int .u8 n ∧ 0 ≤ n ∧ n < 256 := by
  have hS := Tryz.underlying5
  simp only [Value.okWide, hS] at h
  obtain ⟨n, rfl, hb⟩ := cell_intT hS h
  simp only [IntKind.has, IntKind.min, IntKind.max, IntKind.signed, IntKind.bits] at hb
  refine ⟨n, rfl, ?_, ?_⟩ <;> simp at hb <;> omega
end Go.Proofs.YtlkeejhaodedmaaGreatDoor

namespace Go.Proofs.YtlkeejhaodedmaaGreatDoor
open Go.ChangeShapes Go.WideShapes Go.ChangeAt Go.WideMaps Go.WideElems Go.RowKit

set_option maxRecDepth 100000 in
theorem joins_lifted (os : Os) (started : os.Started) (H : Type) (enc : TypeId × Value → H) :
    ReturnsInHanded {} Tryz.checked os 11 .any (fun w args => (Rows.hangJoinsSpec.pre enc Tryz.prog Tryz.f11 [] false w args ∧ laidMetH Tryz.prog haLaid w) ∧ sizedMet enc Tryz.prog Tryz.f11 (OpenSpec.ofChange Rows.hangJoinsSpec) false w args)
      (Rows.hangJoinsSpec.post enc Tryz.prog Tryz.f11 false true false false) := by
  refine returnsInHanded_of_change_and (C := Tryz.checked) (X := fun w _ => laidMetH Tryz.prog haLaid w) (fun _ _ _ hh h => h.of_heap hh) Tryz.ownT started (by kernel_rfl) Tryz.func11
    (ChangeSpec.witness_shaped (enc := enc) (C := Tryz.checked) (os := os) (X := fun w _ => laidMetH Tryz.prog haLaid w) false (World.laidAll Tryz.prog os haLaid) #[.slice none 0 0, .int .i64 0, .int .u8 0] 8 (World.laidAll_os _ _ _) (World.shaped_of_ZipB (by kernel_rfl) (by kernel_rfl)) (by kernel_rfl) (by kernel_rfl) (by kernel_rfl) (door_met os _)) ?_
  intro W base args ds gs before hval0 hW _ _ hL _
  have hval : ∀ (j : Nat) t v, Tryz.f11.params[j]? = some t → args[j]? = some v → Value.okWide Tryz.prog W .any base t v := hval0
  have hW' := hW
  obtain ⟨p, q, hA0, hV, rfl, hfz, hnd⟩ := hW
  have hA : DataW.TrodAll enc Tryz.prog W 0 (fun _ => true) true Tryz.f11.params.toList args.toList ds p := hA0
  rw [Tryz.params11] at hA hval
  obtain ⟨v0, v1, v2, d0, d1, d2, p0, p1, p2, rfl, rfl, rfl, h0, h1, h2⟩ := trodAll_three hA
  obtain ⟨rfl, rfl⟩ := trodVars_none hV
  clear hA0 hval0
  simp only [List.append_nil] at hW'
  have hlt : ∀ x ∈ p0 ++ p1 ++ p2, x.block < W.heap.size := fun x hx => by simpa using hW'.lt x hx
  obtain ⟨A0, c0, l0, rfl, ok0⟩ := open_secs (hval 0 60 v0 rfl rfl) h0
  obtain ⟨z10, rfl⟩ := open_intv (hval 1 3 v1 rfl rfl)
  obtain ⟨z20, rfl, y20, y21⟩ := open_u8 (hval 2 5 v2 rfl rfl)
  have harg0 : ∀ (W' : World), Below W.heap.size W W' → DataW.Trod enc Tryz.prog W' 0 (fun b => decide (b < W.heap.size)) true 60 (.slice A0 l0.length c0) d0 p0 :=
    fun W' hn => Below.trod Tryz.laidOutT (by kernel_rfl) (of_decide_eq_true (by kernel_rfl)) h0 hn (fun x hx => hlt x (List.mem_append_left _ (List.mem_append_left _ hx)))
  have harg1 : ∀ (W' : World), Below W.heap.size W W' → DataW.Trod enc Tryz.prog W' 0 (fun b => decide (b < W.heap.size)) true 3 (.int .i64 z10) d1 p1 :=
    fun W' hn => Below.trod Tryz.laidOutT (by kernel_rfl) (of_decide_eq_true (by kernel_rfl)) h1 hn (fun x hx => hlt x (List.mem_append_left _ (List.mem_append_right _ hx)))
  have harg2 : ∀ (W' : World), Below W.heap.size W W' → DataW.Trod enc Tryz.prog W' 0 (fun b => decide (b < W.heap.size)) true 5 (.int .u8 z20) d2 p2 :=
    fun W' hn => Below.trod Tryz.laidOutT (by kernel_rfl) (of_decide_eq_true (by kernel_rfl)) h2 hn (fun x hx => hlt x (List.mem_append_right _ hx))
  refine (lawHangJoins A0 c0 l0 z10 z20 W (tab_met hL) ok0 y20 y21).mono fun e W' ⟨he, hb⟩ => ?_
  subst he
  refine ⟨_, rfl, _, _, _, [], p0 ++ p1 ++ p2, [], hW', ?_, by rw [List.append_assoc]; exact trodAll_mk3 (harg0 W' hb) (harg1 W' hb) (harg2 W' hb), rfl, hb.frame _, fun h => by cases h⟩
  exact trodAll_mk1 (shut_bool Tryz.underlying4 true)
set_option maxHeartbeats 8000000 in
theorem joins_joined : joinedFacts Tryz.prog 11 Tryz.f11 Rows.hangJoinsSpec Rows.hangJoinsRow = true := by
  unfold joinedFacts
  simp only [Bool.and_eq_true]
  and_intros
  all_goals (as_aux_lemma => kernel_rfl)
theorem joins_holds : Rows.HangJoinsSaid :=
  OpenClaim.holds_of_wide 11 Tryz.f11 rfl rfl rfl rfl rfl rfl rfl ⟨rfl, rfl, rfl, rfl, rfl⟩ rfl rfl rfl rfl rfl (by kernel_rfl) Tryz.func11 joins_joined
    (of_decide_eq_true (by kernel_rfl)) (by unfold Func.isWrapper; first | (rw [if_pos (by decide +kernel)]; kernel_rfl) | (rw [if_neg (by decide +kernel)]; exact ⟨rfl, rfl⟩))
    (fun os started H enc _ => joins_lifted os started H enc)
theorem joins_card : Rows.HangJoinsCardSaid :=
  Claim7.holds_tied_plain_at .later [] [.data] true (true, "bb9c8a1f3b87a99a73053614bf73ec5a74d01f458fba8a9eee33de806b476934") false
    joins_holds (fun _ h => by cases h) (by kernel_rfl) (fun _ h => by cases h) hangJoins_row_tie rfl ⟨rfl, rfl⟩ (by kernel_rfl) rfl
    (fun f fn hf hfn => by
      obtain rfl : f = 11 := Option.some.inj ((show Tryz.prog.funcNamed "codend/codendlaw06.HangJoins" = some 11 by kernel_rfl).symm.trans hf) |>.symm
      obtain rfl : fn = Tryz.f11 := (Option.some.inj (Tryz.func11.symm.trans hfn)).symm
      exact ⟨by kernel_rfl, fun j t ht => by
        rw [Tryz.params11] at ht
        have hm : t ∈ [60, 3, 5] := by simpa using Array.mem_of_getElem? ht
        have hall : ([60, 3, 5].all fun u => !Tryz.prog.wantsStandIn u) = true := by kernel_rfl
        exact (show Tryz.prog.wantsStandIn t = false by simpa using List.all_eq_true.1 hall t hm)⟩)
    (by kernel_rfl)
#print axioms joins_card
end Go.Proofs.YtlkeejhaodedmaaGreatDoor
