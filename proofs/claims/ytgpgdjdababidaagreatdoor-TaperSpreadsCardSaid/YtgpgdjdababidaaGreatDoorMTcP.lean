/- TaperSpreads returns true for every two mixtures; the library's tables that its row lists are tied to the program's text. Conditions: none beside that. -/
import Derived.Test.YtgpgdjdababidaaGreatDoorM5
/- The walk of TaperSpreads. -/
namespace Go.Proofs.YtgpgdjdababidaaGreatDoor
open Go.RowKit Go.Shelf Ck

theorem four_at {W : World} {b : Nat} {a c d e : Value} {t : TypeId} (h : W.heap[b]? = some (.cells #[a, c, d, e] t (0, 0))) : W.cell? ⟨b, 0, none⟩ = some a ∧ W.cell? ⟨b, 1, none⟩ = some c ∧ W.cell? ⟨b, 2, none⟩ = some d ∧ W.cell? ⟨b, 3, none⟩ = some e := (four_cell h).1
theorem keep8 {W w1 w2 : World} {g h : Nat} {a b c d a' b' c' d' : Value}
    (hh : (w1.cell? ⟨g, 0, none⟩ = some a ∧ w1.cell? ⟨g, 1, none⟩ = some b ∧ w1.cell? ⟨g, 2, none⟩ = some c ∧ w1.cell? ⟨g, 3, none⟩ = some d) ∧ (w1.cell? ⟨h, 0, none⟩ = some a' ∧ w1.cell? ⟨h, 1, none⟩ = some b' ∧ w1.cell? ⟨h, 2, none⟩ = some c' ∧ w1.cell? ⟨h, 3, none⟩ = some d') ∧ (g < w1.heap.size ∧ h < w1.heap.size) ∧ Below W.heap.size W w1)
    (hb : Below w1.heap.size w1 w2) : (w2.cell? ⟨g, 0, none⟩ = some a ∧ w2.cell? ⟨g, 1, none⟩ = some b ∧ w2.cell? ⟨g, 2, none⟩ = some c ∧ w2.cell? ⟨g, 3, none⟩ = some d) ∧ (w2.cell? ⟨h, 0, none⟩ = some a' ∧ w2.cell? ⟨h, 1, none⟩ = some b' ∧ w2.cell? ⟨h, 2, none⟩ = some c' ∧ w2.cell? ⟨h, 3, none⟩ = some d') ∧ (g < w2.heap.size ∧ h < w2.heap.size) ∧ Below W.heap.size W w2 := by
  obtain ⟨⟨a0, a1, a2, a3⟩, ⟨b0, b1, b2, b3⟩, ⟨d0, d1⟩, e⟩ := hh
  have hz := hb.size
  exact ⟨⟨(hb.cell (p := ⟨g, 0, none⟩) d0).trans a0, (hb.cell (p := ⟨g, 1, none⟩) d0).trans a1, (hb.cell (p := ⟨g, 2, none⟩) d0).trans a2, (hb.cell (p := ⟨g, 3, none⟩) d0).trans a3⟩, ⟨(hb.cell (p := ⟨h, 0, none⟩) d1).trans b0, (hb.cell (p := ⟨h, 1, none⟩) d1).trans b1, (hb.cell (p := ⟨h, 2, none⟩) d1).trans b2, (hb.cell (p := ⟨h, 3, none⟩) d1).trans b3⟩, ⟨by omega, by omega⟩, e.trans (hb.mono e.size)⟩
theorem spr_none {v u : ByteArray} {m n : Int} (h : sprE v m u n ≠ 0) : sprS v m u n = ⟨#[]⟩ := by
  unfold sprE at h
  unfold sprS
  split
  · rename_i h0
    rw [if_pos h0] at h
    split
    · rfl
    · rename_i h1
      rw [if_neg h1] at h
      rw [spwS, if_neg h]
  · rfl
theorem spr_some {v u : ByteArray} {m n : Int} (h : sprE v m u n = 0) : ∃ M N : Nat, m = M ∧ n = N ∧ M ≤ 64 ∧ N ≤ 64 ∧ sprS v m u n = strA (spreadL v.data.toList M u.data.toList N (M + N)) := by
  unfold sprE at h
  split at h
  · rename_i h0
    obtain ⟨_, hm, _, hn⟩ := first4_zero h0
    obtain ⟨m1, m2⟩ := rngE_zero hm
    obtain ⟨n1, n2⟩ := rngE_zero hn
    split at h
    · cases h
    · rename_i h1
      exact ⟨m.toNat, n.toNat, by omega, by omega, by omega, by omega, by rw [sprS, if_pos h0, if_neg h1, spwS, if_pos h]; rfl⟩
  · rename_i h0; exact absurd h h0
theorem mix_none {v u : ByteArray} {m n : Int} (h : mixE v m u n ≠ 0) : mixS v m u n = ⟨#[]⟩ := by
  unfold mixE at h
  unfold mixS
  split
  · rename_i h0
    rw [if_pos h0] at h
    rw [spwS, if_neg h]
  · rfl
theorem mix_some {v u : ByteArray} {m n : Int} (h : mixE v m u n = 0) : ∃ M N : Nat, m = M ∧ n = N ∧ M ≤ 64 ∧ N ≤ 64 ∧ mixS v m u n = strA (spreadL v.data.toList M u.data.toList N (M + N)) := by
  unfold mixE at h
  split at h
  · rename_i h0
    obtain ⟨_, hm, _, hn⟩ := first4_zero h0
    obtain ⟨m1, m2⟩ := rngE_zero hm
    obtain ⟨n1, n2⟩ := rngE_zero hn
    exact ⟨m.toNat, n.toNat, by omega, by omega, by omega, by omega, by rw [mixS, if_pos h0, spwS, if_pos h]; rfl⟩
  · rename_i h0; exact absurd h h0
/-- The reference's Mix where the program's result is known. -/
theorem rfMixI (v u S : ByteArray) (m n : Int) (w : World) (hv : v.size ≤ 100) (hu : u.size ≤ 100) (h : ∃ M N : Nat, m = M ∧ n = N ∧ M ≤ 64 ∧ N ≤ 64 ∧ S = strA (spreadL v.data.toList M u.data.toList N (M + N))) :
    Calls Tryz.prog 46 #[.string v, .int .i64 m, .string u, .int .i64 n] w fun e w' => e = .returned (.string S) ∧ Below w.heap.size w w' := by
  obtain ⟨M, N, rfl, rfl, h1, h2, rfl⟩ := h
  exact rfMix v u M N w hv hu (by omega) (by omega)
set_option maxHeartbeats 4000000 in
set_option maxRecDepth 100000 in
theorem lawSpreadsMain (a b c d : ByteArray) (m n p q : Int) (w : World) (h1 : a.size ≤ 70) (h2 : b.size ≤ 70) (h3 : c.size ≤ 70) (h4 : d.size ≤ 70) :
    Calls Tryz.prog 6 #[.agg #[.string a, .int .i64 m, .string b, .int .i64 n], .agg #[.string c, .int .i64 p, .string d, .int .i64 q]] w fun e w' => e = .returned (.bool true) ∧ Below w.heap.size w w' := by
  obtain ⟨w1, hw1, k0, k1, hb1, hz1⟩ : ∃ w1, w1 = (w.alloc (.cells #[.string a, .int .i64 m, .string b, .int .i64 n] 61)).alloc (.cells #[.string c, .int .i64 p, .string d, .int .i64 q] 61) ∧ w1.heap[w.heap.size]? = some (.cells #[.string a, .int .i64 m, .string b, .int .i64 n] 61 (0, 0)) ∧ w1.heap[w.heap.size + 1]? = some (.cells #[.string c, .int .i64 p, .string d, .int .i64 q] 61 (0, 0)) ∧ Below w.heap.size w w1 ∧ w1.heap.size = w.heap.size + 2 := by
    refine ⟨_, rfl, ?_, ?_, ((Below.refl _ _).alloc (Nat.le_refl _) _).alloc (by simp) _, by simp⟩
    · rw [Below.heap_alloc _ _ _ (by simp)]
      exact heap_alloc_new _ _
    · have := heap_alloc_new (w.alloc (.cells #[.string a, .int .i64 m, .string b, .int .i64 n] 61)) (.cells #[.string c, .int .i64 p, .string d, .int .i64 q] 61)
      rwa [World.size_alloc] at this
  have HW1 := Lib.hid hw1
  have g1 : ¬ (70 : Int) < (a.size : Int) := by omega
  have g2 : ¬ (70 : Int) < (b.size : Int) := by omega
  have g3 : ¬ (70 : Int) < (c.size : Int) := by omega
  have g4 : ¬ (70 : Int) < (d.size : Int) := by omega
  obtain ⟨c0, c1, c2, c3⟩ := four_at k0
  obtain ⟨d0, d1, d2, d3⟩ := four_at k1
  clear hw1
  go_enter Tryz.func6, Tryz.ntmps6
  go_wp2_with fail
  rw [← HW1.out]
  refine (awake2 _).mono ?_
  rintro e w2 ⟨rfl, hb2⟩
  have m0 := (hb2.block _ (Array.getElem?_eq_some_iff.1 k0).1).trans k0
  have m1 := (hb2.block _ (Array.getElem?_eq_some_iff.1 k1).1).trans k1
  have B2 := hb1.trans (hb2.mono hb1.size)
  clear c0 c1 c2 c3 d0 d1 d2 d3 k0 k1 hb1 hb2
  obtain ⟨c0, c1, c2, c3⟩ := four_at m0
  obtain ⟨d0, d1, d2, d3⟩ := four_at m1
  go_wp2_with fail
  refine (tpSpreadAll a b m n _ (by omega) (by omega)).mono ?_
  rintro e w3 ⟨rfl, hb3⟩
  have n0 := (hb3.block _ (Array.getElem?_eq_some_iff.1 m0).1).trans m0
  have n1 := (hb3.block _ (Array.getElem?_eq_some_iff.1 m1).1).trans m1
  have B3 := B2.trans (hb3.mono B2.size)
  clear c0 c1 c2 c3 d0 d1 d2 d3 m0 m1 hb3 B2
  obtain ⟨c0, c1, c2, c3⟩ := four_at n0
  obtain ⟨d0, d1, d2, d3⟩ := four_at n1
  go_wp2_with fail
  refine (tpMix c d p q _ (by omega) (by omega)).mono ?_
  rintro e w4 ⟨rfl, hb4⟩
  have k0 := (hb4.block _ (Array.getElem?_eq_some_iff.1 n0).1).trans n0
  have k1 := (hb4.block _ (Array.getElem?_eq_some_iff.1 n1).1).trans n1
  have B4 := B3.trans (hb4.mono B3.size)
  clear c0 c1 c2 c3 d0 d1 d2 d3 n0 n1 hb4 B3
  obtain ⟨c0, c1, c2, c3⟩ := four_at k0
  obtain ⟨d0, d1, d2, d3⟩ := four_at k1
  have z0 := (Array.getElem?_eq_some_iff.1 k0).1
  have z1 := (Array.getElem?_eq_some_iff.1 k1).1
  clear k0 k1
  go_wp2_with fail
  go_region_held3 (fun w' => (w'.cell? ⟨w.heap.size, 0, none⟩ = some (.string a) ∧ w'.cell? ⟨w.heap.size, 1, none⟩ = some (.int .i64 m) ∧ w'.cell? ⟨w.heap.size, 2, none⟩ = some (.string b) ∧ w'.cell? ⟨w.heap.size, 3, none⟩ = some (.int .i64 n)) ∧ (w'.cell? ⟨w.heap.size + 1, 0, none⟩ = some (.string c) ∧ w'.cell? ⟨w.heap.size + 1, 1, none⟩ = some (.int .i64 p) ∧ w'.cell? ⟨w.heap.size + 1, 2, none⟩ = some (.string d) ∧ w'.cell? ⟨w.heap.size + 1, 3, none⟩ = some (.int .i64 q)) ∧ (w.heap.size < w'.heap.size ∧ w.heap.size + 1 < w'.heap.size) ∧ Below w.heap.size w w')
    (first | exact ⟨⟨c0, c1, c2, c3⟩, ⟨d0, d1, d2, d3⟩, ⟨z0, z1⟩, below_drew B4⟩ | exact keep8 (by assumption) (by assumption) | assumption | go_keep)
    (first
      | (go_at_call 44; refine (rfCheckSpread _ _ _ _ _ (by omega) (by omega)).mono ?_; rintro e w' ⟨rfl, hbq⟩)
      | (go_at_call 45; refine (rfCheckMix _ _ _ _ _ (by omega) (by omega)).mono ?_; rintro e w' ⟨rfl, hbq⟩))
  rename_i hH
  clear c0 c1 c2 c3 d0 d1 d2 d3 z0 z1
  obtain ⟨⟨c0, c1, c2, c3⟩, ⟨d0, d1, d2, d3⟩, ⟨z0, z1⟩, B5⟩ := hH
  have HN1 := Lib.hid (fun h : sprE a m b n ≠ 0 => spr_none h)
  have HY1 := Lib.hid (fun h : sprE a m b n = 0 => spr_some h)
  have HN2 := Lib.hid (fun h : mixE c p d q ≠ 0 => mix_none h)
  have HY2 := Lib.hid (fun h : mixE c p d q = 0 => mix_some h)
  generalize sprE a m b n = E1 at *
  generalize sprS a m b n = S1 at *
  generalize mixE c p d q = E2 at *
  generalize mixS c p d q = S2 at *
  by_cases h1 : E1 = 0
  · subst h1
    by_cases h2 : E2 = 0
    · subst h2
      go_wp2_with fail
      refine (rfMixI a b S1 m n _ (by omega) (by omega) (by first | exact HY1.out rfl | exact HY1.out trivial | exact HY1.out)).mono ?_
      rintro e w5 ⟨rfl, hb5⟩
      have j0 := (hb5.cell (p := ⟨w.heap.size + 1, 0, none⟩) z1).trans d0
      have j1 := (hb5.cell (p := ⟨w.heap.size + 1, 1, none⟩) z1).trans d1
      have j2 := (hb5.cell (p := ⟨w.heap.size + 1, 2, none⟩) z1).trans d2
      have j3 := (hb5.cell (p := ⟨w.heap.size + 1, 3, none⟩) z1).trans d3
      have B6 := B5.trans (hb5.mono B5.size)
      clear d0 d1 d2 d3
      go_wp2_with fail
      refine (rfMixI c d S2 p q _ (by omega) (by omega) (by first | exact HY2.out rfl | exact HY2.out trivial | exact HY2.out)).mono ?_
      rintro e w7 ⟨rfl, hb7⟩
      have B7 := B6.trans (hb7.mono B6.size)
      go_wp2_with fail
      refine (lawText S1 S1 0 _ (fun h => absurd rfl h) (fun _ => rfl)).mono ?_
      rintro e w8 ⟨rfl, rfl⟩
      go_wp2_with fail
      refine (lawText S2 S2 0 _ (fun h => absurd rfl h) (fun _ => rfl)).mono ?_
      rintro e w9 ⟨rfl, rfl⟩
      go_wp2
      go_ret
      exact ⟨rfl, B7⟩
    · have hne := neE h2
      have hnz : (E2 == 0) = false := by rw [beq_eq_false_iff_ne]; exact h2
      have HH2 := Lib.hid h2
      clear h2
      go_wp2_with fail
      refine (rfMixI a b S1 m n _ (by omega) (by omega) (by first | exact HY1.out rfl | exact HY1.out trivial | exact HY1.out)).mono ?_
      rintro e w5 ⟨rfl, hb5⟩
      have B6 := B5.trans (hb5.mono B5.size)
      have h2 := HH2.out
      go_wp2_with fail
      refine (lawText S1 S1 0 _ (fun h => absurd rfl h) (fun _ => rfl)).mono ?_
      rintro e w8 ⟨rfl, rfl⟩
      go_wp2_with fail
      refine (lawText S2 ⟨#[]⟩ E2 _ HN2.out (fun h => absurd h h2)).mono ?_
      rintro e w9 ⟨rfl, rfl⟩
      go_wp2
      go_ret
      exact ⟨rfl, B6⟩
  · have hne1 := neE h1
    have hnz1 : (E1 == 0) = false := by rw [beq_eq_false_iff_ne]; exact h1
    by_cases h2 : E2 = 0
    · subst h2
      go_wp2_with fail
      refine (rfMixI c d S2 p q _ (by omega) (by omega) (by first | exact HY2.out rfl | exact HY2.out trivial | exact HY2.out)).mono ?_
      rintro e w7 ⟨rfl, hb7⟩
      have B7 := B5.trans (hb7.mono B5.size)
      go_wp2_with fail
      refine (lawText S1 ⟨#[]⟩ E1 _ HN1.out (fun h => absurd h h1)).mono ?_
      rintro e w8 ⟨rfl, rfl⟩
      go_wp2_with fail
      refine (lawText S2 S2 0 _ (fun h => absurd rfl h) (fun _ => rfl)).mono ?_
      rintro e w9 ⟨rfl, rfl⟩
      go_wp2
      go_ret
      exact ⟨rfl, B7⟩
    · have hne := neE h2
      have hnz : (E2 == 0) = false := by rw [beq_eq_false_iff_ne]; exact h2
      go_wp2_with fail
      refine (lawText S1 ⟨#[]⟩ E1 _ HN1.out (fun h => absurd h h1)).mono ?_
      rintro e w8 ⟨rfl, rfl⟩
      go_wp2_with fail
      refine (lawText S2 ⟨#[]⟩ E2 _ HN2.out (fun h => absurd h h2)).mono ?_
      rintro e w9 ⟨rfl, rfl⟩
      go_wp2
      go_ret
      exact ⟨rfl, B5⟩
set_option maxHeartbeats 4000000 in
set_option maxRecDepth 100000 in
theorem lawSpreadsBig (a b c d : ByteArray) (m n p q : Int) (w : World) (h : ¬ (a.size ≤ 70 ∧ b.size ≤ 70 ∧ c.size ≤ 70 ∧ d.size ≤ 70)) :
    Calls Tryz.prog 6 #[.agg #[.string a, .int .i64 m, .string b, .int .i64 n], .agg #[.string c, .int .i64 p, .string d, .int .i64 q]] w fun e w' => e = .returned (.bool true) ∧ Below w.heap.size w w' := by
  obtain ⟨w1, hw1, k0, k1, hb1, hz1⟩ : ∃ w1, w1 = (w.alloc (.cells #[.string a, .int .i64 m, .string b, .int .i64 n] 61)).alloc (.cells #[.string c, .int .i64 p, .string d, .int .i64 q] 61) ∧ w1.heap[w.heap.size]? = some (.cells #[.string a, .int .i64 m, .string b, .int .i64 n] 61 (0, 0)) ∧ w1.heap[w.heap.size + 1]? = some (.cells #[.string c, .int .i64 p, .string d, .int .i64 q] 61 (0, 0)) ∧ Below w.heap.size w w1 ∧ w1.heap.size = w.heap.size + 2 := by
    refine ⟨_, rfl, ?_, ?_, ((Below.refl _ _).alloc (Nat.le_refl _) _).alloc (by simp) _, by simp⟩
    · rw [Below.heap_alloc _ _ _ (by simp)]
      exact heap_alloc_new _ _
    · have := heap_alloc_new (w.alloc (.cells #[.string a, .int .i64 m, .string b, .int .i64 n] 61)) (.cells #[.string c, .int .i64 p, .string d, .int .i64 q] 61)
      rwa [World.size_alloc] at this
  have HW1 := Lib.hid hw1
  obtain ⟨c0, c1, c2, c3⟩ := four_at k0
  obtain ⟨d0, d1, d2, d3⟩ := four_at k1
  have z0 := (Array.getElem?_eq_some_iff.1 k0).1
  have z1 := (Array.getElem?_eq_some_iff.1 k1).1
  have HZ := Lib.hid hz1
  clear hw1 hz1
  have hcase : (¬ a.size ≤ 70) ∨ (a.size ≤ 70 ∧ ¬ b.size ≤ 70) ∨ (a.size ≤ 70 ∧ b.size ≤ 70 ∧ ¬ c.size ≤ 70) ∨ (a.size ≤ 70 ∧ b.size ≤ 70 ∧ c.size ≤ 70 ∧ ¬ d.size ≤ 70) := by omega
  clear h
  rcases hcase with h1 | ⟨h1, h2⟩ | ⟨h1, h2, h3⟩ | ⟨h1, h2, h3, h4⟩
  · have ga : (70 : Int) < (a.size : Int) := by omega
    go_enter Tryz.func6, Tryz.ntmps6
    go_wp2_with fail
    rw [← HW1.out]
    refine (awake2 _).mono ?_
    rintro e w2 ⟨rfl, hb2⟩
    have B2 := hb1.trans (hb2.mono hb1.size)
    replace c0 := (hb2.cell (p := ⟨w.heap.size, 0, none⟩) z0).trans c0
    replace c2 := (hb2.cell (p := ⟨w.heap.size, 2, none⟩) z0).trans c2
    replace d0 := (hb2.cell (p := ⟨w.heap.size + 1, 0, none⟩) z1).trans d0
    replace d2 := (hb2.cell (p := ⟨w.heap.size + 1, 2, none⟩) z1).trans d2
    go_wp2_with fail
    refine (awake2 _).mono ?_
    rintro e w3 ⟨rfl, hb3⟩
    go_wp2
    go_ret
    exact ⟨rfl, B2.trans (hb3.mono B2.size)⟩
  · have ga : ¬ (70 : Int) < (a.size : Int) := by omega
    have gb : (70 : Int) < (b.size : Int) := by omega
    go_enter Tryz.func6, Tryz.ntmps6
    go_wp2_with fail
    rw [← HW1.out]
    refine (awake2 _).mono ?_
    rintro e w2 ⟨rfl, hb2⟩
    have B2 := hb1.trans (hb2.mono hb1.size)
    replace c0 := (hb2.cell (p := ⟨w.heap.size, 0, none⟩) z0).trans c0
    replace c2 := (hb2.cell (p := ⟨w.heap.size, 2, none⟩) z0).trans c2
    replace d0 := (hb2.cell (p := ⟨w.heap.size + 1, 0, none⟩) z1).trans d0
    replace d2 := (hb2.cell (p := ⟨w.heap.size + 1, 2, none⟩) z1).trans d2
    go_wp2_with fail
    refine (awake2 _).mono ?_
    rintro e w3 ⟨rfl, hb3⟩
    go_wp2
    go_ret
    exact ⟨rfl, B2.trans (hb3.mono B2.size)⟩
  · have ga : ¬ (70 : Int) < (a.size : Int) := by omega
    have gb : ¬ (70 : Int) < (b.size : Int) := by omega
    have gc : (70 : Int) < (c.size : Int) := by omega
    go_enter Tryz.func6, Tryz.ntmps6
    go_wp2_with fail
    rw [← HW1.out]
    refine (awake2 _).mono ?_
    rintro e w2 ⟨rfl, hb2⟩
    have B2 := hb1.trans (hb2.mono hb1.size)
    replace c0 := (hb2.cell (p := ⟨w.heap.size, 0, none⟩) z0).trans c0
    replace c2 := (hb2.cell (p := ⟨w.heap.size, 2, none⟩) z0).trans c2
    replace d0 := (hb2.cell (p := ⟨w.heap.size + 1, 0, none⟩) z1).trans d0
    replace d2 := (hb2.cell (p := ⟨w.heap.size + 1, 2, none⟩) z1).trans d2
    go_wp2_with fail
    refine (awake2 _).mono ?_
    rintro e w3 ⟨rfl, hb3⟩
    go_wp2
    go_ret
    exact ⟨rfl, B2.trans (hb3.mono B2.size)⟩
  · have ga : ¬ (70 : Int) < (a.size : Int) := by omega
    have gb : ¬ (70 : Int) < (b.size : Int) := by omega
    have gc : ¬ (70 : Int) < (c.size : Int) := by omega
    have gd : (70 : Int) < (d.size : Int) := by omega
    go_enter Tryz.func6, Tryz.ntmps6
    go_wp2_with fail
    rw [← HW1.out]
    refine (awake2 _).mono ?_
    rintro e w2 ⟨rfl, hb2⟩
    have B2 := hb1.trans (hb2.mono hb1.size)
    replace c0 := (hb2.cell (p := ⟨w.heap.size, 0, none⟩) z0).trans c0
    replace c2 := (hb2.cell (p := ⟨w.heap.size, 2, none⟩) z0).trans c2
    replace d0 := (hb2.cell (p := ⟨w.heap.size + 1, 0, none⟩) z1).trans d0
    replace d2 := (hb2.cell (p := ⟨w.heap.size + 1, 2, none⟩) z1).trans d2
    go_wp2_with fail
    refine (awake2 _).mono ?_
    rintro e w3 ⟨rfl, hb3⟩
    go_wp2
    go_ret
    exact ⟨rfl, B2.trans (hb3.mono B2.size)⟩
theorem lawSpreads (a b c d : ByteArray) (m n p q : Int) (w : World) :
    Calls Tryz.prog 6 #[.agg #[.string a, .int .i64 m, .string b, .int .i64 n], .agg #[.string c, .int .i64 p, .string d, .int .i64 q]] w fun e w' => e = .returned (.bool true) ∧ Below w.heap.size w w' := by
  by_cases h : a.size ≤ 70 ∧ b.size ≤ 70 ∧ c.size ≤ 70 ∧ d.size ≤ 70
  · exact lawSpreadsMain a b c d m n p q w h.1 h.2.1 h.2.2.1 h.2.2.2
  · exact lawSpreadsBig a b c d m n p q w h
theorem lawSpreadsO (a : ByteArray) (m : Int) (b : ByteArray) (n : Int) (c : ByteArray) (p : Int) (d : ByteArray) (q : Int) (w : World) :
    Calls Tryz.prog 6 #[.agg #[.string a, .int .i64 m, .string b, .int .i64 n], .agg #[.string c, .int .i64 p, .string d, .int .i64 q]] w fun e w' => e = .returned (.bool true) ∧ Below w.heap.size w w' := lawSpreads a b c d m n p q w
end Go.Proofs.YtgpgdjdababidaaGreatDoor

namespace Go.Proofs.YtgpgdjdababidaaGreatDoor
open Go.ChangeShapes Go.WideShapes Go.ChangeAt Go.WideMaps Go.WideElems Go.RowKit

set_option maxRecDepth 100000 in
theorem spreads_lifted (os : Os) (started : os.Started) (H : Type) (enc : TypeId × Value → H) :
    ReturnsInHanded {} Tryz.checked os 6 .any (fun w args => (Rows.taperSpreadsSpec.pre enc Tryz.prog Tryz.f6 [] false w args ∧ laidMetH Tryz.prog taLaid w) ∧ sizedMet enc Tryz.prog Tryz.f6 (OpenSpec.ofChange Rows.taperSpreadsSpec) false w args)
      (Rows.taperSpreadsSpec.post enc Tryz.prog Tryz.f6 false true false false) := by
  refine returnsInHanded_of_change_and (C := Tryz.checked) (X := fun w _ => laidMetH Tryz.prog taLaid w) (fun _ _ _ hh h => h.of_heap hh) Tryz.ownT started (by kernel_rfl) Tryz.func6
    (ChangeSpec.witness_shaped (enc := enc) (C := Tryz.checked) (os := os) (X := fun w _ => laidMetH Tryz.prog taLaid w) false (World.doorLaid Tryz.prog 400 os) #[.agg #[.string ByteArray.empty, .int .i64 0, .string ByteArray.empty, .int .i64 0], .agg #[.string ByteArray.empty, .int .i64 0, .string ByteArray.empty, .int .i64 0]] 8 rfl (World.shaped_of_RefB (by kernel_rfl) (by kernel_rfl)) (by kernel_rfl) (by kernel_rfl) (by kernel_rfl) (door_met os _)) ?_
  intro W base args ds gs before hval0 hW _ _ hL _
  have hval : ∀ (j : Nat) t v, Tryz.f6.params[j]? = some t → args[j]? = some v → Value.okWide Tryz.prog W .any base t v := hval0
  have hW' := hW
  obtain ⟨p, q, hA0, hV, rfl, hfz, hnd⟩ := hW
  have hA : DataW.TrodAll enc Tryz.prog W 0 (fun _ => true) true Tryz.f6.params.toList args.toList ds p := hA0
  rw [Tryz.params6] at hA hval
  obtain ⟨v0, v1, d0, d1, p0, p1, rfl, rfl, rfl, h0, h1⟩ := trodAll_two hA
  obtain ⟨rfl, rfl⟩ := trodVars_none hV
  clear hA0 hval0
  simp only [List.append_nil] at hW'
  have hlt : ∀ x ∈ p0 ++ p1, x.block < W.heap.size := fun x hx => by simpa using hW'.lt x hx
  obtain ⟨z00, z01, z02, z03, rfl⟩ := open_mixture (hval 0 61 v0 rfl rfl)
  obtain ⟨z10, z11, z12, z13, rfl⟩ := open_mixture (hval 1 61 v1 rfl rfl)
  have harg0 : ∀ (W' : World), Below W.heap.size W W' → DataW.Trod enc Tryz.prog W' 0 (fun b => decide (b < W.heap.size)) true 61 (.agg #[.string z00, .int .i64 z01, .string z02, .int .i64 z03]) d0 p0 :=
    fun W' hn => Below.trod Tryz.laidOutT (by kernel_rfl) (of_decide_eq_true (by kernel_rfl)) h0 hn (fun x hx => hlt x (List.mem_append_left _ hx))
  have harg1 : ∀ (W' : World), Below W.heap.size W W' → DataW.Trod enc Tryz.prog W' 0 (fun b => decide (b < W.heap.size)) true 61 (.agg #[.string z10, .int .i64 z11, .string z12, .int .i64 z13]) d1 p1 :=
    fun W' hn => Below.trod Tryz.laidOutT (by kernel_rfl) (of_decide_eq_true (by kernel_rfl)) h1 hn (fun x hx => hlt x (List.mem_append_right _ hx))
  refine (lawSpreadsO z00 z01 z02 z03 z10 z11 z12 z13 W).mono fun e W' ⟨he, hb⟩ => ?_
  subst he
  refine ⟨_, rfl, _, _, _, [], p0 ++ p1, [], hW', ?_, trodAll_mk2 (harg0 W' hb) (harg1 W' hb), rfl, hb.frame _, fun h => by cases h⟩
  exact trodAll_mk1 (shut_bool Tryz.underlying4 true)
theorem spreads_holds : Rows.TaperSpreadsSaid :=
  OpenClaim.holds_of_wide 6 Tryz.f6 rfl rfl rfl rfl rfl rfl rfl ⟨rfl, rfl, rfl, rfl, rfl⟩ rfl rfl rfl rfl rfl (by kernel_rfl) Tryz.func6 (by kernel_rfl)
    (of_decide_eq_true (by kernel_rfl)) (by unfold Func.isWrapper; first | (rw [if_pos (by decide +kernel)]; kernel_rfl) | (rw [if_neg (by decide +kernel)]; exact ⟨rfl, rfl⟩))
    (fun os started H enc _ => spreads_lifted os started H enc)
theorem spreads_card : Rows.TaperSpreadsCardSaid :=
  Claim7.holds_tied_plain_at .later [] [.data, .data, .data] true (true, "b6e41887c4f920463a90685bca101cdc24d79fe0e4c7c6f96c088de150e08b9e") false
    spreads_holds (fun _ h => by cases h) (by kernel_rfl) (fun _ h => by cases h) taperSpreads_row_tie rfl ⟨rfl, rfl⟩ (by kernel_rfl) rfl
    (fun f fn hf hfn => by
      obtain rfl : f = 6 := Option.some.inj ((show Tryz.prog.funcNamed "codend/codendlaw02.TaperSpreads" = some 6 by kernel_rfl).symm.trans hf) |>.symm
      obtain rfl : fn = Tryz.f6 := (Option.some.inj (Tryz.func6.symm.trans hfn)).symm
      exact ⟨by kernel_rfl, fun j t ht => by
        rw [Tryz.params6] at ht
        have hm : t ∈ [61, 61] := by simpa using Array.mem_of_getElem? ht
        have hall : ([61, 61].all fun u => !Tryz.prog.wantsStandIn u) = true := by kernel_rfl
        exact (show Tryz.prog.wantsStandIn t = false by simpa using List.all_eq_true.1 hall t hm)⟩)
    (by kernel_rfl)
#print axioms spreads_card
end Go.Proofs.YtgpgdjdababidaaGreatDoor
