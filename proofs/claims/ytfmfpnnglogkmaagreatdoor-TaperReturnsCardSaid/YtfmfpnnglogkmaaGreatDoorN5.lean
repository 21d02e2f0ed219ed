/- Helpers: N5. -/
import Derived.Test.YtfmfpnnglogkmaaGreatDoorN4
import Derived.Deep.RegionHeld3
import Derived.BigQuiet
import Derived.Deep.LoopGhost
/- candidates of taper. -/
namespace Go.Proofs.YtfmfpnnglogkmaaGreatDoor
open Go.RowKit Ck

theorem one_newS (w : World) (a : Value) (t : TypeId) : ∀ (j : Nat) (u : Value), [a][j]? = some u → (w.alloc (.cells #[a] t)).cell? ((⟨w.heap.size, 0, none⟩ : Addr).add j) = some u :=
  World.news_of_block (heap_alloc_new _ _)
def nearWord (P D p q : Nat) : ByteArray := ⟨(spreadL [66] p [otherC P D] (q - p) q).toArray⟩
theorem nearWord_word {P D p q : Nat} (hq : 1 ≤ q) (hq2 : q ≤ 64) : Word (nearWord P D p q) := by
  have hl : (spreadL [66] p [otherC P D] (q - p) q).length = q := spreadL_len q
  have hs : (nearWord P D p q).size = q := by show (spreadL [66] p [otherC P D] (q - p) q).toArray.size = q; rw [List.size_toArray, hl]
  refine ⟨fun c hc => ?_, by omega, by omega⟩
  have hm : ∀ k, ∀ c ∈ spreadL [66] p [otherC P D] (q - p) k, isL c := by
    intro k
    induction k with
    | zero => intro c h; simp [spreadL] at h
    | succ k ih =>
      intro c h
      rw [spreadL, List.mem_append] at h
      rcases h with h | h
      · exact ih c h
      · split at h
        · simp at h; subst h; simp [isL]
        · simp at h; subst h; exact otherC_isL P D
  exact hm q c hc
/-- The words of the first parts that have a rate. -/
def candW (P D p q : Nat) : List ByteArray := if rowsB (nearWord P D p q) = true then [nearWord P D p q] else []
def candJ (P D a b c d : Nat) (j : Nat) : List ByteArray := if j = 0 then [] else if j = 1 then candW P D a b else candW P D a b ++ candW P D c d
def scells (l : List ByteArray) : List Value := l.map Value.string
theorem candJ_succ {P D a b c d p q j : Nat} (hj : j < 2) (hp : (j = 0 ∧ p = a ∧ q = b) ∨ (j = 1 ∧ p = c ∧ q = d)) : candJ P D a b c d (j + 1) = candJ P D a b c d j ++ candW P D p q := by
  rcases hp with ⟨rfl, rfl, rfl⟩ | ⟨rfl, rfl, rfl⟩ <;> simp [candJ]
theorem candJ_len (P D a b c d j : Nat) : (candJ P D a b c d j).length ≤ 2 := by
  have h : ∀ p q, (candW P D p q).length ≤ 1 := fun p q => by unfold candW; split <;> simp
  have := h a b
  have := h c d
  unfold candJ
  split
  · simp
  · split
    · omega
    · rw [List.length_append]; omega
theorem part_ix0 (a b c d : Value) (w : World) : (Instr.index 29 (.agg #[a, b, c, d]) (.int .i64 0)).run Tryz.prog w = .ok (.agg #[a, b]) w := by kernel_rfl
theorem part_ix1 (a b c d : Value) (w : World) : (Instr.index 29 (.agg #[a, b, c, d]) (.int .i64 1)).run Tryz.prog w = .ok (.agg #[c, d]) w := by kernel_rfl
theorem infoS : (Tryz.prog.info? 9).map (fun i => (i.zero, i.size, i.bytes)) = some (some (.string ⟨#[]⟩), 1, 16) := by kernel_rfl
/-- What is returned: a slice that reads as these strings, in memory of the call's own. -/
def StrsPost (l : List ByteArray) (w : World) (e : Ending) (w' : World) : Prop := ∃ v, e = .returned v ∧ w'.ownsRow w.heap.size 9 1 v l.length (scells l) ∧ Below w.heap.size w w'
set_option maxHeartbeats 4000000 in
set_option maxRecDepth 100000 in
theorem tpCandidates (P D n a b c d : Nat) (w : World) (hD1 : 1 ≤ D) (hP : P ≤ 999999999) (hD : D ≤ 999999999) (hn : 1 ≤ n) (hn2 : n ≤ 64) (hR : nbF (shareB P D) (shareL P D) n n 0 1 1 1 = (a, b, c, d)) :
    Calls Tryz.prog 48 #[.agg #[.int .i64 P, .int .i64 D], .int .i64 n] w (StrsPost (candJ P D a b c d 2) w) := by
  obtain ⟨s1, s2, s3⟩ := shareL_pos (P := P) hD1
  have hE := nb_end hn s3 hR
  obtain ⟨e1, e2, e3, e4, e5, e6⟩ : 1 ≤ b ∧ 1 ≤ d ∧ b ≤ n ∧ d ≤ n ∧ a ≤ b ∧ c ≤ d := ⟨hE.b1, hE.d1, hE.bn, hE.dn, hE.ab, hE.cd⟩
  obtain ⟨B, hB⟩ : ∃ B, shareB P D = B := ⟨_, rfl⟩
  obtain ⟨L, hL⟩ : ∃ L, shareL P D = L := ⟨_, rfl⟩
  rw [hB] at s3
  rw [hL] at s1 s2 s3
  rw [hB, hL] at hR
  have HB := Lib.hid hB
  have HL := Lib.hid hL
  have HR := Lib.hid hR
  obtain ⟨i0, hi, hz0, hz1, hz2⟩ := info_parts infoS
  have HI := Lib.hid hi
  have HZ0 := Lib.hid hz0
  have HZ1 := Lib.hid hz1
  have HZ2 := Lib.hid hz2
  obtain ⟨w1, hw1, h0, hb1, hz1'⟩ := boxH2 w (.int .i64 P) (.int .i64 D) 23
  have HW1 := Lib.hid hw1
  obtain ⟨p0, p1, -, -⟩ := two_cell h0
  clear hw1 hB hL hR hE hi hz0 hz1 hz2
  go_enter Tryz.func48, Tryz.ntmps48
  go_wp2_with fail
  rw [← HW1.out]
  go_wp2_with fail
  refine (tpShareOf P D _ hD1 (by omega) (by omega)).mono ?_
  rintro e w2 ⟨rfl, hb2⟩
  rw [HB.out, HL.out]
  have k0 := (hb2.block _ (Array.getElem?_eq_some_iff.1 h0).1).trans h0
  have B2 := hb1.trans (hb2.mono hb1.size)
  clear p0 p1 h0 hb1 hb2
  go_wp2_with fail
  refine (tpNeighboursOf B L n a b c d _ s3 (by omega) hn hn2 HR.out).mono ?_
  rintro e w3 ⟨rfl, hb3⟩
  have m0 := (hb3.block _ (Array.getElem?_eq_some_iff.1 k0).1).trans k0
  have B3 := B2.trans (hb3.mono B2.size)
  clear k0 hb3 B2
  go_wp2_with fail
  go_loopg [5, 13] 2 (fun g v j wi => ∃ i : Nat, i ≤ 2 ∧ g = 2 - i ∧ j = .int .i64 i ∧ wi.heap[w.heap.size]? = some (.cells #[.int .i64 P, .int .i64 D] 23 (0, 0)) ∧ Hid (wi.ownsRow w.heap.size 9 1 v (candJ P D a b c d i).length (scells (candJ P D a b c d i))) ∧ Below w.heap.size w wi)
  case atStart => exact ⟨0, by omega, rfl, rfl, m0, Lib.hid (World.ownsRow_nil _ _ _ _), B3⟩
  case round =>
    obtain ⟨i, hi, hg, rfl, hh, hown, hb⟩ := hrel
    clear m0 B3
    by_cases hlt : i < 2
    · obtain ⟨p, q, hpq, hix, q1, q2, q3⟩ : ∃ p q : Nat, ((i = 0 ∧ p = a ∧ q = b) ∨ (i = 1 ∧ p = c ∧ q = d)) ∧ (∀ w, (Instr.index 29 (.agg #[.int .i64 a, .int .i64 b, .int .i64 c, .int .i64 d]) (.int .i64 (i : Int))).run Tryz.prog w = .ok (.agg #[.int .i64 p, .int .i64 q]) w) ∧ 1 ≤ q ∧ q ≤ n ∧ p ≤ q := by
        have : i = 0 ∨ i = 1 := by omega
        rcases this with rfl | rfl
        · exact ⟨a, b, .inl ⟨rfl, rfl, rfl⟩, part_ix0 _ _ _ _, e1, e3, e5⟩
        · exact ⟨c, d, .inr ⟨rfl, rfl, rfl⟩, part_ix1 _ _ _ _, e2, e4, e6⟩
      have HS := Lib.hid (candJ_succ (P := P) (D := D) hlt hpq)
      have HWW := Lib.hid (nearWord_word (P := P) (D := D) (p := p) q1 (by omega))
      have HNW := Lib.hid (show (⟨(spreadL [66] p [otherC P D] (q - p) q).toArray⟩ : ByteArray) = nearWord P D p q from rfl)
      have HCW := Lib.hid (show candW P D p q = if rowsB (nearWord P D p q) = true then [nearWord P D p q] else [] from rfl)
      have hlen := candJ_len P D a b c d i
      obtain ⟨N, hN⟩ : ∃ N, nearWord P D p q = N := ⟨_, rfl⟩
      rw [hN] at HWW HNW HCW
      clear hN hpq
      obtain ⟨w4, hw4, k1, hb4, hz4⟩ := boxH2 wr (.int .i64 p) (.int .i64 q) 28
      have HW4 := Lib.hid hw4
      have k0 := (hb4.block _ (Array.getElem?_eq_some_iff.1 hh).1).trans hh
      have B4 := hb.trans (hb4.mono hb.size)
      have HO4 := Lib.hid (ownsRow_below hown.out hb4)
      obtain ⟨u0, u1, -, -⟩ := two_cell hh
      obtain ⟨c0, c1, -, -⟩ := two_cell k0
      obtain ⟨d0, d1, -, -⟩ := two_cell k1
      have hd2 : decide ((i : Int) < 2) = true := by rw [decide_eq_true_eq]; omega
      have hw4' := hw4.symm
      clear hw4 HW4 hh hown hb hb4 k1
      go_wp2_with fail
      refine (tpSpreadWord P D p q _ q3 (by omega) (by omega) (by omega)).mono ?_
      rintro e w5 ⟨rfl, hb5⟩
      rw [HNW.out]
      have k5 := (hb5.block _ (Array.getElem?_eq_some_iff.1 k0).1).trans k0
      have HO5 := Lib.hid (ownsRow_below HO4.out hb5)
      have B5 := B4.trans (hb5.mono B4.size)
      clear hw4' c0 c1 d0 d1 u0 u1 k0 HO4 hb5 B4
      go_wp2_with fail
      refine (tpHasRate N _ HWW.out).mono ?_
      rintro e w6 ⟨rfl, hb6⟩
      have k6 := (hb6.block _ (Array.getElem?_eq_some_iff.1 k5).1).trans k5
      have HO6 := Lib.hid (ownsRow_below HO5.out hb6)
      have B6 := B5.trans (hb6.mono B5.size)
      have hz6 := B6.size
      clear k5 HO5 hb6 B5
      obtain ⟨r, hr⟩ : ∃ r, rowsB N = r := ⟨_, rfl⟩
      rw [hr] at HCW ⊢
      clear hr
      cases r
      · rw [if_neg (by decide)] at HCW
        have HN := Lib.hid (show candJ P D a b c d (i + 1) = candJ P D a b c d i by rw [HS.out, HCW.out, List.append_nil])
        go_wp2
        go_roundg (1 - i)
        case rel => exact ⟨i + 1, by omega, by omega, by go_num, k6, Lib.hid (by rw [HN.out]; exact HO6.out), B6⟩
        case measure => omega
      · rw [if_pos rfl] at HCW
        have HN := Lib.hid (show candJ P D a b c d (i + 1) = candJ P D a b c d i ++ [N] by rw [HS.out, HCW.out])
        go_wp2_with (at_builtin; refine wpList_append_own _ rfl _ _ 90 rfl w.heap.size 9 i0 (.string ⟨#[]⟩) 1 16 Tryz.underlying90 HI.out HZ0.out HZ1.out HZ2.out rfl (by decide) _ _ _ rfl (HO6.out.alloc _) ⟨w6.heap.size, 0, none⟩ 1 1 [.string N] rfl rfl (one_newS _ _ _) ?c2 ?c3 ?c4 ?c5 ?_)
        case c2 => intro u hu; simp at hu; subst hu; rfl
        case c3 => unfold maxLen; omega
        case c4 => omega
        case c5 => simp; omega
        intro v' w7 hown7 hgrow7 _
        have B7 : Below w.heap.size w w7 := (B6.alloc hz6 (.cells #[.string N] 9)).grown hgrow7 (by simp; omega) (ownsRow_base HO6.out)
        have k7 : w7.heap[w.heap.size]? = some (.cells #[.int .i64 P, .int .i64 D] 23 (0, 0)) := by
          have hne : u5.ownBlock ≠ some w.heap.size := own_block_ne HO6.out k6 (by decide)
          have z6 := (Array.getElem?_eq_some_iff.1 k6).1
          exact (hgrow7.block _ (by simp; omega) (fun h => hne h.symm)).trans ((Below.heap_alloc _ _ _ z6).trans k6)
        have HO7 := Lib.hid hown7
        clear hown7 hgrow7 k6 HO6 B6
        go_wp2
        go_roundg (1 - i)
        case rel => exact ⟨i + 1, by omega, by omega, by go_num, k7, Lib.hid (by rw [HN.out]; unfold scells; rw [List.map_append, List.length_append]; exact HO7.out), B7⟩
        case measure => omega
    · obtain rfl : i = 2 := by omega
      go_wp2
      go_ret
      exact ⟨_, rfl, hown.out, hb⟩
end Go.Proofs.YtfmfpnnglogkmaaGreatDoor

/- gap, compareGaps, cmp.Or, slices.MinFunc and Nearest of taper. -/
namespace Go.Proofs.YtfmfpnnglogkmaaGreatDoor
open Go.RowKit Ck

/-- By how much the rate of a vector differs from a ratio, times both denominators. -/
def gapZ (P D : Nat) (v : Int × Int) : Int := max (v.1 * D - P * v.2) (-(v.1 * D - P * v.2))
theorem gap_bounds {P D : Nat} {x y : Int} (hP : P ≤ 1000000000) (hD : D ≤ 1000000000) (hx0 : 0 ≤ x) (hx : x ≤ 128) (hy0 : 0 ≤ y) (hy : y ≤ 128) :
    (0 ≤ x * D ∧ x * D ≤ 128000000000) ∧ (0 ≤ P * y ∧ P * y ≤ 128000000000) := by
  refine ⟨⟨Int.mul_nonneg hx0 (by omega), ?_⟩, ⟨Int.mul_nonneg (by omega) hy0, ?_⟩⟩
  · exact Int.le_trans (Int.mul_le_mul hx (show (D : Int) ≤ 1000000000 by omega) (by omega) (by omega)) (by decide)
  · exact Int.le_trans (Int.mul_le_mul (show (P : Int) ≤ 1000000000 by omega) hy hy0 (by omega)) (by decide)
set_option maxHeartbeats 2000000 in
set_option maxRecDepth 100000 in
theorem tpGap (P D : Nat) (x y : Int) (w : World) (hP : P ≤ 1000000000) (hD : D ≤ 1000000000) (hx0 : 0 ≤ x) (hx : x ≤ 128) (hy0 : 0 ≤ y) (hy : y ≤ 128) :
    Calls Tryz.prog 95 #[.agg #[.int .i64 P, .int .i64 D], .agg #[.int .i64 x, .int .i64 y]] w fun e w' => e = .returned (.int .i64 (gapZ P D (x, y))) ∧ Below w.heap.size w w' := by
  obtain ⟨⟨g1, g2⟩, g3, g4⟩ := gap_bounds hP hD hx0 hx hy0 hy
  obtain ⟨w1, hw1, h0, h1, hb1, hz1⟩ := boxH22 w (.int .i64 P) (.int .i64 D) (.int .i64 x) (.int .i64 y) 23 66
  obtain ⟨p0, p1, -, -⟩ := two_cell h0
  obtain ⟨q0, q1, -, -⟩ := two_cell h1
  have HW1 := Lib.hid hw1
  have HG := Lib.hid (show gapZ P D (x, y) = max (x * D - P * y) (-(x * D - P * y)) from rfl)
  clear hw1 h0 h1
  go_enter Tryz.func95, Tryz.ntmps95
  go_wp2_with fail
  rw [← HW1.out]
  go_wp2
  go_ret
  exact ⟨ret_i (by rw [HG.out]), hb1⟩
theorem gapZ_bounds {P D : Nat} {x y : Int} (hP : P ≤ 1000000000) (hD : D ≤ 1000000000) (hx0 : 0 ≤ x) (hx : x ≤ 128) (hy0 : 0 ≤ y) (hy : y ≤ 128) : 0 ≤ gapZ P D (x, y) ∧ gapZ P D (x, y) ≤ 128000000000 := by
  obtain ⟨⟨g1, g2⟩, g3, g4⟩ := gap_bounds hP hD hx0 hx hy0 hy
  unfold gapZ
  simp only
  omega
/-- Which vector's rate differs less: -1, 0 or 1. -/
def cmpG (P D : Nat) (a b : List UInt8) : Int := cmpI (gapZ P D (vecL a) * (vecL b).2) (gapZ P D (vecL b) * (vecL a).2)
theorem keepG {W w1 w2 : World} {g h k : Nat} {a b c d x y : Value}
    (hh : (w1.cell? ⟨g, 0, none⟩ = some a ∧ w1.cell? ⟨g, 1, none⟩ = some b) ∧ (w1.cell? ⟨h, 0, none⟩ = some c ∧ w1.cell? ⟨h, 1, none⟩ = some d) ∧ (w1.cell? ⟨k, 0, none⟩ = some x ∧ w1.cell? ⟨k, 1, none⟩ = some y) ∧ (g < w1.heap.size ∧ h < w1.heap.size ∧ k < w1.heap.size) ∧ Below W.heap.size W w1)
    (hb : Below w1.heap.size w1 w2) : (w2.cell? ⟨g, 0, none⟩ = some a ∧ w2.cell? ⟨g, 1, none⟩ = some b) ∧ (w2.cell? ⟨h, 0, none⟩ = some c ∧ w2.cell? ⟨h, 1, none⟩ = some d) ∧ (w2.cell? ⟨k, 0, none⟩ = some x ∧ w2.cell? ⟨k, 1, none⟩ = some y) ∧ (g < w2.heap.size ∧ h < w2.heap.size ∧ k < w2.heap.size) ∧ Below W.heap.size W w2 := by
  obtain ⟨⟨a0, a1⟩, ⟨b0, b1⟩, ⟨c0, c1⟩, ⟨d0, d1, d2⟩, e⟩ := hh
  have hz := hb.size
  exact ⟨⟨(hb.cell (p := ⟨g, 0, none⟩) d0).trans a0, (hb.cell (p := ⟨g, 1, none⟩) d0).trans a1⟩, ⟨(hb.cell (p := ⟨h, 0, none⟩) d1).trans b0, (hb.cell (p := ⟨h, 1, none⟩) d1).trans b1⟩, ⟨(hb.cell (p := ⟨k, 0, none⟩) d2).trans c0, (hb.cell (p := ⟨k, 1, none⟩) d2).trans c1⟩, ⟨by omega, by omega, by omega⟩, e.trans (hb.mono e.size)⟩
theorem keepG1 {W w1 : World} {g h k : Nat} {a b c d x y : Value}
    (hh : (w1.cell? ⟨g, 0, none⟩ = some a ∧ w1.cell? ⟨g, 1, none⟩ = some b) ∧ (w1.cell? ⟨h, 0, none⟩ = some c ∧ w1.cell? ⟨h, 1, none⟩ = some d) ∧ (w1.cell? ⟨k, 0, none⟩ = some x ∧ w1.cell? ⟨k, 1, none⟩ = some y) ∧ (g < w1.heap.size ∧ h < w1.heap.size ∧ k < w1.heap.size) ∧ Below W.heap.size W w1) : Below W.heap.size W w1 := hh.2.2.2.2
set_option maxHeartbeats 4000000 in
set_option maxRecDepth 100000 in
theorem tpCompareGaps (P D : Nat) (a b : ByteArray) (w : World) (hP : P ≤ 1000000000) (hD : D ≤ 1000000000) (ha : Word a) (hb : Word b) :
    Calls Tryz.prog 51 #[.agg #[.int .i64 P, .int .i64 D], .string a, .string b] w fun e w' => e = .returned (.int .i64 (cmpG P D a.data.toList b.data.toList)) ∧ Below w.heap.size w w' := by
  have na := vecL_near a.data.toList
  have nb := vecL_near b.data.toList
  have la : (a.data.toList.length : Int) ≤ 64 := by have := ha.2.2; have := Lib.size_eq a; omega
  have lb : (b.data.toList.length : Int) ≤ 64 := by have := hb.2.2; have := Lib.size_eq b; omega
  unfold cmpG
  obtain ⟨u, hu⟩ : ∃ u, vecL a.data.toList = u := ⟨_, rfl⟩
  obtain ⟨v, hv⟩ : ∃ v, vecL b.data.toList = v := ⟨_, rfl⟩
  rw [hu] at na
  rw [hv] at nb
  have HA := Lib.hid hu
  have HB := Lib.hid hv
  rw [hu, hv]
  clear hu hv
  obtain ⟨u1, u2⟩ := u
  obtain ⟨v1, v2⟩ := v
  simp only at na nb ⊢
  have a1 : 0 ≤ u1 ∧ u1 ≤ 128 ∧ 0 ≤ u2 ∧ u2 ≤ 128 := by omega
  have b1 : 0 ≤ v1 ∧ v1 ≤ 128 ∧ 0 ≤ v2 ∧ v2 ≤ 128 := by omega
  obtain ⟨a1, a2, a3, a4⟩ := a1
  obtain ⟨b1, b2, b3, b4⟩ := b1
  obtain ⟨g1, g2⟩ := gapZ_bounds hP hD a1 a2 a3 a4
  obtain ⟨g3, g4⟩ := gapZ_bounds hP hD b1 b2 b3 b4
  obtain ⟨ga, hga⟩ : ∃ g, gapZ P D (u1, u2) = g := ⟨_, rfl⟩
  obtain ⟨gb, hgb⟩ : ∃ g, gapZ P D (v1, v2) = g := ⟨_, rfl⟩
  have HGA := Lib.hid hga
  have HGB := Lib.hid hgb
  rw [hga] at g1 g2
  rw [hgb] at g3 g4
  rw [hga, hgb]
  have y1 : 0 ≤ ga * v2 ∧ ga * v2 ≤ 128000000000 * 128 := ⟨Int.mul_nonneg g1 b3, Int.mul_le_mul g2 b4 b3 (by omega)⟩
  have y2 : 0 ≤ gb * u2 ∧ gb * u2 ≤ 128000000000 * 128 := ⟨Int.mul_nonneg g3 a3, Int.mul_le_mul g4 a4 a3 (by omega)⟩
  obtain ⟨y3, y4⟩ := y1
  obtain ⟨y5, y6⟩ := y2
  have z1 : IntKind.i64.wrap (ga * v2) = ga * v2 := by rw [IntKind.wrap_i64]; omega
  have z2 : IntKind.i64.wrap (gb * u2) = gb * u2 := by rw [IntKind.wrap_i64]; omega
  have gAll : ∀ (x y G : Int) (W : World), gapZ P D (x, y) = G → 0 ≤ x → x ≤ 128 → 0 ≤ y → y ≤ 128 → Calls Tryz.prog 95 #[.agg #[.int .i64 P, .int .i64 D], .agg #[.int .i64 x, .int .i64 y]] W fun e w' => e = .returned (.int .i64 G) ∧ Below W.heap.size W w' := by
    intro x y G W hG k1 k2 k3 k4
    subst hG
    exact tpGap P D x y W hP hD k1 k2 k3 k4
  have HGALL := Lib.hid gAll
  obtain ⟨w1, hw1, k0, hb1, hz1⟩ := boxH2 w (.int .i64 P) (.int .i64 D) 23
  have HW1 := Lib.hid hw1
  clear la lb hga hgb hw1 gAll na nb
  go_enter Tryz.func51, Tryz.ntmps51
  go_wp2_with fail
  rw [← HW1.out]
  go_wp2_with fail
  refine (tpVectorOf a _ ha).mono ?_
  rintro e w2 ⟨rfl, hb2⟩
  rw [HA.out]
  go_wp2_with fail
  refine (tpVectorOf b _ hb).mono ?_
  rintro e w3 ⟨rfl, hb3⟩
  rw [HB.out]
  have k2 := (hb2.block _ (Array.getElem?_eq_some_iff.1 k0).1).trans k0
  have k3 := (hb3.block _ (Array.getElem?_eq_some_iff.1 k2).1).trans k2
  have B2 := hb1.trans (hb2.mono hb1.size)
  have B3 := B2.trans (hb3.mono B2.size)
  obtain ⟨w4, hw4, m0, m1, hb4, hz4⟩ := boxH22 w3 (.int .i64 u1) (.int .i64 u2) (.int .i64 v1) (.int .i64 v2) 66 66
  have k4 := (hb4.block _ (Array.getElem?_eq_some_iff.1 k3).1).trans k3
  have B4 := B3.trans (hb4.mono B3.size)
  obtain ⟨c0, c1, -, -⟩ := two_cell k4
  obtain ⟨d0, d1, -, -⟩ := two_cell m0
  obtain ⟨e0, e1, -, -⟩ := two_cell m1
  have z4a := (Array.getElem?_eq_some_iff.1 k4).1
  have z4b := (Array.getElem?_eq_some_iff.1 m0).1
  have z4c := (Array.getElem?_eq_some_iff.1 m1).1
  have HW4 := Lib.hid hw4
  clear hw4 hz4 k0 k2 k3 k4 m0 m1 hb1 hb2 hb3 hb4 B2 B3 HA HB
  go_wp2_with fail
  rw [← HW4.out]
  go_region_held3 (fun w' => (w'.cell? ⟨w.heap.size, 0, none⟩ = some (.int .i64 P) ∧ w'.cell? ⟨w.heap.size, 1, none⟩ = some (.int .i64 D)) ∧ (w'.cell? ⟨w3.heap.size, 0, none⟩ = some (.int .i64 u1) ∧ w'.cell? ⟨w3.heap.size, 1, none⟩ = some (.int .i64 u2)) ∧ (w'.cell? ⟨w3.heap.size + 1, 0, none⟩ = some (.int .i64 v1) ∧ w'.cell? ⟨w3.heap.size + 1, 1, none⟩ = some (.int .i64 v2)) ∧ (w.heap.size < w'.heap.size ∧ w3.heap.size < w'.heap.size ∧ w3.heap.size + 1 < w'.heap.size) ∧ Below w.heap.size w w')
    (first | exact ⟨⟨c0, c1⟩, ⟨d0, d1⟩, ⟨e0, e1⟩, ⟨z4a, z4b, z4c⟩, below_drew B4⟩ | exact keepG (by assumption) (by assumption) | assumption | go_keep)
    (first
      | (go_at_call 95; refine (HGALL.out _ _ _ _ (by first | exact HGA.out | exact HGB.out) (by assumption) (by assumption) (by assumption) (by assumption)).mono ?_; rintro e w' ⟨rfl, hbq⟩)
      | (go_at_call 52; refine (cmpInt _ _ _).mono ?_; rintro e w' ⟨rfl, rfl⟩))
  all_goals go_wp2
  all_goals go_ret
  all_goals exact ⟨rfl, keepG1 (by assumption)⟩
end Go.Proofs.YtfmfpnnglogkmaaGreatDoor

/- cmp.Or, slices.MinFunc and Nearest of taper. -/
namespace Go.Proofs.YtfmfpnnglogkmaaGreatDoor
open Go.RowKit Ck

/-- The order in which Nearest takes the words. -/
def nrCmp (P D : Nat) (a b : ByteArray) : Int := firstE [cmpG P D a.data.toList b.data.toList, cmpI a.size b.size, cmpV a.data.toList b.data.toList]
set_option maxHeartbeats 2000000 in
set_option maxRecDepth 100000 in
theorem tpNearCmp (P D g : Nat) (a b : ByteArray) (w : World) (hP : P ≤ 1000000000) (hD : D ≤ 1000000000) (ha : Word a) (hb : Word b) (hg : w.heap[g]? = some (.cells #[.int .i64 P, .int .i64 D] 23 (0, 0))) :
    Calls Tryz.prog 49 #[.string a, .string b, .pointer (some ⟨g, 0, none⟩)] w fun e w' => e = .returned (.int .i64 (nrCmp P D a b)) ∧ Below w.heap.size w w' := by
  obtain ⟨c0, c1, -, -⟩ := two_cell hg
  have HN := Lib.hid (show firstE [cmpG P D a.data.toList b.data.toList, cmpI a.size b.size, cmpV a.data.toList b.data.toList] = nrCmp P D a b from rfl)
  clear hg
  go_enter Tryz.func49, Tryz.ntmps49
  go_wp2_with fail
  refine (tpCompareGaps P D a b _ hP hD ha hb).mono ?_
  rintro e w1 ⟨rfl, hb1⟩
  go_wp2_with fail
  refine (cmpInt _ _ _).mono ?_
  rintro e w2 ⟨rfl, rfl⟩
  go_wp2_with fail
  refine (tpCompareRates a b _ ha hb).mono ?_
  rintro e w3 ⟨rfl, hb3⟩
  have B3 := hb1.trans (hb3.mono hb1.size)
  go_wp2_with fail
  refine (cmpOr3 _ _ _ _ _ 3 _ (by exact heap_alloc_new _ _)).mono ?_
  rintro e w4 ⟨rfl, rfl⟩
  rw [HN.out]
  go_wp2
  go_ret
  exact ⟨rfl, B3.alloc B3.size _⟩
/-- The least of some words. -/
def minS (P D : Nat) : ByteArray → List ByteArray → ByteArray
  | m, [] => m
  | m, x :: r => minS P D (if nrCmp P D x m < 0 then x else m) r
theorem minS_snoc (P D : Nat) : ∀ (l : List ByteArray) (m x : ByteArray), minS P D m (l ++ [x]) = if nrCmp P D x (minS P D m l) < 0 then x else minS P D m l
  | [], m, x => by
    simp only [List.nil_append, minS]
    rfl
  | a :: r, m, x => by
    rw [List.cons_append, minS, minS_snoc P D r]
    rfl
theorem minS_mem (P D : Nat) : ∀ (l : List ByteArray) (m : ByteArray), minS P D m l ∈ m :: l
  | [], m => by simp [minS]
  | x :: r, m => by
    have := minS_mem P D r (if nrCmp P D x m < 0 then x else m)
    rw [minS]
    simp only [List.mem_cons] at this ⊢
    rcases this with h | h
    · rw [h]
      split
      · exact .inr (.inl rfl)
      · exact .inl rfl
    · exact .inr (.inr h)
set_option maxHeartbeats 2000000 in
set_option maxRecDepth 100000 in
theorem minFunc (P D g q c : Nat) (x : ByteArray) (l : List ByteArray) (w : World) (hP : P ≤ 1000000000) (hD : D ≤ 1000000000) (hl : l.length ≤ 2) (hw : ∀ y ∈ x :: l, Word y) (hg : w.heap[g]? = some (.cells #[.int .i64 P, .int .i64 D] 23 (0, 0)))
    (hq : q < w.heap.size) (hc : ∀ i (h : i < (x :: l).length), w.cell? ⟨q, i, none⟩ = some (.string (x :: l)[i])) :
    Calls Tryz.prog 47 #[.slice (some ⟨q, 0, none⟩) (l.length + 1) c, .func (.func 49) #[] #[.pointer (some ⟨g, 0, none⟩)]] w fun e w' => e = .returned (.string (minS P D x l)) ∧ Below w.heap.size w w' := by
  have HC := Lib.hid hc
  have HWD := Lib.hid hw
  have c0 : w.cell? ⟨q, 0, none⟩ = some (.string x) := hc 0 (by simp)
  have hl1 : (1 : Int) ≤ (l.length : Int) + 1 := by omega
  have hl2 : ¬ (l.length : Int) + 1 < 1 := by omega
  have hl3 : (0 : Int) < (l.length : Int) + 1 := by omega
  obtain ⟨R, hR⟩ : ∃ R, minS P D x l = R := ⟨_, rfl⟩
  rw [hR]
  have HR := Lib.hid hR
  clear hc hw hR
  go_enter Tryz.func47, Tryz.ntmps47
  go_wp2_with fail
  go_loopw [5, 6] (fun m iv wr => ∃ i : Nat, 1 ≤ i ∧ i ≤ l.length + 1 ∧ iv = .int .i64 i ∧ m = .string (minS P D x (l.take (i - 1))) ∧ wr.heap[g]? = some (.cells #[.int .i64 P, .int .i64 D] 23 (0, 0)) ∧ q < wr.heap.size ∧ Hid (∀ i (h : i < (x :: l).length), wr.cell? ⟨q, i, none⟩ = some (.string (x :: l)[i])) ∧ Below w.heap.size w wr) (fun _ iv _ => l.length + 1 - (intOf iv).toNat)
  case atStart => exact ⟨1, Nat.le_refl _, by omega, rfl, rfl, hg, hq, HC, Below.refl _ _⟩
  case round =>
    obtain ⟨i, hi1, hi2, rfl, rfl, hh, hqq, hcc, hb⟩ := hrel
    clear hg hq c0
    by_cases hlt : i < l.length + 1
    · have hil : i < (x :: l).length := by simpa using hlt
      have hc1 := hcc.out i hil
      have hwy : Word (x :: l)[i] := HWD.out _ (List.getElem_mem hil)
      have hwm : Word (minS P D x (l.take (i - 1))) := HWD.out _ (by
        have := minS_mem P D (l.take (i - 1)) x
        simp only [List.mem_cons] at this ⊢
        exact this.imp id List.mem_of_mem_take)
      have HS := Lib.hid (show minS P D x (l.take (i + 1 - 1)) = if nrCmp P D (x :: l)[i] (minS P D x (l.take (i - 1))) < 0 then (x :: l)[i] else minS P D x (l.take (i - 1)) by
        have hi3 : i - 1 < l.length := by omega
        have e : l.take (i + 1 - 1) = l.take (i - 1) ++ [l[i - 1]] := by
          rw [show i + 1 - 1 = (i - 1) + 1 by omega]
          exact List.take_succ_eq_append_getElem hi3
        have e2 : (x :: l)[i] = l[i - 1] := by
          rw [List.getElem_cons]
          rw [dif_neg (by omega)]
        rw [e, minS_snoc, e2])
      have hii : (i : Int) < (l.length : Int) + 1 := by omega
      generalize (x :: l)[i] = y at *
      generalize minS P D x (l.take (i - 1)) = m at *
      obtain ⟨v, hv⟩ : ∃ v, nrCmp P D y m = v := ⟨_, rfl⟩
      rw [hv] at HS
      have HV := Lib.hid hv
      clear hv
      go_wp2_with fail
      refine (tpNearCmp P D g y m _ hP hD hwy hwm hh).mono ?_
      rintro e w1 ⟨rfl, hb1⟩
      rw [HV.out]
      have h2 := (hb1.block _ (Array.getElem?_eq_some_iff.1 hh).1).trans hh
      have B1 := hb.trans (hb1.mono hb.size)
      have hq2 : q < w1.heap.size := Nat.lt_of_lt_of_le hqq hb1.size
      have hc2 := Lib.hid (show ∀ i (h : i < (x :: l).length), w1.cell? ⟨q, i, none⟩ = some (.string (x :: l)[i]) from fun i h => (hb1.cell (p := ⟨q, i, none⟩) hqq).trans (hcc.out i h))
      have hc3 := (hb1.cell (p := ⟨q, i, none⟩) hqq).trans hc1
      clear hh hqq hcc hb hc1 hb1
      by_cases hneg : v < 0
      · rw [if_pos hneg] at HS
        go_wp2
        go_roundw
        case rel => exact ⟨i + 1, by omega, by omega, by go_num, by rw [HS.out], h2, hq2, hc2, B1⟩
        case measure => simp [intOf]; omega
      · rw [if_neg hneg] at HS
        go_wp2
        go_roundw
        case rel => exact ⟨i + 1, by omega, by omega, by go_num, by rw [HS.out], h2, hq2, hc2, B1⟩
        case measure => simp [intOf]; omega
    · obtain rfl : i = l.length + 1 := by omega
      have HS := Lib.hid (show minS P D x (l.take (l.length + 1 - 1)) = R by rw [Nat.add_sub_cancel, List.take_length]; exact HR.out)
      rw [HS.out]
      go_wp2
      go_ret
      exact ⟨rfl, hb⟩
theorem own_strs {w : World} {base : Nat} {v : Value} {l : List ByteArray} (h : w.ownsRow base 9 1 v l.length (scells l)) (hn : 0 < l.length) : ∃ g c, v = .slice (some ⟨g, 0, none⟩) l.length c ∧ g < w.heap.size ∧ l.length ≤ c ∧ c ≤ maxLen ∧ ∀ i (hi : i < l.length), w.cell? ⟨g, i, none⟩ = some (.string l[i]) := by
  rcases h.2 with ⟨rfl, hz⟩ | ⟨g, cap, cur, rfl, _, hgb, h1, h2, _⟩
  · omega
  · refine ⟨g, cap, rfl, (Array.getElem?_eq_some_iff.1 hgb).1, h1, h2, fun j hj => ?_⟩
    have hc := h.cells (g := g) rfl
    have := hc j (.string l[j]) (by simp [scells, hj])
    rw [add0] at this
    exact this
/-- The word that Nearest returns. -/
def nearB (P D a b c d : Nat) : ByteArray := match candJ P D a b c d 2 with
  | [] => ⟨#[]⟩
  | x :: l => minS P D x l
set_option maxHeartbeats 2000000 in
set_option maxRecDepth 100000 in
theorem tpNearest (P D n a b c d : Nat) (w : World) (h : ratE (P : Int) (D : Int) = 0) (hn : 1 ≤ n) (hn2 : n ≤ 64) (hR : nbF (shareB P D) (shareL P D) n n 0 1 1 1 = (a, b, c, d)) (hne : candJ P D a b c d 2 ≠ []) :
    Calls Tryz.prog 10 #[.agg #[.int .i64 P, .int .i64 D], .int .i64 n] w fun e w' => e = .returned (.tuple #[.string (nearB P D a b c d), .int .i64 0]) ∧ Below w.heap.size w w' := by
  obtain ⟨P', D', hP, hD, g1, g2, g3, g4⟩ := ratE_zero h
  have eP : P' = P := by omega
  have eD : D' = D := by omega
  rw [eP] at g1
  rw [eD] at g2 g3
  have HE := Lib.hid (show tgtE (P : Int) (D : Int) (n : Int) = 0 by
    rw [tgtE, h, rngE, if_neg (by omega)]
    rfl)
  have HR := Lib.hid hR
  obtain ⟨s1, s2, s3⟩ := shareL_pos (P := P) g2
  have hEE := nb_end hn s3 hR
  have hwords : ∀ y ∈ candJ P D a b c d 2, Word y := by
    intro y hy
    have k : ∀ p q, 1 ≤ q → q ≤ n → ∀ y ∈ candW P D p q, Word y := fun p q h1 h2 y hy => by
      unfold candW at hy
      split at hy
      · simp at hy
        subst hy
        exact nearWord_word h1 (by omega)
      · simp at hy
    simp only [candJ] at hy
    simp at hy
    rcases hy with hy | hy
    · exact k a b hEE.b1 hEE.bn y hy
    · exact k c d hEE.d1 hEE.dn y hy
  have hlen := candJ_len P D a b c d 2
  obtain ⟨x, l, hxl⟩ : ∃ x l, candJ P D a b c d 2 = x :: l := by
    cases hh : candJ P D a b c d 2 with
    | nil => exact absurd hh hne
    | cons x l => exact ⟨x, l, rfl⟩
  have HN := Lib.hid (show nearB P D a b c d = minS P D x l by unfold nearB; rw [hxl])
  rw [hxl] at hwords hlen
  have HXL := Lib.hid hxl
  have HWD := Lib.hid hwords
  obtain ⟨w1, hw1, k0, hb1, hz1⟩ := boxH2 w (.int .i64 P) (.int .i64 D) 23
  have HW1 := Lib.hid hw1
  obtain ⟨p0, p1, -, -⟩ := two_cell k0
  rw [HN.out]
  simp only [List.length_cons] at hlen
  clear hw1 h hP hD eP eD hR hEE hwords hxl hne HN s1 s2 s3 g4
  go_enter Tryz.func10, Tryz.ntmps10
  go_wp2_with fail
  rw [← HW1.out]
  go_wp2_with fail
  refine (tpCheckTarget _ _ _ _).mono ?_
  rintro e w2 ⟨rfl, hb2⟩
  rw [HE.out]
  have k2 := (hb2.block _ (Array.getElem?_eq_some_iff.1 k0).1).trans k0
  have B2 := hb1.trans (hb2.mono hb1.size)
  clear p0 p1 k0 hb1 hb2
  obtain ⟨p0, p1, -, -⟩ := two_cell k2
  go_wp2_with fail
  refine (tpCandidates P D n a b c d _ g2 g1 g3 hn hn2 HR.out).mono ?_
  rintro e w3 ⟨v, rfl, hrow, hb3⟩
  have k3 := (hb3.block _ (Array.getElem?_eq_some_iff.1 k2).1).trans k2
  have B3 := B2.trans (hb3.mono B2.size)
  rw [HXL.out] at hrow
  obtain ⟨q, cp, rfl, hq, hc1, hc2, hcells⟩ := own_strs hrow (by simp)
  clear hrow hb3 B2 k2 p0 p1
  have HCE := Lib.hid hcells
  clear hcells
  rw [List.length_cons]
  go_wp2_with fail
  refine (minFunc P D w.heap.size q cp x l _ (by omega) (by omega) (by omega) HWD.out k3 hq HCE.out).mono ?_
  rintro e w4 ⟨rfl, hb4⟩
  go_wp2
  go_ret2
  exact ⟨rfl, B3.trans (hb4.mono B3.size)⟩
set_option maxHeartbeats 2000000 in
set_option maxRecDepth 100000 in
theorem tpNearestNo (x y n E : Int) (w : World) (hE : tgtE x y n = E) (hz : E ≠ 0) :
    Calls Tryz.prog 10 #[.agg #[.int .i64 x, .int .i64 y], .int .i64 n] w fun e w' => e = .returned (.tuple #[.string ⟨#[]⟩, .int .i64 E]) ∧ Below w.heap.size w w' := by
  have HE := Lib.hid hE
  have hne := neE hz
  obtain ⟨w1, hw1, k0, hb1, hz1⟩ := boxH2 w (.int .i64 x) (.int .i64 y) 23
  have HW1 := Lib.hid hw1
  obtain ⟨p0, p1, -, -⟩ := two_cell k0
  clear hw1 hE hz k0
  go_enter Tryz.func10, Tryz.ntmps10
  go_wp2_with fail
  rw [← HW1.out]
  go_wp2_with fail
  refine (tpCheckTarget _ _ _ _).mono ?_
  rintro e w2 ⟨rfl, hb2⟩
  rw [HE.out]
  go_wp2
  go_ret2
  exact ⟨rfl, hb1.trans (hb2.mono hb1.size)⟩
end Go.Proofs.YtfmfpnnglogkmaaGreatDoor

/- readRun and Parse of taper. -/
namespace Go.Proofs.YtfmfpnnglogkmaaGreatDoor
open Go.RowKit Go.Shelf

def digC (c : UInt8) : Bool := decide (48 ≤ c.toNat) && decide (c.toNat ≤ 57)
/-- A run at the beginning of a string: i bytes of it were digits, of the value n. -/
def readF : Nat → Nat → List UInt8 → Option (UInt8 × Nat × Nat)
  | _, _, [] => none
  | i, n, c :: r => if 0 < i ∧ okC c = true then some (c, n, i + 1) else if i = 2 ∨ digC c = false ∨ (i = 0 ∧ c = 48) then none else readF (i + 1) (10 * n + (c.toNat - 48)) r
def runV : Option (UInt8 × Nat × Nat) → Value
  | none => .tuple #[.agg #[.string ⟨#[]⟩, .int .i64 0, .int .i64 0], .bool false]
  | some (c, n, k) => .tuple #[.agg #[.string ⟨#[c]⟩, .int .i64 n, .int .i64 k], .bool true]
theorem tpIsDigit (r : Int) (w : World) : Calls Tryz.prog 111 #[.int .i32 r] w fun e w' => e = .returned (.bool (decide (48 ≤ r ∧ r ≤ 57))) ∧ w = w' := by
  by_cases h1 : 48 ≤ r
  · by_cases h2 : r ≤ 57
    all_goals
      go_enter Tryz.func111, Tryz.ntmps111
      go_wp2
      go_ret
      simp [h1, h2]
  · go_enter Tryz.func111, Tryz.ntmps111
    go_wp2
    go_ret
    simp
    omega
theorem tpIsDigitB (r : Int) (b : Bool) (w : World) (hb : decide (48 ≤ r ∧ r ≤ 57) = b) : Calls Tryz.prog 111 #[.int .i32 r] w fun e w' => e = .returned (.bool b) ∧ w = w' := by
  subst hb
  exact tpIsDigit r w
theorem rune_str {c : UInt8} (h : isL c) (w : World) : (convert 21 9 (.int .i32 (c.toNat : Int))).run Tryz.prog w = .ok (.string ⟨#[c]⟩) w := by
  rcases h with rfl | rfl | rfl
  · exact (show ∀ w, (convert 21 9 (.int .i32 78)).run Tryz.prog w = .ok (.string ⟨#[78]⟩) w from fun w => by kernel_rfl) w
  · exact (show ∀ w, (convert 21 9 (.int .i32 66)).run Tryz.prog w = .ok (.string ⟨#[66]⟩) w from fun w => by kernel_rfl) w
  · exact (show ∀ w, (convert 21 9 (.int .i32 84)).run Tryz.prog w = .ok (.string ⟨#[84]⟩) w from fun w => by kernel_rfl) w
theorem three_cell {W : World} {b : Nat} {u v x : Value} {t : TypeId} (h : W.heap[b]? = some (.cells #[u, v, x] t (0, 0))) : (W.cell? ⟨b, 0, none⟩ = some u ∧ W.cell? ⟨b, 1, none⟩ = some v ∧ W.cell? ⟨b, 2, none⟩ = some x) ∧ W.frozen? ⟨b, 0, none⟩ = false ∧ W.frozen? ⟨b, 1, none⟩ = false ∧ W.frozen? ⟨b, 2, none⟩ = false := by
  refine ⟨⟨?_, ?_, ?_⟩, ?_, ?_, ?_⟩ <;> simp [World.cell?, World.frozen?, h]
theorem three_set {W : World} {b : Nat} {u v x : Value} {t : TypeId} (h : W.heap[b]? = some (.cells #[u, v, x] t (0, 0))) (p q r : Value) :
    (((W.setCell ⟨b, 0, none⟩ p).setCell ⟨b, 1, none⟩ q).setCell ⟨b, 2, none⟩ r).heap[b]? = some (.cells #[p, q, r] t (0, 0)) ∧ W.grownBy (((W.setCell ⟨b, 0, none⟩ p).setCell ⟨b, 1, none⟩ q).setCell ⟨b, 2, none⟩ r) (some b) := by
  have f0 : (W.setCell ⟨b, 0, none⟩ p).heap[b]? = some (.cells #[p, v, x] t (0, 0)) := by
    simp only [World.setCell, Array.getElem?_modify, if_true, h, Option.map_some]
    rfl
  have f1 : ((W.setCell ⟨b, 0, none⟩ p).setCell ⟨b, 1, none⟩ q).heap[b]? = some (.cells #[p, q, x] t (0, 0)) := by
    generalize W.setCell ⟨b, 0, none⟩ p = X at *
    simp only [World.setCell, Array.getElem?_modify, if_true, f0, Option.map_some]
    rfl
  have f2 : (((W.setCell ⟨b, 0, none⟩ p).setCell ⟨b, 1, none⟩ q).setCell ⟨b, 2, none⟩ r).heap[b]? = some (.cells #[p, q, r] t (0, 0)) := by
    generalize (W.setCell ⟨b, 0, none⟩ p).setCell ⟨b, 1, none⟩ q = X at *
    simp only [World.setCell, Array.getElem?_modify, if_true, f1, Option.map_some]
    rfl
  refine ⟨f2, ⟨rfl, rfl, rfl, by simp [World.setCell], fun i _ hne => ?_⟩⟩
  have : i ≠ b := fun e => hne (by rw [e])
  exact ((Below.heap_setCell _ _ _ i this).trans (Below.heap_setCell _ _ _ i this)).trans (Below.heap_setCell _ _ _ i this)
def RunPost (R : Option (UInt8 × Nat × Nat)) (w : World) (e : Ending) (w' : World) : Prop := e = .returned (runV R) ∧ Below w.heap.size w w'
set_option maxHeartbeats 4000000 in
set_option maxRecDepth 100000 in
theorem tpReadRun (s : ByteArray) (w : World) : Calls Tryz.prog 82 #[.string s] w (RunPost (readF 0 0 s.data.toList) w) := by
  obtain ⟨w1, hw1, r1, it1, hb1⟩ : ∃ w1, w1 = (w.alloc (.cells #[.string ⟨#[]⟩, .int .i64 0, .int .i64 0] 132)).iter s 0 ∧ w1.heap[w.heap.size]? = some (.cells #[.string ⟨#[]⟩, .int .i64 0, .int .i64 0] 132 (0, 0)) ∧ w1.heap[w.heap.size + 1]? = some (.stringIter s 0) ∧ Below w.heap.size w w1 := by
    have hz : (w.alloc (.cells #[.string ⟨#[]⟩, .int .i64 0, .int .i64 0] 132)).heap.size = w.heap.size + 1 := by simp
    have hit := World.iter_heap (w.alloc (.cells #[.string ⟨#[]⟩, .int .i64 0, .int .i64 0] 132)) s 0
    rw [hz] at hit
    have b0 : Below w.heap.size w (w.alloc (.cells #[.string ⟨#[]⟩, .int .i64 0, .int .i64 0] 132)) := (Below.refl _ _).alloc (Nat.le_refl _) _
    have b1 := (Below.refl (w.alloc (.cells #[.string ⟨#[]⟩, .int .i64 0, .int .i64 0] 132)).heap.size (w.alloc (.cells #[.string ⟨#[]⟩, .int .i64 0, .int .i64 0] 132))).alloc (Nat.le_refl _) (.stringIter s 0)
    exact ⟨_, rfl, (b1.block _ (by omega)).trans (heap_alloc_new _ _), hit, b0.trans (b1.mono b0.size)⟩
  obtain ⟨L, hL⟩ : ∃ L, s.data.toList = L := ⟨_, rfl⟩
  have hz : L.length = s.size := by rw [← hL, ← Lib.size_eq]
  obtain ⟨R, hR⟩ : ∃ R, readF 0 0 L = R := ⟨_, rfl⟩
  rw [hL, hR]
  have HL := Lib.hid hL
  have HZ := Lib.hid hz
  have HR := Lib.hid hR
  have HW1 := Lib.hid hw1
  clear hL hz hR hw1
  go_enter Tryz.func82, Tryz.ntmps82
  go_wp2_with fail
  rw [← HW1.out]
  go_loopw [4] (fun cv wr => ∃ pos cnt : Nat, pos ≤ L.length ∧ ((pos = 0 ∧ cnt = 0) ∨ (pos = 1 ∧ cnt ≤ 9) ∨ (pos = 2 ∧ cnt ≤ 99)) ∧ cv = .int .i64 cnt ∧ wr.heap[w.heap.size]? = some (.cells #[.string ⟨#[]⟩, .int .i64 0, .int .i64 0] 132 (0, 0)) ∧ wr.heap[w.heap.size + 1]? = some (.stringIter s pos) ∧ Below w.heap.size w wr ∧ readF pos cnt (L.drop pos) = R) (fun _ wr => s.size - wr.iterPos (w.heap.size + 1))
  case atStart => exact ⟨0, 0, Nat.zero_le _, .inl ⟨rfl, rfl⟩, rfl, r1, it1, hb1, HR.out⟩
  case round =>
    obtain ⟨pos, cnt, hpos, hst, rfl, hr, hit, hb, hF⟩ := hrel
    have hln := HZ.out
    have HF := Lib.hid hF
    clear hF r1 it1 hb1
    by_cases hp : pos < s.size
    · have hpl : pos < L.length := by omega
      have hkl : pos < s.data.toList.length := by rw [HL.out]; exact hpl
      have hel : s[pos] = L[pos] := by rw [← byte_at s pos hp hkl]; simp only [HL.out]
      have hdr := List.drop_eq_getElem_cons hpl
      have hF := HF.out
      rw [hdr] at hF
      generalize L[pos] = c at *
      have HF2 := Lib.hid hF
      clear hF hdr HF
      have hmu : wr.iterPos (w.heap.size + 1) = pos := by simp [World.iterPos, hit]
      by_cases ha : c.toNat < 128
      · have hnext : ∀ ty, (Instr.next (.pointer (some ⟨w.heap.size + 1, 0, none⟩)) true ty).run Tryz.prog wr = _ := fun ty => Lib.run_next_ascii_at wr (w.heap.size + 1) s pos ty hit hp (by rw [hel]; exact ha)
        rw [hel] at hnext
        have hit1 := Lib.iterAt_heap wr (w.heap.size + 1) s pos (pos + 1) hit
        have hr1 := (Lib.iterAt_other wr (w.heap.size + 1) w.heap.size s (pos + 1) (by omega)).trans hr
        have hb1' : Below w.heap.size w (wr.iterAt (w.heap.size + 1) s (pos + 1)) := Lib.below_iterAt hb (by omega) s (pos + 1)
        generalize wr.iterAt (w.heap.size + 1) s (pos + 1) = W1 at hnext hit1 hr1 hb1'
        have hmu1 : W1.iterPos (w.heap.size + 1) = pos + 1 := by simp [World.iterPos, hit1]
        have p0 : (0 : Int) ≤ (pos : Int) := by omega
        have p2 : (pos : Int) ≤ 2 := by omega
        have q0 : (0 : Int) ≤ (cnt : Int) := by omega
        have q2 : (cnt : Int) ≤ 99 := by omega
        have d0 : (0 : Int) ≤ (c.toNat : Int) := by omega
        have d1 : (c.toNat : Int) < 128 := by omega
        clear hel hr hit hb
        by_cases hz0 : pos = 0
        · have hg0 : decide (0 < pos) = false := by rw [decide_eq_false_iff_not]; omega
          have hg2 : ((pos : Int) == 2) = false := by rw [beq_eq_false_iff_ne]; omega
          have hg3 : ((pos : Int) == 0) = true := by rw [beq_iff_eq]; omega
          by_cases hd : digC c = true
          · have hdd : 48 ≤ c.toNat ∧ c.toNat ≤ 57 := by simpa [digC] using hd
            obtain ⟨hd1, hd2⟩ := hdd
            by_cases h48 : c = 48
            · have HN := Lib.hid (show (none : Option (UInt8 × Nat × Nat)) = R by
                rw [← HF2.out, readF, if_neg (by omega), if_pos (.inr (.inr ⟨hz0, h48⟩))])
              have hg4 : ((c.toNat : Int) == 48) = true := by rw [beq_iff_eq, h48]; rfl
              clear HF2 hd h48 hz0
              obtain ⟨s1, s2⟩ := three_set hr1 (.string ⟨#[]⟩) (.int .i64 0) (.int .i64 0)
              obtain ⟨⟨c0, c1, c2⟩, f0, f1, f2⟩ := three_cell hr1
              obtain ⟨⟨t0, t1, t2⟩, -, -, -⟩ := three_cell s1
              have hbf := hb1'.grown s2 hb1'.size (fun j e => by cases e; omega)
              clear s1 s2
              go_wp2_with fail
              refine (tpIsDigitB _ true _ (by rw [decide_eq_true_eq]; omega)).mono ?_
              rintro e W2 ⟨rfl, rfl⟩
              go_wp2
              exact bodyPost_ret (v := .tuple #[.agg #[.string ⟨#[]⟩, .int .i64 0, .int .i64 0], .bool false]) (by simp [results, Tryz.results82, go_sem, t0, t1, t2]) rfl ⟨by rw [← HN.out]; rfl, hbf⟩
            · have HN := Lib.hid (show readF (pos + 1) (10 * cnt + (c.toNat - 48)) (L.drop (pos + 1)) = R by
                rw [← HF2.out, readF, if_neg (by omega), if_neg]
                rintro (h | h | h)
                · omega
                · rw [hd] at h; cases h
                · exact h48 h.2)
              have hg4 : ((c.toNat : Int) == 48) = false := by
                rw [beq_eq_false_iff_ne]
                exact fun h => h48 (UInt8.toNat.inj (by show c.toNat = 48; omega))
              clear HF2 hd h48
              go_wp2_with fail
              refine (tpIsDigitB _ true _ (by rw [decide_eq_true_eq]; omega)).mono ?_
              rintro e W2 ⟨rfl, rfl⟩
              go_wp2
              go_roundw
              case rel => exact ⟨pos + 1, 10 * cnt + (c.toNat - 48), by omega, by omega, congrArg (Value.int .i64) (by omega), hr1, hit1, hb1', HN.out⟩
              case measure => rw [hmu, hmu1]; omega
          · have hd' : digC c = false := by simpa using hd
            have HN := Lib.hid (show (none : Option (UInt8 × Nat × Nat)) = R by
              rw [← HF2.out, readF, if_neg (by omega), if_pos (.inr (.inl hd'))])
            have hdn : ¬ (48 ≤ c.toNat ∧ c.toNat ≤ 57) := fun h => hd (by simp [digC, h.1, h.2])
            clear HF2 hd hd'
            obtain ⟨s1, s2⟩ := three_set hr1 (.string ⟨#[]⟩) (.int .i64 0) (.int .i64 0)
            obtain ⟨⟨c0, c1, c2⟩, f0, f1, f2⟩ := three_cell hr1
            obtain ⟨⟨t0, t1, t2⟩, -, -, -⟩ := three_cell s1
            have hbf := hb1'.grown s2 hb1'.size (fun j e => by cases e; omega)
            clear s1 s2
            go_wp2_with fail
            refine (tpIsDigitB _ false _ (by rw [decide_eq_false_iff_not]; omega)).mono ?_
            rintro e W2 ⟨rfl, rfl⟩
            go_wp2
            exact bodyPost_ret (v := .tuple #[.agg #[.string ⟨#[]⟩, .int .i64 0, .int .i64 0], .bool false]) (by simp [results, Tryz.results82, go_sem, t0, t1, t2]) rfl ⟨by rw [← HN.out]; rfl, hbf⟩
        · have hpp : 0 < pos := by omega
          have hg0 : decide (0 < pos) = true := by rw [decide_eq_true_eq]; omega
          have hg3 : ((pos : Int) == 0) = false := by rw [beq_eq_false_iff_ne]; omega
          by_cases hok : okC c = true
          · have hL := (okC_iff c).1 hok
            have HN := Lib.hid (show (some (c, cnt, pos + 1) : Option (UInt8 × Nat × Nat)) = R by
              rw [← HF2.out, readF, if_pos ⟨hpp, hok⟩])
            have hcv := rune_str hL
            obtain ⟨s1, s2⟩ := three_set hr1 (.string ⟨#[c]⟩) (.int .i64 cnt) (.int .i64 ((pos : Int) + 1))
            obtain ⟨⟨c0, c1, c2⟩, f0, f1, f2⟩ := three_cell hr1
            obtain ⟨⟨t0, t1, t2⟩, -, -, -⟩ := three_cell s1
            have hbf := hb1'.grown s2 hb1'.size (fun j e => by cases e; omega)
            clear s1 s2 HF2 hok hpp hz0
            go_wp2_with fail
            refine (tpIsLetter c _ hL).mono ?_
            rintro e W2 ⟨rfl, rfl⟩
            go_wp2
            exact bodyPost_ret (v := .tuple #[.agg #[.string ⟨#[c]⟩, .int .i64 cnt, .int .i64 ((pos : Int) + 1)], .bool true]) (by simp [results, Tryz.results82, go_sem, t0, t1, t2]) rfl ⟨by rw [← HN.out]; rfl, hbf⟩
          · have hnl : ¬ isL c := fun h => hok ((okC_iff c).2 h)
            have n0 : ¬ (c.toNat : Int) = 78 := fun e => hnl (.inl (UInt8.toNat.inj (by show c.toNat = 78; omega)))
            have n1 : ¬ (c.toNat : Int) = 66 := fun e => hnl (.inr (.inl (UInt8.toNat.inj (by show c.toNat = 66; omega))))
            have n2 : ¬ (c.toNat : Int) = 84 := fun e => hnl (.inr (.inr (UInt8.toNat.inj (by show c.toNat = 84; omega))))
            by_cases hp2 : pos = 2
            · have HN := Lib.hid (show (none : Option (UInt8 × Nat × Nat)) = R by
                rw [← HF2.out, readF, if_neg (fun h => hok h.2), if_pos (.inl hp2)])
              have hg2 : ((pos : Int) == 2) = true := by rw [beq_iff_eq]; omega
              clear HF2 hok hnl hp2 hz0 hpp
              obtain ⟨s1, s2⟩ := three_set hr1 (.string ⟨#[]⟩) (.int .i64 0) (.int .i64 0)
              obtain ⟨⟨c0, c1, c2⟩, f0, f1, f2⟩ := three_cell hr1
              obtain ⟨⟨t0, t1, t2⟩, -, -, -⟩ := three_cell s1
              have hbf := hb1'.grown s2 hb1'.size (fun j e => by cases e; omega)
              clear s1 s2
              go_wp2_with fail
              refine (tpIsLetterNo _ _ n0 n1 n2).mono ?_
              rintro e W2 ⟨rfl, rfl⟩
              go_wp2
              exact bodyPost_ret (v := .tuple #[.agg #[.string ⟨#[]⟩, .int .i64 0, .int .i64 0], .bool false]) (by simp [results, Tryz.results82, go_sem, t0, t1, t2]) rfl ⟨by rw [← HN.out]; rfl, hbf⟩
            · have hg2 : ((pos : Int) == 2) = false := by rw [beq_eq_false_iff_ne]; omega
              by_cases hd : digC c = true
              · have hdd : 48 ≤ c.toNat ∧ c.toNat ≤ 57 := by simpa [digC] using hd
                obtain ⟨hd1, hd2⟩ := hdd
                have HN := Lib.hid (show readF (pos + 1) (10 * cnt + (c.toNat - 48)) (L.drop (pos + 1)) = R by
                  rw [← HF2.out, readF, if_neg (fun h => hok h.2), if_neg]
                  rintro (h | h | h)
                  · omega
                  · rw [hd] at h; cases h
                  · omega)
                clear HF2 hd hok hnl
                go_wp2_with fail
                refine (tpIsLetterNo _ _ n0 n1 n2).mono ?_
                rintro e W2 ⟨rfl, rfl⟩
                go_wp2_with fail
                refine (tpIsDigitB _ true _ (by rw [decide_eq_true_eq]; omega)).mono ?_
                rintro e W2 ⟨rfl, rfl⟩
                go_wp2
                go_roundw
                case rel => exact ⟨pos + 1, 10 * cnt + (c.toNat - 48), by omega, by omega, congrArg (Value.int .i64) (by omega), hr1, hit1, hb1', HN.out⟩
                case measure => rw [hmu, hmu1]; omega
              · have hd' : digC c = false := by simpa using hd
                have HN := Lib.hid (show (none : Option (UInt8 × Nat × Nat)) = R by
                  rw [← HF2.out, readF, if_neg (fun h => hok h.2), if_pos (.inr (.inl hd'))])
                have hdn : ¬ (48 ≤ c.toNat ∧ c.toNat ≤ 57) := fun h => hd (by simp [digC, h.1, h.2])
                clear HF2 hd hd' hok hnl
                obtain ⟨s1, s2⟩ := three_set hr1 (.string ⟨#[]⟩) (.int .i64 0) (.int .i64 0)
                obtain ⟨⟨c0, c1, c2⟩, f0, f1, f2⟩ := three_cell hr1
                obtain ⟨⟨t0, t1, t2⟩, -, -, -⟩ := three_cell s1
                have hbf := hb1'.grown s2 hb1'.size (fun j e => by cases e; omega)
                clear s1 s2
                go_wp2_with fail
                refine (tpIsLetterNo _ _ n0 n1 n2).mono ?_
                rintro e W2 ⟨rfl, rfl⟩
                go_wp2_with fail
                refine (tpIsDigitB _ false _ (by rw [decide_eq_false_iff_not]; omega)).mono ?_
                rintro e W2 ⟨rfl, rfl⟩
                go_wp2
                exact bodyPost_ret (v := .tuple #[.agg #[.string ⟨#[]⟩, .int .i64 0, .int .i64 0], .bool false]) (by simp [results, Tryz.results82, go_sem, t0, t1, t2]) rfl ⟨by rw [← HN.out]; rfl, hbf⟩
      · have hok : ¬ okC c = true := fun h => ha (isL_small ((okC_iff c).1 h))
        have hd' : digC c = false := by
          have : ¬ c.toNat ≤ 57 := by omega
          simp [digC, this]
        have HN := Lib.hid (show (none : Option (UInt8 × Nat × Nat)) = R by
          rw [← HF2.out, readF, if_neg (fun h => hok h.2), if_pos (.inr (.inl hd'))])
        have hnext : ∀ ty, (Instr.next (.pointer (some ⟨w.heap.size + 1, 0, none⟩)) true ty).run Tryz.prog wr = _ := fun ty => Lib.run_next_any_at wr (w.heap.size + 1) s pos ty hit hp
        have hrn := (decode_high s pos hp (by rw [hel]; omega)).1
        have hit1 := Lib.iterAt_heap wr (w.heap.size + 1) s pos (pos + (Utf8.decode s pos).2) hit
        have hr1 := (Lib.iterAt_other wr (w.heap.size + 1) w.heap.size s (pos + (Utf8.decode s pos).2) (by omega)).trans hr
        have hb1' : Below w.heap.size w (wr.iterAt (w.heap.size + 1) s (pos + (Utf8.decode s pos).2)) := Lib.below_iterAt hb (by omega) s _
        generalize wr.iterAt (w.heap.size + 1) s (pos + (Utf8.decode s pos).2) = W1 at hnext hit1 hr1 hb1'
        generalize (Utf8.decode s pos).1 = rn at hnext hrn
        have n0 : ¬ (rn : Int) = 78 := by omega
        have n1 : ¬ (rn : Int) = 66 := by omega
        have n2 : ¬ (rn : Int) = 84 := by omega
        have p0 : (0 : Int) ≤ (pos : Int) := by omega
        clear hel hr hit hb HF2 hok hd' ha
        obtain ⟨s1, s2⟩ := three_set hr1 (.string ⟨#[]⟩) (.int .i64 0) (.int .i64 0)
        obtain ⟨⟨c0, c1, c2⟩, f0, f1, f2⟩ := three_cell hr1
        obtain ⟨⟨t0, t1, t2⟩, -, -, -⟩ := three_cell s1
        have hbf := hb1'.grown s2 hb1'.size (fun j e => by cases e; omega)
        clear s1 s2
        by_cases hz0 : pos = 0
        · have hg0 : decide (0 < pos) = false := by rw [decide_eq_false_iff_not]; omega
          have hg2 : ((pos : Int) == 2) = false := by rw [beq_eq_false_iff_ne]; omega
          go_wp2_with fail
          refine (tpIsDigitB _ false _ (by rw [decide_eq_false_iff_not]; omega)).mono ?_
          rintro e W2 ⟨rfl, rfl⟩
          go_wp2
          exact bodyPost_ret (v := .tuple #[.agg #[.string ⟨#[]⟩, .int .i64 0, .int .i64 0], .bool false]) (by simp [results, Tryz.results82, go_sem, t0, t1, t2]) rfl ⟨by rw [← HN.out]; rfl, hbf⟩
        · have hg0 : decide (0 < pos) = true := by rw [decide_eq_true_eq]; omega
          by_cases hp2 : pos = 2
          · have hg2 : ((pos : Int) == 2) = true := by rw [beq_iff_eq]; omega
            go_wp2_with fail
            refine (tpIsLetterNo _ _ n0 n1 n2).mono ?_
            rintro e W2 ⟨rfl, rfl⟩
            go_wp2
            exact bodyPost_ret (v := .tuple #[.agg #[.string ⟨#[]⟩, .int .i64 0, .int .i64 0], .bool false]) (by simp [results, Tryz.results82, go_sem, t0, t1, t2]) rfl ⟨by rw [← HN.out]; rfl, hbf⟩
          · have hg2 : ((pos : Int) == 2) = false := by rw [beq_eq_false_iff_ne]; omega
            go_wp2_with fail
            refine (tpIsLetterNo _ _ n0 n1 n2).mono ?_
            rintro e W2 ⟨rfl, rfl⟩
            go_wp2_with fail
            refine (tpIsDigitB _ false _ (by rw [decide_eq_false_iff_not]; omega)).mono ?_
            rintro e W2 ⟨rfl, rfl⟩
            go_wp2
            exact bodyPost_ret (v := .tuple #[.agg #[.string ⟨#[]⟩, .int .i64 0, .int .i64 0], .bool false]) (by simp [results, Tryz.results82, go_sem, t0, t1, t2]) rfl ⟨by rw [← HN.out]; rfl, hbf⟩
    · have hd : L.drop pos = [] := List.drop_of_length_le (by omega)
      have HN := Lib.hid (show (none : Option (UInt8 × Nat × Nat)) = R by rw [← HF.out, hd, readF])
      have hnext : ∀ ty, (Instr.next (.pointer (some ⟨w.heap.size + 1, 0, none⟩)) true ty).run Tryz.prog wr = _ := fun ty => Lib.run_next_end_at wr (w.heap.size + 1) s pos ty hit hp
      clear hd HF
      obtain ⟨s1, s2⟩ := three_set hr (.string ⟨#[]⟩) (.int .i64 0) (.int .i64 0)
      obtain ⟨⟨c0, c1, c2⟩, f0, f1, f2⟩ := three_cell hr
      obtain ⟨⟨t0, t1, t2⟩, -, -, -⟩ := three_cell s1
      have hbf := hb.grown s2 hb.size (fun j e => by cases e; omega)
      clear s1 s2
      go_wp2
      exact bodyPost_ret (v := .tuple #[.agg #[.string ⟨#[]⟩, .int .i64 0, .int .i64 0], .bool false]) (by simp [results, Tryz.results82, go_sem, t0, t1, t2]) rfl ⟨by rw [← HN.out]; rfl, hbf⟩
end Go.Proofs.YtfmfpnnglogkmaaGreatDoor

/- Parse of taper. -/
namespace Go.Proofs.YtfmfpnnglogkmaaGreatDoor
open Go.RowKit Go.Shelf

/-- What is parsed from place p on, where the word has so far the letters W. -/
def parseF : Nat → Nat → List UInt8 → List UInt8 → List UInt8 × Nat × Int
  | 0, p, _, _ => ([], p, 25)
  | k + 1, p, W, l => if l = [] then (W, 0, 0) else match readF 0 0 l with
    | none => ([], p, 25)
    | some (c, n, z) => if 64 < W.length + n then ([], p, 26) else parseF k (p + z) (W ++ Lib.repeatL [c] n) (l.drop z)
def parseL (L : List UInt8) : List UInt8 × Nat × Int := if L = [] then ([], 0, 12) else if 4096 < L.length then ([], 0, 26) else parseF (L.length + 1) 0 [] L
theorem readF_some : ∀ (l : List UInt8) (i n : Nat) (c : UInt8) (m z : Nat), readF i n l = some (c, m, z) → isL c ∧ i + 1 ≤ z ∧ z ≤ i + l.length ∧ (i = 0 → 2 ≤ z) ∧ ((i = 0 ∧ n = 0) ∨ (i = 1 ∧ n ≤ 9) ∨ (i = 2 ∧ n ≤ 99) → m ≤ 99)
  | [], _, _, _, _, _, h => by simp [readF] at h
  | a :: r, i, n, c, m, z, h => by
    unfold readF at h
    split at h
    · rename_i h1
      simp only [Option.some.injEq, Prod.mk.injEq] at h
      obtain ⟨rfl, rfl, rfl⟩ := h
      exact ⟨(okC_iff _).1 h1.2, Nat.le_refl _, by simp, by omega, by omega⟩
    · split at h
      · cases h
      · rename_i h1 h2
        obtain ⟨e1, e2, e3, e4, e5⟩ := readF_some r _ _ _ _ _ h
        have hd : digC a = true := by
          cases hh : digC a with
          | true => rfl
          | false => exact absurd (.inr (.inl hh)) h2
        have hdd : 48 ≤ a.toNat ∧ a.toNat ≤ 57 := by simpa [digC] using hd
        have hi2 : i ≠ 2 := fun h => h2 (.inl h)
        refine ⟨e1, by omega, by simp; omega, by omega, fun hc => e5 ?_⟩
        omega
def strA (l : List UInt8) : ByteArray := ⟨l.toArray⟩
theorem strA_cat (a b : List UInt8) : strA a ++ strA b = strA (a ++ b) := by
  have h : (strA a ++ strA b).data.toList = (strA (a ++ b)).data.toList := by simp [strA]
  exact congrArg (fun l => strA l) h
theorem strA_size (l : List UInt8) : (strA l).size = l.length := by simp [strA, ByteArray.size]
set_option maxHeartbeats 4000000 in
set_option maxRecDepth 100000 in
theorem tpParse (s : ByteArray) (w : World) (hs1 : 1 ≤ s.size) (hs : s.size ≤ 4096) :
    Calls Tryz.prog 36 #[.string s] w fun e w' => e = .returned (.tuple #[.string (strA (parseF (s.size + 1) 0 [] s.data.toList).1), .int .i64 (parseF (s.size + 1) 0 [] s.data.toList).2.1, .int .i64 (parseF (s.size + 1) 0 [] s.data.toList).2.2]) ∧ Below w.heap.size w w' := by
  obtain ⟨L, hL⟩ : ∃ L, s.data.toList = L := ⟨_, rfl⟩
  have hz : L.length = s.size := by rw [← hL, ← Lib.size_eq]
  have hne : s.toList.isEmpty = false := by
    rw [Lib.toList_data, hL]
    cases L with
    | nil => simp at hz; omega
    | cons a r => rfl
  have hlen : ¬ (4096 : Int) < (s.size : Int) := by omega
  obtain ⟨R, hR⟩ : ∃ R, parseF (s.size + 1) 0 [] L = R := ⟨_, rfl⟩
  rw [hL, hR]
  obtain ⟨RW, Rp, RE⟩ := R
  have HL := Lib.hid hL
  have HZ := Lib.hid hz
  have HR := Lib.hid hR
  clear hL hz hR
  go_enter Tryz.func36, Tryz.ntmps36
  go_wp2_with fail
  go_loopg [5, 6] (s.size + 1) (fun g wv pv wi => ∃ (p : Nat) (W : List UInt8), p ≤ s.size ∧ s.size + 1 ≤ g + p ∧ W.length ≤ 64 ∧ wv = .string (strA W) ∧ pv = .int .i64 p ∧ parseF g p W (L.drop p) = (RW, Rp, RE) ∧ Below w.heap.size w wi)
  case atStart => exact ⟨0, [], Nat.zero_le _, by omega, Nat.zero_le _, rfl, rfl, by rw [List.drop_zero]; exact HR.out, Below.refl _ _⟩
  case round =>
    obtain ⟨p, W, hp, hg, hW, rfl, rfl, hF, hb⟩ := hrel
    obtain ⟨g, rfl⟩ : ∃ g, gk = g + 1 := ⟨gk - 1, by omega⟩
    have hln := HZ.out
    have hWs := strA_size W
    by_cases hlt : p < s.size
    · have hdl : ¬ L.drop p = [] := fun h => by
        have := congrArg List.length h
        rw [List.length_drop, List.length_nil] at this
        omega
      rw [parseF, if_neg hdl] at hF
      have i0 : (0 : Int) ≤ (p : Int) := by omega
      have i1 : (p : Int) ≤ (s.size : Int) := by omega
      have he : (s.extract p s.size).data.toList = L.drop p := by rw [(ext_data s p hp).1, HL.out]
      have HE := Lib.hid he
      have HF := Lib.hid hF
      have HWS := Lib.hid hWs
      clear he hF hdl hWs
      go_wp2_with fail
      refine (tpReadRun _ _).mono ?_
      rintro e w1 ⟨rfl, hb1⟩
      rw [HE.out]
      have B1 := hb.trans (hb1.mono hb.size)
      clear hb1 hb
      obtain ⟨o, ho⟩ : ∃ o, readF 0 0 (L.drop p) = o := ⟨_, rfl⟩
      rw [ho]
      have hF := HF.out
      rw [ho] at hF
      clear HF
      cases o with
      | none =>
        simp only [Prod.mk.injEq] at hF
        obtain ⟨rfl, rfl, rfl⟩ := hF
        have hB : Below w.heap.size w (w1.alloc (.cells #[.string ⟨#[]⟩, .int .i64 0, .int .i64 0] 132)) := B1.alloc B1.size _
        unfold runV
        go_wp2
        go_ret3
        exact ⟨rfl, hB⟩
      | some q =>
        obtain ⟨c, n, z⟩ := q
        obtain ⟨hc, -, hz2, hz1, hn⟩ := readF_some _ _ _ _ _ _ ho
        have hn99 := hn (.inl ⟨rfl, rfl⟩)
        have hz0 := hz1 rfl
        rw [List.length_drop] at hz2
        clear ho hn hz1
        simp only at hF
        have hWs := HWS.out
        have n0 : (0 : Int) ≤ (n : Int) := by omega
        have n1 : (n : Int) ≤ 99 := by omega
        have z0 : (0 : Int) ≤ (z : Int) := by omega
        have z1 : (p : Int) + (z : Int) ≤ 4096 := by omega
        obtain ⟨w2, hw2, c0, c1, c2, hb2, hz3⟩ := box3 w1 (.string ⟨#[c]⟩) (.int .i64 n) (.int .i64 z) 132
        have HW2 := Lib.hid hw2
        have B2 := B1.trans (hb2.mono B1.size)
        clear hw2
        unfold runV
        by_cases hbig : 64 < W.length + n
        · rw [if_pos hbig] at hF
          simp only [Prod.mk.injEq] at hF
          obtain ⟨rfl, rfl, rfl⟩ := hF
          have HLE := Lib.hid (show lenE (((strA W).size : Int) + (n : Int)) = 26 by rw [lenE, if_pos]; omega)
          have hsz : ((strA W).size : Int) ≤ 64 := by omega
          clear hWs hbig
          go_wp2_with fail
          rw [← HW2.out]
          refine (tpCheckLengthE _ _).mono ?_
          rintro e w3 ⟨rfl, rfl⟩
          rw [HLE.out]
          go_wp2
          go_ret3
          exact ⟨rfl, B2⟩
        · rw [if_neg hbig] at hF
          have HF := Lib.hid hF
          have HLE := Lib.hid (show lenE (((strA W).size : Int) + (n : Int)) = 0 by rw [lenE, if_neg]; omega)
          have hsz : ((strA W).size : Int) ≤ 64 := by omega
          have hsz2 : (strA W).size ≤ 64 := by omega
          have HCAT := Lib.hid (show strA W ++ (⟨(Lib.repeatL [c] n).toArray⟩ : ByteArray) = strA (W ++ Lib.repeatL [c] n) from strA_cat _ _)
          have hrl : (⟨(Lib.repeatL [c] n).toArray⟩ : ByteArray).size ≤ 99 := by
            show (Lib.repeatL [c] n).toArray.size ≤ 99
            rw [List.size_toArray, Lib.repeatL_length]
            simp; omega
          have HNL := Lib.hid (show (W ++ Lib.repeatL [c] n).length ≤ 64 by rw [List.length_append, Lib.repeatL_length]; simp; omega)
          have HDR := Lib.hid (show (L.drop p).drop z = L.drop (p + z) from List.drop_drop)
          clear hWs hF
          go_wp2_with fail
          rw [← HW2.out]
          refine (tpCheckLengthE _ _).mono ?_
          rintro e w3 ⟨rfl, rfl⟩
          rw [HLE.out]
          go_wp2_with fail
          refine (tpRepeated _ n _ (by show (1 : Nat) ≤ 64; decide) (by omega)).mono ?_
          rintro e w4 ⟨rfl, hb4⟩
          have d2 := (hb4.cell (p := ⟨w1.heap.size, 2, none⟩) hz3).trans c2
          have B4 := B2.trans (hb4.mono B2.size)
          go_wp2
          go_roundg g
          case rel => exact ⟨p + z, W ++ Lib.repeatL [c] n, by omega, by omega, HNL.out, congrArg Value.string HCAT.out, by go_num, by rw [← HDR.out]; exact HF.out, B4⟩
          case measure => omega
    · obtain rfl : p = s.size := by omega
      have hdl : L.drop s.size = [] := List.drop_of_length_le (by omega)
      rw [parseF, if_pos hdl] at hF
      simp only [Prod.mk.injEq] at hF
      obtain ⟨rfl, rfl, rfl⟩ := hF
      clear hdl
      go_wp2
      go_ret3
      exact ⟨rfl, hb⟩
set_option maxHeartbeats 1000000 in
set_option maxRecDepth 100000 in
/-- Parse at all strings. -/
theorem tpParseAll (s : ByteArray) (w : World) :
    Calls Tryz.prog 36 #[.string s] w fun e w' => e = .returned (.tuple #[.string (strA (parseL s.data.toList).1), .int .i64 (parseL s.data.toList).2.1, .int .i64 (parseL s.data.toList).2.2]) ∧ Below w.heap.size w w' := by
  have hz := Lib.size_eq s
  by_cases h0 : s.data.toList = []
  · have he : s.toList.isEmpty = true := by rw [Lib.toList_data, h0]; rfl
    rw [parseL, if_pos h0]
    clear hz h0
    go_enter Tryz.func36, Tryz.ntmps36
    go_wp2
    go_ret3
    exact ⟨rfl, Below.refl _ _⟩
  · have h1 : 1 ≤ s.size := by
      rw [hz]
      cases hl : s.data.toList with
      | nil => exact absurd hl h0
      | cons a r => simp
    by_cases h2 : 4096 < s.size
    · have hne : s.toList.isEmpty = false := by
        rw [Lib.toList_data]
        cases hl : s.data.toList with
        | nil => exact absurd hl h0
        | cons a r => rfl
      have hlen : (4096 : Int) < (s.size : Int) := by omega
      rw [parseL, if_neg h0, if_pos (by omega)]
      clear hz h0
      go_enter Tryz.func36, Tryz.ntmps36
      go_wp2
      go_ret3
      exact ⟨rfl, Below.refl _ _⟩
    · have e : parseL s.data.toList = parseF (s.size + 1) 0 [] s.data.toList := by rw [parseL, if_neg h0, if_neg (by omega), ← hz]
      rw [e]
      exact tpParse s w h1 (by omega)
end Go.Proofs.YtfmfpnnglogkmaaGreatDoor

/- The calls that awake makes, each with its result. -/
namespace Go.Proofs.YtfmfpnnglogkmaaGreatDoor
open Go.RowKit Go.Shelf Ck

theorem word_of (l : List UInt8) (h : l.all okC = true) (h1 : 1 ≤ l.length) (h2 : l.length ≤ 64) : Word ⟨l.toArray⟩ := by
  have hs : (⟨l.toArray⟩ : ByteArray).size = l.length := by show l.toArray.size = _; simp
  refine ⟨fun c hc => ?_, by omega, by omega⟩
  rw [List.all_eq_true] at h
  exact (okC_iff c).1 (h c hc)
theorem aw1 (w : World) : Calls Tryz.prog 33 #[.string ⟨#[78, 66, 66]⟩] w fun e w' => e = .returned (.tuple #[.agg #[.int .i64 2, .int .i64 4], .int .i64 0]) ∧ Below w.heap.size w w' :=
  (tpVectorOk ⟨#[78, 66, 66]⟩ w (word_of [78, 66, 66] (by decide) (by decide) (by decide))).mono fun e w' ⟨h, hb⟩ => ⟨h.trans (by
    rw [show (vecL (⟨#[78, 66, 66]⟩ : ByteArray).data.toList) = (2, 4) by decide]), hb⟩
theorem aw2 (w : World) : Calls Tryz.prog 35 #[.string ⟨#[78, 66, 66]⟩] w fun e w' => e = .returned (.tuple #[.string ⟨#[49, 78, 50, 66]⟩, .int .i64 0]) ∧ Below w.heap.size w w' :=
  (tpPrint ⟨#[78, 66, 66]⟩ w (word_of [78, 66, 66] (by decide) (by decide) (by decide))).mono fun e w' ⟨h, hb⟩ => ⟨h.trans (by
    rw [show printL (⟨#[78, 66, 66]⟩ : ByteArray).data.toList = [49, 78, 50, 66] by decide +kernel]), hb⟩
theorem aw3 (w : World) : Calls Tryz.prog 36 #[.string ⟨#[49, 78, 50, 66, 49, 66]⟩] w fun e w' => e = .returned (.tuple #[.string ⟨#[78, 66, 66, 66]⟩, .int .i64 0, .int .i64 0]) ∧ Below w.heap.size w w' :=
  (tpParseAll ⟨#[49, 78, 50, 66, 49, 66]⟩ w).mono fun e w' ⟨h, hb⟩ => ⟨h.trans (by
    rw [show parseL (⟨#[49, 78, 50, 66, 49, 66]⟩ : ByteArray).data.toList = ([78, 66, 66, 66], 0, 0) by decide +kernel]
    rfl), hb⟩
theorem aw4 (w : World) : Calls Tryz.prog 37 #[.string ⟨#[78, 66, 66, 78, 66, 66]⟩] w fun e w' => e = .returned (.tuple #[.string ⟨#[78, 66, 66]⟩, .int .i64 2, .int .i64 0]) ∧ Below w.heap.size w w' :=
  (tpRoot ⟨#[78, 66, 66, 78, 66, 66]⟩ w (word_of [78, 66, 66, 78, 66, 66] (by decide) (by decide) (by decide))).mono fun e w' ⟨h, hb⟩ => ⟨h.trans (by
    rw [show rootN (⟨#[78, 66, 66, 78, 66, 66]⟩ : ByteArray).data.toList = 3 by decide +kernel]
    rfl), hb⟩
theorem aw5 (w : World) : Calls Tryz.prog 38 #[.string ⟨#[78, 66, 66, 78, 66, 66]⟩] w fun e w' => e = .returned (.tuple #[.string ⟨#[66, 66, 78, 66, 66, 78]⟩, .int .i64 0]) ∧ Below w.heap.size w w' :=
  (tpLeast ⟨#[78, 66, 66, 78, 66, 66]⟩ w (word_of [78, 66, 66, 78, 66, 66] (by decide) (by decide) (by decide))).mono fun e w' ⟨h, hb⟩ => ⟨h.trans (by
    rw [show lstW (⟨#[78, 66, 66, 78, 66, 66]⟩ : ByteArray).data.toList = [66, 66, 78, 66, 66, 78] by decide +kernel]), hb⟩
theorem aw6 (w : World) : Calls Tryz.prog 39 #[.string ⟨#[66]⟩, .int .i64 2, .string ⟨#[78]⟩, .int .i64 3] w fun e w' => e = .returned (.tuple #[.string ⟨#[78, 78, 66, 78, 66]⟩, .int .i64 0]) ∧ Below w.heap.size w w' :=
  (tpSpreadAll ⟨#[66]⟩ ⟨#[78]⟩ 2 3 w (by decide) (by decide)).mono fun e w' ⟨h, hb⟩ => ⟨h.trans (by
    rw [show sprS ⟨#[66]⟩ 2 ⟨#[78]⟩ 3 = ⟨#[78, 78, 66, 78, 66]⟩ by decide +kernel, show sprE ⟨#[66]⟩ 2 ⟨#[78]⟩ 3 = 0 by decide +kernel]), hb⟩
theorem aw7 (w : World) : Calls Tryz.prog 40 #[.string ⟨#[78, 78, 66, 66]⟩] w fun e w' => e = .returned (.tuple #[.bool false, .int .i64 0]) ∧ Below w.heap.size w w' :=
  (tpBalanced ⟨#[78, 78, 66, 66]⟩ w (word_of [78, 78, 66, 66] (by decide) (by decide) (by decide))).mono fun e w' ⟨h, hb⟩ => ⟨h.trans (by
    rw [show balB ⟨#[78, 78, 66, 66]⟩ = false by decide +kernel]), hb⟩
theorem aw8 (w : World) : Calls Tryz.prog 41 #[.string ⟨#[78, 66]⟩, .int .i64 1, .string ⟨#[66]⟩, .int .i64 2] w fun e w' => e = .returned (.tuple #[.string ⟨#[66, 66, 78, 66]⟩, .int .i64 0]) ∧ Below w.heap.size w w' :=
  (tpMix ⟨#[78, 66]⟩ ⟨#[66]⟩ 1 2 w (by decide) (by decide)).mono fun e w' ⟨h, hb⟩ => ⟨h.trans (by
    rw [show mixS ⟨#[78, 66]⟩ 1 ⟨#[66]⟩ 2 = ⟨#[66, 66, 78, 66]⟩ by decide +kernel, show mixE ⟨#[78, 66]⟩ 1 ⟨#[66]⟩ 2 = 0 by decide +kernel]), hb⟩
theorem aw9 (w : World) : Calls Tryz.prog 36 #[.string ⟨#[49, 78, 48, 66]⟩] w fun e w' => e = .returned (.tuple #[.string ⟨#[]⟩, .int .i64 2, .int .i64 25]) ∧ Below w.heap.size w w' :=
  (tpParseAll ⟨#[49, 78, 48, 66]⟩ w).mono fun e w' ⟨h, hb⟩ => ⟨h.trans (by
    rw [show parseL (⟨#[49, 78, 48, 66]⟩ : ByteArray).data.toList = ([], 2, 25) by decide +kernel]
    rfl), hb⟩
theorem aw10 (w : World) : Calls Tryz.prog 42 #[.agg #[.int .i64 2, .int .i64 5]] w fun e w' => e = .returned (.tuple #[.agg #[.int .i64 4, .int .i64 7], .int .i64 0]) ∧ Below w.heap.size w w' :=
  (tpShareOk 2 5 w (by decide +kernel) (by decide +kernel)).mono fun e w' ⟨h, hb⟩ => ⟨h.trans (by
    rw [show shareB 2 5 = 4 by decide +kernel, show shareL 2 5 = 7 by decide +kernel]
    rfl), hb⟩
theorem aw11 (w : World) : Calls Tryz.prog 32 #[.agg #[.int .i64 2, .int .i64 5]] w fun e w' => e = .returned (.tuple #[.string ⟨#[78, 66, 78, 66, 78, 66, 66]⟩, .int .i64 0]) ∧ Below w.heap.size w w' :=
  (tpExactOk 2 5 w (by decide +kernel) (by decide +kernel)).mono fun e w' ⟨h, hb⟩ => ⟨h.trans (by
    rw [show slB 2 5 = ⟨#[78, 66, 78, 66, 78, 66, 66]⟩ by decide +kernel]), hb⟩
theorem aw12 (w : World) : Calls Tryz.prog 8 #[.agg #[.int .i64 2, .int .i64 5], .int .i64 4] w fun e w' => e = .returned (.tuple #[.agg #[.int .i64 1, .int .i64 2, .int .i64 2, .int .i64 3], .int .i64 0]) ∧ Below w.heap.size w w' :=
  tpNeighbours 2 5 4 1 2 2 3 w (by decide +kernel) (by decide) (by decide) (by decide +kernel)
theorem aw13 (w : World) : Calls Tryz.prog 10 #[.agg #[.int .i64 2, .int .i64 5], .int .i64 4] w fun e w' => e = .returned (.tuple #[.string ⟨#[78, 66]⟩, .int .i64 0]) ∧ Below w.heap.size w w' :=
  (tpNearest 2 5 4 1 2 2 3 w (by decide +kernel) (by decide) (by decide) (by decide +kernel) (by decide +kernel)).mono fun e w' ⟨h, hb⟩ => ⟨h.trans (by
    rw [show nearB 2 5 1 2 2 3 = ⟨#[78, 66]⟩ by decide +kernel]), hb⟩
theorem edge0 : EdgeOk 0 0 ⟨#[78, 66, 66]⟩ 1 := ⟨word_of [78, 66, 66] (by decide) (by decide) (by decide), by decide, by decide, by decide, by decide, by decide, by decide, by decide⟩
/-- Meshes returns a slice that reads as these places. -/
def MeshesS (l : List Knot) (w : World) (e : Ending) (w' : World) : Prop := ∃ a c, e = .returned (.tuple #[.slice a l.length c, .int .i64 0]) ∧ RK w' w'.heap.size a l ∧ Below w.heap.size w w'
theorem meshesS (x y : Int) (s : ByteArray) (c : Nat) (o : Bool) (l : List Knot) (n : Int) (hn : n = (c : Int)) (w : World) (hl : midsP (sg o) ⟨x, y⟩ (Lib.repeatL s.data.toList c) = l) (h : EdgeOk x y s c) :
    Calls Tryz.prog 19 #[.agg #[.int .i64 x, .int .i64 y], .string s, .int .i64 n, .bool o] w (MeshesS l w) := by
  subst hn hl
  exact (tpMeshes x y s c o w h).mono fun e w' ⟨v, he, hrow, hb⟩ => by
    obtain ⟨a, c', rfl, hok⟩ := own_rkW hrow
    exact ⟨a, c', he, hok, hb⟩
theorem aw14 (w : World) : Calls Tryz.prog 17 #[.agg #[.int .i64 0, .int .i64 0], .string ⟨#[78, 66, 66]⟩, .int .i64 1, .bool false] w (KnotsPost [⟨0, 0⟩, ⟨0, 2⟩, ⟨-1, 3⟩, ⟨-2, 4⟩] w) :=
  walkS 0 0 ⟨#[78, 66, 66]⟩ 1 false _ 1 rfl w (by decide +kernel) edge0
theorem aw15 (w : World) : Calls Tryz.prog 18 #[.agg #[.int .i64 0, .int .i64 0], .string ⟨#[78, 66, 66]⟩, .int .i64 1, .bool true] w (PairPost [⟨0, 2, 1⟩, ⟨1, 3, 1⟩] w) :=
  barsSI 0 0 ⟨#[78, 66, 66]⟩ 1 true _ 1 rfl w (by decide +kernel) edge0
theorem aw16 (w : World) : Calls Tryz.prog 19 #[.agg #[.int .i64 0, .int .i64 0], .string ⟨#[78, 66, 66]⟩, .int .i64 1, .bool true] w (MeshesS [⟨0, 1⟩] w) :=
  meshesS 0 0 ⟨#[78, 66, 66]⟩ 1 true _ 1 rfl w (by decide +kernel) edge0
end Go.Proofs.YtfmfpnnglogkmaaGreatDoor

/- awake of the statements of chapter 2. -/
namespace Go.Proofs.YtfmfpnnglogkmaaGreatDoor
open Go.RowKit Go.Shelf Ck

theorem boxB (w : World) (o : Obj) : ∃ w1, w1 = w.alloc o ∧ w1.heap[w.heap.size]? = some o ∧ Below w.heap.size w w1 := ⟨_, rfl, heap_alloc_new _ _, (Below.refl _ _).alloc (Nat.le_refl _) _⟩
theorem neqPair24 (w : World) : (Op.equalIn 10000 66 (.agg #[.int .i64 2, .int .i64 4]) (.agg #[.int .i64 2, .int .i64 4])).run Tryz.prog w = .ok true w := eqPairSame 2 4 w
set_option maxRecDepth 100000 in
theorem eqParts (w : World) : (Op.equalIn 10000 29 (.agg #[.int .i64 1, .int .i64 2, .int .i64 2, .int .i64 3]) (.agg #[.int .i64 1, .int .i64 2, .int .i64 2, .int .i64 3])).run Tryz.prog w = .ok true w := by kernel_rfl
theorem guardParts : Tryz.prog.eqGuardType Tryz.prog.depth 29 = false := by kernel_rfl
theorem rb_row2 (W : World) (a b : Bar) (g : Nat) (t : TypeId) (h : W.heap[g]? = some (.cells #[.int .i64 a.x, .int .i64 a.y, .int .i64 a.s, .int .i64 b.x, .int .i64 b.y, .int .i64 b.s] t (0, 0))) : RB W W.heap.size (some ⟨g, 0, none⟩) [a, b] := fun _ =>
  ⟨g, 0, rfl, (Array.getElem?_eq_some_iff.1 h).1, fun i hi => by
    have : i = 0 ∨ i = 1 := by simp at hi; omega
    rcases this with rfl | rfl
    · exact ⟨by simp [World.cell?, h], by simp [World.cell?, h], by simp [World.cell?, h]⟩
    · exact ⟨by simp [World.cell?, h], by simp [World.cell?, h], by simp [World.cell?, h]⟩⟩
theorem rk_row1 (W : World) (a : Knot) (g : Nat) (t : TypeId) (h : W.heap[g]? = some (.cells #[.int .i64 a.x, .int .i64 a.y] t (0, 0))) : RK W W.heap.size (some ⟨g, 0, none⟩) [a] := fun _ =>
  ⟨g, 0, rfl, (Array.getElem?_eq_some_iff.1 h).1, fun i hi => by
    have : i = 0 := by simp at hi; omega
    subst this
    exact ⟨by simp [World.cell?, h], by simp [World.cell?, h]⟩⟩
set_option maxHeartbeats 4000000 in
set_option maxRecDepth 100000 in
theorem awake2 (w : World) : Calls Tryz.prog 7 #[] w fun e w' => e = .returned (.bool true) ∧ Below w.heap.size w w' := by
  go_enter Tryz.func7, Tryz.ntmps7
  go_wp2_with fail
  refine (aw1 _).mono ?_
  rintro e w1 ⟨rfl, hb1⟩
  obtain ⟨x1, hx1, k1, hc1⟩ := boxB w1 (.cells #[.int .i64 2, .int .i64 4] 66)
  have B1 := hb1.trans (hc1.mono hb1.size)
  have HX1 := Lib.hid hx1
  clear hb1 hc1 hx1
  go_wp2_with fail
  rw [← HX1.out]
  refine (aw2 _).mono ?_
  rintro e w2 ⟨rfl, hb2⟩
  have k2 := (hb2.block _ (Array.getElem?_eq_some_iff.1 k1).1).trans k1
  have B2 := B1.trans (hb2.mono B1.size)
  clear hb2 k1 B1
  go_wp2_with fail
  refine (aw3 _).mono ?_
  rintro e w3 ⟨rfl, hb3⟩
  have k3 := (hb3.block _ (Array.getElem?_eq_some_iff.1 k2).1).trans k2
  have B3 := B2.trans (hb3.mono B2.size)
  clear hb3 k2 B2
  go_wp2_with fail
  refine (aw4 _).mono ?_
  rintro e w4 ⟨rfl, hb4⟩
  have k4 := (hb4.block _ (Array.getElem?_eq_some_iff.1 k3).1).trans k3
  have B4 := B3.trans (hb4.mono B3.size)
  clear hb4 k3 B3
  go_wp2_with fail
  refine (aw5 _).mono ?_
  rintro e w5 ⟨rfl, hb5⟩
  have k5 := (hb5.block _ (Array.getElem?_eq_some_iff.1 k4).1).trans k4
  have B5 := B4.trans (hb5.mono B4.size)
  clear hb5 k4 B4
  go_wp2_with fail
  refine (aw6 _).mono ?_
  rintro e w6 ⟨rfl, hb6⟩
  have k6 := (hb6.block _ (Array.getElem?_eq_some_iff.1 k5).1).trans k5
  have B6 := B5.trans (hb6.mono B5.size)
  clear hb6 k5 B5
  go_wp2_with fail
  refine (aw7 _).mono ?_
  rintro e w7 ⟨rfl, hb7⟩
  have k7 := (hb7.block _ (Array.getElem?_eq_some_iff.1 k6).1).trans k6
  have B7 := B6.trans (hb7.mono B6.size)
  clear hb7 k6 B6
  go_wp2_with fail
  refine (aw8 _).mono ?_
  rintro e w8 ⟨rfl, hb8⟩
  have k8 := (hb8.block _ (Array.getElem?_eq_some_iff.1 k7).1).trans k7
  have B8 := B7.trans (hb8.mono B7.size)
  clear hb8 k7 B7
  obtain ⟨v0, v1, -, -⟩ := two_cell k8
  have hes := neqPair24
  have hgp := guardPair
  go_wp2_with fail
  refine (aw9 _).mono ?_
  rintro e w9 ⟨rfl, hb9⟩
  have B9 := B8.trans (hb9.mono B8.size)
  clear hb9 k8 B8 v0 v1 hes hgp
  go_wp2_with fail
  refine (aw10 _).mono ?_
  rintro e w10 ⟨rfl, hb10⟩
  have B10 := B9.trans (hb10.mono B9.size)
  clear hb10 B9
  obtain ⟨x10, hx10, h10, hc10⟩ := boxB w10 (.cells #[.int .i64 4, .int .i64 7] 23)
  have C10 := B10.trans (hc10.mono B10.size)
  have HX10 := Lib.hid hx10
  clear hc10 hx10 B10
  go_wp2_with fail
  rw [← HX10.out]
  refine (aw11 _).mono ?_
  rintro e w11 ⟨rfl, hb11⟩
  have h11 := (hb11.block _ (Array.getElem?_eq_some_iff.1 h10).1).trans h10
  have B11 := C10.trans (hb11.mono C10.size)
  clear hb11 h10 C10
  go_wp2_with fail
  refine (aw12 _).mono ?_
  rintro e w12 ⟨rfl, hb12⟩
  have h12 := (hb12.block _ (Array.getElem?_eq_some_iff.1 h11).1).trans h11
  have B12 := B11.trans (hb12.mono B11.size)
  clear hb12 h11 B11
  obtain ⟨x12, hx12, n12, hc12⟩ := boxB w12 (.cells #[.int .i64 1, .int .i64 2, .int .i64 2, .int .i64 3] 29)
  have h12' := (hc12.block _ (Array.getElem?_eq_some_iff.1 h12).1).trans h12
  have C12 := B12.trans (hc12.mono B12.size)
  have HX12 := Lib.hid hx12
  clear hc12 hx12 B12 h12
  go_wp2_with fail
  rw [← HX12.out]
  refine (aw13 _).mono ?_
  rintro e w13 ⟨rfl, hb13⟩
  have h13 := (hb13.block _ (Array.getElem?_eq_some_iff.1 h12').1).trans h12'
  have n13 := (hb13.block _ (Array.getElem?_eq_some_iff.1 n12).1).trans n12
  have B13 := C12.trans (hb13.mono C12.size)
  clear hb13 h12' n12 C12
  go_wp2_with fail
  refine (aw14 _).mono ?_
  rintro e w14 ⟨a14, c14, rfl, r14, hb14⟩
  have h14 := (hb14.block _ (Array.getElem?_eq_some_iff.1 h13).1).trans h13
  have n14 := (hb14.block _ (Array.getElem?_eq_some_iff.1 n13).1).trans n13
  have B14 := B13.trans (hb14.mono B13.size)
  have R14 := Lib.hid r14
  clear hb14 h13 n13 B13 r14
  go_wp2_with fail
  refine (aw15 _).mono ?_
  rintro e w15 ⟨a15, c15, rfl, r15, hb15⟩
  have h15 := (hb15.block _ (Array.getElem?_eq_some_iff.1 h14).1).trans h14
  have n15 := (hb15.block _ (Array.getElem?_eq_some_iff.1 n14).1).trans n14
  have B15 := B14.trans (hb15.mono B14.size)
  have R15 := Lib.hid (rkBelow R14.out hb15)
  have S15 := Lib.hid r15
  clear hb15 h14 n14 B14 r15 R14
  go_wp2_with fail
  refine (aw16 _).mono ?_
  rintro e w16 ⟨a16, c16, rfl, r16, hb16⟩
  have h16 := (hb16.block _ (Array.getElem?_eq_some_iff.1 h15).1).trans h15
  have n16 := (hb16.block _ (Array.getElem?_eq_some_iff.1 n15).1).trans n15
  have B16 := B15.trans (hb16.mono B15.size)
  have R16 := Lib.hid (rkBelow R15.out hb16)
  have S16 := Lib.hid (S15.out.below hb16)
  have T16 := Lib.hid r16
  clear hb16 h15 n15 B15 r16 R15 S15
  obtain ⟨kb, ko, rfl, hkB, hkc⟩ := R16.out (by decide)
  obtain ⟨kx, ky⟩ := hkc 3 (by decide)
  have HKB := Lib.hid hkB
  clear hkc hkB
  obtain ⟨v0, v1, -, -⟩ := two_cell h16
  obtain ⟨⟨l0, l1, l2, l3⟩, -, -, -, -⟩ := four_cell n16
  have hes := eqParts
  have hgp := guardParts
  go_wp2_with fail
  obtain ⟨x17, hx17, m17, hc17⟩ := boxB w16 (.cells #[.int .i64 0, .int .i64 2, .int .i64 1, .int .i64 1, .int .i64 3, .int .i64 1] 74)
  rw [← hx17]
  have B17 := B16.trans (hc17.mono B16.size)
  have S17 := (S16.out.2.2.2.below hc17).more hc17.size
  have T17 := Lib.hid (rkBelow T16.out hc17)
  refine (refSameBars a15 (some ⟨w16.heap.size, 0, none⟩) c15 2 [⟨0, 2, 1⟩, ⟨1, 3, 1⟩] _ (by decide) S17 (rb_row2 _ ⟨0, 2, 1⟩ ⟨1, 3, 1⟩ _ _ m17)).mono ?_
  rintro e w18 ⟨rfl, hb18⟩
  have B18 := B17.trans (hb18.mono B17.size)
  have T18 := Lib.hid (rkBelow T17.out hb18)
  clear hx17 m17 hc17 S17 hb18 hes hgp kx ky v0 v1 l0 l1 l2 l3 h16 n16
  go_wp2_with fail
  obtain ⟨x19, hx19, m19, hc19⟩ := boxB w18 (.cells #[.int .i64 0, .int .i64 1] 66)
  rw [← hx19]
  have B19 := B18.trans (hc19.mono B18.size)
  refine (refSameMeshes a16 (some ⟨w18.heap.size, 0, none⟩) c16 1 [⟨0, 1⟩] _ (by decide) (rkBelow T18.out hc19) (rk_row1 _ ⟨0, 1⟩ _ _ m19)).mono ?_
  rintro e w20 ⟨rfl, hb20⟩
  have B20 := B19.trans (hb20.mono B19.size)
  clear hx19 m19 hc19 hb20
  go_wp2
  go_ret
  exact ⟨rfl, B20⟩
end Go.Proofs.YtfmfpnnglogkmaaGreatDoor

/- The reference of chapter 2: First, outside, the checks of Spread and Mix, and Mix itself; text. -/
namespace Go.Proofs.YtfmfpnnglogkmaaGreatDoor
open Go.RowKit Go.Shelf Ck

set_option maxHeartbeats 400000 in
theorem rfFirst (b c : Nat) (es : List Int) (w : World) (hn : es.length ≤ 100) (hc : ∀ i (h : i < es.length), w.cell? ⟨b, i, none⟩ = some (.int .i64 es[i])) :
    Calls Tryz.prog 63 #[.slice (some ⟨b, 0, none⟩) es.length c] w fun e w' => e = .returned (.int .i64 (firstE es)) ∧ Below w.heap.size w w' := by
  have HC := Lib.hid hc
  have hn' : (es.length : Int) ≤ 100 := by omega
  clear hc
  go_enter Tryz.func63, Tryz.ntmps63
  go_wp2_with fail
  go_loop [3] (fun i => ∃ k : Nat, k ≤ es.length ∧ i = .int .i64 k ∧ firstE es = firstE (es.drop k)) (fun i => es.length - (intOf i).toNat)
  case atStart => exact ⟨0, Nat.zero_le _, rfl, rfl⟩
  case round =>
    obtain ⟨k, hk, rfl, he⟩ := hrel
    have HE := Lib.hid he
    clear he
    by_cases hlt : k < es.length
    · have hcell := HC.out k hlt
      have b0 : (0 : Int) ≤ (k : Int) := by omega
      have b1 : (k : Int) < (es.length : Int) := by omega
      by_cases hz : es[k] = 0
      · have HF := Lib.hid (show firstE (es.drop k) = firstE (es.drop (k + 1)) by
          rw [List.drop_eq_getElem_cons hlt]
          simp only [firstE, hz, if_true])
        rw [hz] at hcell
        clear hz
        go_wp2
        go_round
        case rel => exact ⟨k + 1, by omega, by go_num, HE.out.trans HF.out⟩
        case measure => simp [intOf]; omega
      · have HF := Lib.hid (show firstE (es.drop k) = es[k] by
          rw [List.drop_eq_getElem_cons hlt]
          simp only [firstE, if_neg hz])
        have hz1 : (es[k] != 0) = true := by rw [bne_iff_ne]; exact hz
        clear hz
        go_wp2
        go_ret
        exact ⟨ret_i (HE.out.trans HF.out).symm, Below.refl _ _⟩
    · obtain rfl : k = es.length := by omega
      have HF := Lib.hid (show firstE (es.drop es.length) = 0 by rw [List.drop_length]; rfl)
      go_wp2
      go_ret
      exact ⟨ret_i (HE.out.trans HF.out).symm, Below.refl _ _⟩
theorem rfFirst2 (g d : Nat) (a b : Int) (t : TypeId) (w : World) (h : w.heap[g]? = some (.cells #[.int .i64 a, .int .i64 b] t (0, 0))) :
    Calls Tryz.prog 63 #[.slice (some ⟨g, 0, none⟩) 2 d] w fun e w' => e = .returned (.int .i64 (firstE [a, b])) ∧ Below w.heap.size w w' :=
  rfFirst g d [a, b] w (by simp) (two_cells h)
theorem rfFirst3 (g d : Nat) (a b c : Int) (t : TypeId) (w : World) (h : w.heap[g]? = some (.cells #[.int .i64 a, .int .i64 b, .int .i64 c] t (0, 0))) :
    Calls Tryz.prog 63 #[.slice (some ⟨g, 0, none⟩) 3 d] w fun e w' => e = .returned (.int .i64 (firstE [a, b, c])) ∧ Below w.heap.size w w' :=
  rfFirst g d [a, b, c] w (by simp) (three_err h)
theorem rfFirst4 (g d : Nat) (a b c e' : Int) (t : TypeId) (w : World) (h : w.heap[g]? = some (.cells #[.int .i64 a, .int .i64 b, .int .i64 c, .int .i64 e'] t (0, 0))) :
    Calls Tryz.prog 63 #[.slice (some ⟨g, 0, none⟩) 4 d] w fun e w' => e = .returned (.int .i64 (firstE [a, b, c, e'])) ∧ Below w.heap.size w w' :=
  rfFirst g d [a, b, c, e'] w (by simp) (four_err h)
set_option maxHeartbeats 400000 in
theorem rfOutside (n lo hi : Int) (w : World) : Calls Tryz.prog 65 #[.int .i64 n, .int .i64 lo, .int .i64 hi] w fun e w' => e = .returned (.int .i64 (rngE n lo hi)) ∧ w = w' := by
  unfold rngE
  by_cases h1 : n < lo
  · go_enter Tryz.func65, Tryz.ntmps65
    go_wp2
    go_ret
    simp
  · by_cases h2 : hi < n
    all_goals
      go_enter Tryz.func65, Tryz.ntmps65
      go_wp2
      go_ret
      simp <;> omega
end Go.Proofs.YtfmfpnnglogkmaaGreatDoor

/- The reference's Mix, CheckSpread and CheckMix; text. -/
namespace Go.Proofs.YtfmfpnnglogkmaaGreatDoor
open Go.RowKit Go.Shelf Ck

set_option maxHeartbeats 4000000 in
set_option maxRecDepth 100000 in
theorem rfMix (v u : ByteArray) (m n : Nat) (w : World) (hv : v.size ≤ 100) (hu : u.size ≤ 100) (hm : m ≤ 1000) (hn : n ≤ 1000) :
    Calls Tryz.prog 68 #[.string v, .int .i64 m, .string u, .int .i64 n] w fun e w' => e = .returned (.string (strA (spreadL v.data.toList m u.data.toList n (m + n)))) ∧ Below w.heap.size w w' := by
  have HSP := Lib.hid (show ∀ k, (spreadL v.data.toList m u.data.toList n k).length ≤ k * 100 from spreadL_short (by rw [← Lib.size_eq]; exact hv) (by rw [← Lib.size_eq]; exact hu))
  have HV := Lib.hid hv
  have HU := Lib.hid hu
  obtain ⟨S, hS⟩ : ∃ S : Nat → List UInt8, S = spreadL v.data.toList m u.data.toList n := ⟨_, rfl⟩
  have HS := Lib.hid hS
  rw [← hS] at HSP ⊢
  clear hv hu hS
  have m0 : (0 : Int) ≤ (m : Int) := by omega
  have n0 : (0 : Int) ≤ (n : Int) := by omega
  go_enter Tryz.func68, Tryz.ntmps68
  go_wp2_with fail
  go_loopw [9, 10] (fun t x wr => ∃ k : Nat, k ≤ m + n ∧ x = .int .i64 k ∧ t = .string (strA (S k)) ∧ Below w.heap.size w wr) (fun _ x _ => m + n - (intOf x).toNat)
  case atStart => exact ⟨0, Nat.zero_le _, rfl, by rw [HS.out]; rfl, Below.refl _ _⟩
  case round =>
    obtain ⟨k, hk, rfl, rfl, hb⟩ := hrel
    by_cases hlt : k < m + n
    · have q0 : ((k : Int) < (m : Int) + (n : Int)) := by omega
      have q1 : decide ((k : Int) < (m : Int) + (n : Int)) = true := by simpa using q0
      have hs0 : ¬ ((m : Int) + (n : Int)) = 0 := by omega
      have p1 : (k + 1) * m ≤ 3000000 := Nat.le_trans (Nat.mul_le_mul (by omega : k + 1 ≤ 2000) hm) (by decide)
      have p2 : k * m ≤ 3000000 := Nat.le_trans (Nat.mul_le_mul (by omega : k ≤ 2000) hm) (by decide)
      have t1 : (((k : Int) + 1) * (m : Int)).tdiv ((m : Int) + (n : Int)) = (((k + 1) * m / (m + n) : Nat) : Int) := by rw [← nat_tdiv]; push_cast; rfl
      have t2 : ((k : Int) * (m : Int)).tdiv ((m : Int) + (n : Int)) = ((k * m / (m + n) : Nat) : Int) := by rw [← nat_tdiv]; push_cast; rfl
      have w1 : IntKind.i64.wrap ((k : Int) + 1) = (k : Int) + 1 := by rw [IntKind.wrap_i64]; omega
      have w2 : IntKind.i64.wrap (((k : Int) + 1) * (m : Int)) = ((k : Int) + 1) * (m : Int) := by
        have e : ((k : Int) + 1) * (m : Int) = (((k + 1) * m : Nat) : Int) := by push_cast; rfl
        rw [e, IntKind.wrap_i64]; omega
      have w3 : IntKind.i64.wrap ((m : Int) + (n : Int)) = (m : Int) + (n : Int) := by rw [IntKind.wrap_i64]; omega
      have w4 : IntKind.i64.wrap ((k : Int) * (m : Int)) = (k : Int) * (m : Int) := by
        have e : (k : Int) * (m : Int) = ((k * m : Nat) : Int) := by push_cast; rfl
        rw [e, IntKind.wrap_i64]; omega
      have l1 : (k + 1) * m / (m + n) ≤ 3000000 := Nat.le_trans (Nat.div_le_self _ _) p1
      have l2 : k * m / (m + n) ≤ 3000000 := Nat.le_trans (Nat.div_le_self _ _) p2
      have HST := Lib.hid (show S (k + 1) = S k ++ (if k * m / (m + n) < (k + 1) * m / (m + n) then v.data.toList else u.data.toList) by rw [HS.out, spreadL])
      obtain ⟨x, hx⟩ : ∃ x, (k + 1) * m / (m + n) = x := ⟨_, rfl⟩
      obtain ⟨y, hy⟩ : ∃ y, k * m / (m + n) = y := ⟨_, rfl⟩
      rw [hx] at t1 l1 HST
      rw [hy] at t2 l2 HST
      have w5 : IntKind.i64.wrap (x : Int) = (x : Int) := by rw [IntKind.wrap_i64]; omega
      have w6 : IntKind.i64.wrap (y : Int) = (y : Int) := by rw [IntKind.wrap_i64]; omega
      have hlen : (strA (S k)).size ≤ 300000 := by
        rw [strA_size]
        exact Nat.le_trans (HSP.out k) (by omega)
      have hVs := HV.out
      have hUs := HU.out
      have hdat : ∀ b : ByteArray, strA b.data.toList = b := fun b => by simp [strA]
      clear hx hy p1 p2
      by_cases hd : y < x
      · have hd1 : (y : Int) < (x : Int) := by omega
        have hd2 : decide ((y : Int) < (x : Int)) = true := by simpa using hd1
        rw [if_pos hd] at HST
        have HC := Lib.hid (show strA (S k) ++ v = strA (S (k + 1)) by rw [HST.out, ← strA_cat, hdat])
        clear hdat
        generalize strA (S k) = tt at *
        go_wp2_with fail
        go_quiet (fail)
        have hb8 := below_drewN hb nq
        go_wp2
        go_roundw
        case rel => exact ⟨k + 1, by omega, by go_num, by rw [← HC.out], hb8⟩
        case measure => simp [intOf]; omega
      · have hd1 : ¬ (y : Int) < (x : Int) := by omega
        have hd2 : decide ((y : Int) < (x : Int)) = false := by simpa using hd1
        rw [if_neg hd] at HST
        have HC := Lib.hid (show strA (S k) ++ u = strA (S (k + 1)) by rw [HST.out, ← strA_cat, hdat])
        clear hdat
        generalize strA (S k) = tt at *
        go_wp2_with fail
        go_quiet (fail)
        have hb8 := below_drewN hb nq
        go_wp2
        go_roundw
        case rel => exact ⟨k + 1, by omega, by go_num, by rw [← HC.out], hb8⟩
        case measure => simp [intOf]; omega
    · obtain rfl : k = m + n := by omega
      have q1 : decide (((m + n : Nat) : Int) < (m : Int) + (n : Int)) = false := by rw [decide_eq_false_iff_not]; omega
      go_wp2
      go_ret
      exact ⟨rfl, hb⟩
end Go.Proofs.YtfmfpnnglogkmaaGreatDoor

/- The reference's CheckSpread and CheckMix; text and number of the statements. -/
namespace Go.Proofs.YtfmfpnnglogkmaaGreatDoor
open Go.RowKit Go.Shelf Ck

theorem first22 (a b c d : Int) : firstE [firstE [a, b], firstE [c, d]] = firstE [a, b, c, d] := by
  simp only [firstE]
  repeat' split
  all_goals first | rfl | omega | simp_all
/-- text, where the result and the error are the expected ones. -/
theorem lawText (S W : ByteArray) (E : Int) (w : World) (h1 : E ≠ 0 → S = ⟨#[]⟩) (h0 : E = 0 → S = W) :
    Calls Tryz.prog 16 #[.string S, .int .i64 E, .int .i64 E, .string W] w fun e w' => e = .returned (.bool true) ∧ w = w' := by
  by_cases h : E = 0
  · obtain rfl := h0 h
    subst h
    clear h0 h1
    go_enter Tryz.func16, Tryz.ntmps16
    go_wp2
    go_ret
    simp
  · obtain rfl := h1 h
    have hne := neE h
    have hee : (E == E) = true := by simp
    clear h0 h1 h
    go_enter Tryz.func16, Tryz.ntmps16
    go_wp2
    go_ret
    simp
end Go.Proofs.YtfmfpnnglogkmaaGreatDoor

/- The reference's CheckRatio, Share and Word; ratio of the statements. -/
namespace Go.Proofs.YtfmfpnnglogkmaaGreatDoor
open Go.RowKit Go.Shelf Ck

set_option maxHeartbeats 1000000 in
set_option maxRecDepth 100000 in
theorem rfCheckRatio (a b : Int) (w : World) :
    Calls Tryz.prog 11 #[.agg #[.int .i64 a, .int .i64 b]] w fun e w' => e = .returned (.int .i64 (ratE a b)) ∧ Below w.heap.size w w' := by
  obtain ⟨w1, hw1, h0, hb1, hz1⟩ := boxH2 w (.int .i64 a) (.int .i64 b) 23
  obtain ⟨p0, p1, -, -⟩ := two_cell h0
  have HW1 := Lib.hid hw1
  clear hw1 h0
  by_cases hz : rat0 a b = 0
  · obtain ⟨g1, g2, g3, g4⟩ := rat0_zero hz
    have HE := Lib.hid (show ratE a b = (if 1 < a.toNat.gcd b.toNat then 1 else 0) by rw [ratE, if_pos hz])
    clear hz
    obtain ⟨P, rfl⟩ : ∃ P : Nat, a = (P : Int) := ⟨a.toNat, by omega⟩
    obtain ⟨D, rfl⟩ : ∃ D : Nat, b = (D : Int) := ⟨b.toNat, by omega⟩
    rw [Int.toNat_natCast, Int.toNat_natCast] at HE
    have hgp : 0 < P.gcd D := Nat.gcd_pos_of_pos_right _ (by omega)
    obtain ⟨g, hg⟩ : ∃ g, P.gcd D = g := ⟨_, rfl⟩
    have HG := Lib.hid hg
    rw [hg] at HE hgp
    rw [HE.out]
    clear hg HE
    have n1 : ¬ (P : Int) < 0 := by omega
    have n2 : ¬ (999999999 : Int) < (P : Int) := by omega
    have n3 : ¬ (D : Int) < 1 := by omega
    have n4 : ¬ (999999999 : Int) < (D : Int) := by omega
    by_cases hg1 : 1 < g
    · have hgi : ((g : Int) != 1) = true := by rw [bne_iff_ne]; omega
      rw [if_pos hg1]
      go_enter Tryz.func11, Tryz.ntmps11
      go_wp2_with fail
      rw [← HW1.out]
      go_wp2_with fail
      refine (refGcd P D _ (by omega) (by omega)).mono ?_
      rintro e w2 ⟨rfl, hb2⟩
      rw [HG.out]
      go_wp2
      go_ret
      exact ⟨rfl, hb1.trans (hb2.mono hb1.size)⟩
    · have hgi : ((g : Int) != 1) = false := by rw [bne_eq_false_iff_eq]; omega
      rw [if_neg hg1]
      go_enter Tryz.func11, Tryz.ntmps11
      go_wp2_with fail
      rw [← HW1.out]
      go_wp2_with fail
      refine (refGcd P D _ (by omega) (by omega)).mono ?_
      rintro e w2 ⟨rfl, hb2⟩
      rw [HG.out]
      go_wp2
      go_ret
      exact ⟨rfl, hb1.trans (hb2.mono hb1.size)⟩
  · have HE : ratE a b = 3 := by
      rw [ratE, if_neg hz]
      unfold rat0 rngE at hz ⊢
      simp only [firstE] at hz ⊢
      repeat' split
      all_goals first | rfl | (simp_all; done) | omega
    have hc : a < 0 ∨ 999999999 < a ∨ b < 1 ∨ 999999999 < b := by
      by_cases h1 : a < 0
      · exact .inl h1
      · by_cases h2 : 999999999 < a
        · exact .inr (.inl h2)
        · by_cases h3 : b < 1
          · exact .inr (.inr (.inl h3))
          · by_cases h4 : 999999999 < b
            · exact .inr (.inr (.inr h4))
            · exact absurd (show rat0 a b = 0 by
                unfold rat0 rngE
                rw [if_neg (by omega), if_neg (by omega)]
                rfl) hz
    rw [HE]
    clear HE hz
    by_cases h1 : a < 0
    · go_enter Tryz.func11, Tryz.ntmps11
      go_wp2_with (rw [← HW1.out])
      go_ret
      exact ⟨rfl, hb1⟩
    · by_cases h2 : 999999999 < a
      · go_enter Tryz.func11, Tryz.ntmps11
        go_wp2_with (rw [← HW1.out])
        go_ret
        exact ⟨rfl, hb1⟩
      · by_cases h3 : b < 1
        · go_enter Tryz.func11, Tryz.ntmps11
          go_wp2_with (rw [← HW1.out])
          go_ret
          exact ⟨rfl, hb1⟩
        · have h4 : 999999999 < b := by omega
          go_enter Tryz.func11, Tryz.ntmps11
          go_wp2_with (rw [← HW1.out])
          go_ret
          exact ⟨rfl, hb1⟩
set_option maxHeartbeats 1000000 in
theorem rfSteep (a b : Int) (w : World) : Calls Tryz.prog 57 #[.agg #[.int .i64 a, .int .i64 b]] w fun e w' => e = .returned (.bool (decide (b < a))) ∧ Below w.heap.size w w' := by
  obtain ⟨w1, hw1, h0, hb1, hz1⟩ := boxH2 w (.int .i64 a) (.int .i64 b) 23
  obtain ⟨p0, p1, -, -⟩ := two_cell h0
  have HW1 := Lib.hid hw1
  clear hw1 h0
  go_enter Tryz.func57, Tryz.ntmps57
  go_wp2_with fail
  rw [← HW1.out]
  go_wp2
  go_ret
  exact ⟨rfl, hb1⟩
theorem rfSteepB (P D : Nat) (r : Bool) (w : World) (hr : decide (D < P) = r) : Calls Tryz.prog 57 #[.agg #[.int .i64 P, .int .i64 D]] w fun e w' => e = .returned (.bool r) ∧ Below w.heap.size w w' := by
  subst hr
  exact (rfSteep P D w).mono fun e w' ⟨h, hb⟩ => ⟨by rw [h]; exact ret_b (by simp), hb⟩
theorem rfLowestI (a b : Nat) (x y : Int) (w : World) (hx : x = (a : Int)) (hy : y = (b : Int)) (ha : a ≤ 4000000000) (hb : b ≤ 4000000000) (h : 0 < b) :
    Calls Tryz.prog 97 #[.int .i64 x, .int .i64 y] w fun e w' => e = .returned (.agg #[.int .i64 (a / a.gcd b : Nat), .int .i64 (b / a.gcd b : Nat)]) ∧ Below w.heap.size w w' := by
  subst hx hy
  exact refLowest a b w ha hb h
set_option maxHeartbeats 1000000 in
set_option maxRecDepth 100000 in
theorem rfShare (P D : Nat) (w : World) (hD0 : 1 ≤ D) (hP : P ≤ 1000000000) (hD : D ≤ 1000000000) :
    Calls Tryz.prog 54 #[.agg #[.int .i64 P, .int .i64 D]] w fun e w' => e = .returned (.agg #[.int .i64 (shareB P D), .int .i64 (shareL P D)]) ∧ Below w.heap.size w w' := by
  obtain ⟨w1, hw1, h0, h1, hb1, hz1⟩ := boxH22 w (.int .i64 P) (.int .i64 D) (.int .i64 0) (.int .i64 0) 23 23
  have HW1 := Lib.hid hw1
  obtain ⟨p0, p1, -, -⟩ := two_cell h0
  have HB := Lib.hid (show shareB P D = 2 * min P D / (2 * min P D).gcd (P + D) from rfl)
  have HL := Lib.hid (show shareL P D = (P + D) / (2 * min P D).gcd (P + D) from rfl)
  obtain ⟨B, hB⟩ : ∃ B, shareB P D = B := ⟨_, rfl⟩
  obtain ⟨L, hL⟩ : ∃ L, shareL P D = L := ⟨_, rfl⟩
  rw [hB] at HB
  rw [hL] at HL
  rw [hB, hL]
  clear hw1 hB hL
  by_cases hst : D < P
  · have hm : min P D = D := by omega
    rw [hm] at HB HL
    clear hm
    have hd : decide (D < P) = true := by simpa using hst
    have HD := Lib.hid hd
    clear hd hst
    go_enter Tryz.func54, Tryz.ntmps54
    go_wp2_with fail
    rw [← HW1.out]
    go_wp2_with fail
    refine (rfSteepB P D true _ HD.out).mono ?_
    rintro e w2 ⟨rfl, hb2⟩
    have k0 := (hb2.block _ (Array.getElem?_eq_some_iff.1 h0).1).trans h0
    have k1 := (hb2.block _ (Array.getElem?_eq_some_iff.1 h1).1).trans h1
    have B2 := hb1.trans (hb2.mono hb1.size)
    clear p0 p1 h0 h1 hb1 hb2
    obtain ⟨p0, p1, -, -⟩ := two_cell k0
    go_wp2_with fail
    refine (rfLowestI (2 * D) (P + D) _ _ _ (by push_cast; rfl) (by push_cast; rfl) (by omega) (by omega) (by omega)).mono ?_
    rintro e w3 ⟨rfl, hb3⟩
    rw [← HB.out, ← HL.out]
    have m1 := (hb3.block _ (Array.getElem?_eq_some_iff.1 k1).1).trans k1
    have B3 := B2.trans (hb3.mono B2.size)
    obtain ⟨r0, r1, r2, r3⟩ := two_cell m1
    obtain ⟨s5, s6⟩ := two_set m1 (.int .i64 B) (.int .i64 L)
    obtain ⟨t0, t1, -, -⟩ := two_cell s5
    have hbf := B3.grown s6 B3.size (fun j e => by cases e; omega)
    clear k0 k1 m1 s5 s6 p0 p1 hb3 B2
    go_wp2
    exact bodyPost_ret (v := .agg #[.int .i64 B, .int .i64 L]) (by simp [results, Tryz.results54, go_sem, t0, t1]) rfl ⟨rfl, hbf⟩
  · have hm : min P D = P := by omega
    rw [hm] at HB HL
    clear hm
    have hd : decide (D < P) = false := by simpa using hst
    have HD := Lib.hid hd
    clear hd hst
    go_enter Tryz.func54, Tryz.ntmps54
    go_wp2_with fail
    rw [← HW1.out]
    go_wp2_with fail
    refine (rfSteepB P D false _ HD.out).mono ?_
    rintro e w2 ⟨rfl, hb2⟩
    have k0 := (hb2.block _ (Array.getElem?_eq_some_iff.1 h0).1).trans h0
    have k1 := (hb2.block _ (Array.getElem?_eq_some_iff.1 h1).1).trans h1
    have B2 := hb1.trans (hb2.mono hb1.size)
    clear p0 p1 h0 h1 hb1 hb2
    obtain ⟨p0, p1, -, -⟩ := two_cell k0
    go_wp2_with fail
    refine (rfLowestI (2 * P) (P + D) _ _ _ (by push_cast; rfl) (by push_cast; rfl) (by omega) (by omega) (by omega)).mono ?_
    rintro e w3 ⟨rfl, hb3⟩
    rw [← HB.out, ← HL.out]
    have m1 := (hb3.block _ (Array.getElem?_eq_some_iff.1 k1).1).trans k1
    have B3 := B2.trans (hb3.mono B2.size)
    obtain ⟨r0, r1, r2, r3⟩ := two_cell m1
    obtain ⟨s5, s6⟩ := two_set m1 (.int .i64 B) (.int .i64 L)
    obtain ⟨t0, t1, -, -⟩ := two_cell s5
    have hbf := B3.grown s6 B3.size (fun j e => by cases e; omega)
    clear k0 k1 m1 s5 s6 p0 p1 hb3 B2
    go_wp2
    exact bodyPost_ret (v := .agg #[.int .i64 B, .int .i64 L]) (by simp [results, Tryz.results54, go_sem, t0, t1]) rfl ⟨rfl, hbf⟩
theorem rfMixC (c : UInt8) (B L : Nat) (d : Int) (w : World) (hd : d = (L : Int) - B) (hB : B ≤ L) (hL : L ≤ 1000) :
    Calls Tryz.prog 68 #[.string ⟨#[66]⟩, .int .i64 B, .string ⟨#[c]⟩, .int .i64 d] w fun e w' => e = .returned (.string (strA (spreadL [66] B [c] (L - B) L))) ∧ Below w.heap.size w w' := by
  have e : d = ((L - B : Nat) : Int) := by omega
  subst e
  have h := rfMix ⟨#[66]⟩ ⟨#[c]⟩ B (L - B) w (by decide) (by show (1 : Nat) ≤ 100; decide) (by omega) (by omega)
  rw [show B + (L - B) = L by omega] at h
  exact h
set_option maxHeartbeats 1000000 in
set_option maxRecDepth 100000 in
theorem rfWord (P D B L : Nat) (w : World) (hBL : B ≤ L) (hL : L ≤ 1000) :
    Calls Tryz.prog 29 #[.agg #[.int .i64 P, .int .i64 D], .agg #[.int .i64 B, .int .i64 L]] w fun e w' => e = .returned (.string (strA (spreadL [66] B [otherC P D] (L - B) L))) ∧ Below w.heap.size w w' := by
  obtain ⟨w1, hw1, h0, h1, hb1, hz1⟩ := boxH22 w (.int .i64 P) (.int .i64 D) (.int .i64 B) (.int .i64 L) 23 25
  have HW1 := Lib.hid hw1
  obtain ⟨p0, p1, -, -⟩ := two_cell h0
  have i0 : (0 : Int) ≤ (L : Int) - B := by omega
  have i1 : (L : Int) - B ≤ 1000 := by omega
  clear hw1
  by_cases hst : D < P
  · have hc : otherC P D = 84 := by unfold otherC; rw [if_pos hst]
    rw [hc]
    clear hc
    have hd : decide (D < P) = true := by simpa using hst
    have HD := Lib.hid hd
    clear hd hst
    go_enter Tryz.func29, Tryz.ntmps29
    go_wp2_with fail
    rw [← HW1.out]
    go_wp2_with fail
    refine (rfSteepB P D true _ HD.out).mono ?_
    rintro e w2 ⟨rfl, hb2⟩
    have k1 := (hb2.block _ (Array.getElem?_eq_some_iff.1 h1).1).trans h1
    have B2 := hb1.trans (hb2.mono hb1.size)
    obtain ⟨q0, q1, -, -⟩ := two_cell k1
    clear p0 p1 h0 h1 hb1 hb2 k1
    go_wp2_with fail
    refine (rfMixC 84 B L _ _ rfl hBL hL).mono ?_
    rintro e w3 ⟨rfl, hb3⟩
    go_wp2
    go_ret
    exact ⟨rfl, B2.trans (hb3.mono B2.size)⟩
  · have hc : otherC P D = 78 := by unfold otherC; rw [if_neg hst]
    rw [hc]
    clear hc
    have hd : decide (D < P) = false := by simpa using hst
    have HD := Lib.hid hd
    clear hd hst
    go_enter Tryz.func29, Tryz.ntmps29
    go_wp2_with fail
    rw [← HW1.out]
    go_wp2_with fail
    refine (rfSteepB P D false _ HD.out).mono ?_
    rintro e w2 ⟨rfl, hb2⟩
    have k1 := (hb2.block _ (Array.getElem?_eq_some_iff.1 h1).1).trans h1
    have B2 := hb1.trans (hb2.mono hb1.size)
    obtain ⟨q0, q1, -, -⟩ := two_cell k1
    clear p0 p1 h0 h1 hb1 hb2 k1
    go_wp2_with fail
    refine (rfMixC 78 B L _ _ rfl hBL hL).mono ?_
    rintro e w3 ⟨rfl, hb3⟩
    go_wp2
    go_ret
    exact ⟨rfl, B2.trans (hb3.mono B2.size)⟩
end Go.Proofs.YtfmfpnnglogkmaaGreatDoor

/- less and Side of the reference of chapter 2. -/
namespace Go.Proofs.YtfmfpnnglogkmaaGreatDoor
open Go.RowKit Go.Shelf Ck

set_option maxHeartbeats 1000000 in
theorem rfLess (a b c d : Nat) (w : World) (ha : a ≤ 1000000000) (hb : b ≤ 1000000000) (hc : c ≤ 1000000000) (hd : d ≤ 1000000000) :
    Calls Tryz.prog 56 #[.agg #[.int .i64 a, .int .i64 b], .agg #[.int .i64 c, .int .i64 d]] w fun e w' => e = .returned (.bool (decide (a * d < c * b))) ∧ Below w.heap.size w w' := by
  have m1 : (a : Int) * (d : Int) = ((a * d : Nat) : Int) := by push_cast; rfl
  have m2 : (c : Int) * (b : Int) = ((c * b : Nat) : Int) := by push_cast; rfl
  have l1 : a * d ≤ 1000000000 * 1000000000 := Nat.mul_le_mul ha hd
  have l2 : c * b ≤ 1000000000 * 1000000000 := Nat.mul_le_mul hc hb
  obtain ⟨p, hp⟩ : ∃ p, a * d = p := ⟨_, rfl⟩
  obtain ⟨q, hq⟩ : ∃ q, c * b = q := ⟨_, rfl⟩
  rw [hp] at m1 l1 ⊢
  rw [hq] at m2 l2 ⊢
  clear hp hq
  obtain ⟨w1, hw1, h0, h1, hb1, -⟩ := boxH22 w (.int .i64 a) (.int .i64 b) (.int .i64 c) (.int .i64 d) 25 25
  obtain ⟨p0, p1, -, -⟩ := two_cell h0
  obtain ⟨q0, q1, -, -⟩ := two_cell h1
  have HW1 := Lib.hid hw1
  clear hw1 h0 h1
  go_enter Tryz.func56, Tryz.ntmps56
  go_wp2_with fail
  rw [← HW1.out]
  go_wp2
  go_ret
  exact ⟨ret_b (by simp), hb1⟩
def sideI (a b c d : Nat) : Int := if a * d < c * b then -1 else if c * b < a * d then 1 else 0
set_option maxHeartbeats 1000000 in
theorem rfSide (a b c d : Nat) (w : World) (ha : a ≤ 1000000000) (hb : b ≤ 1000000000) (hc : c ≤ 2000000000) (hd : d ≤ 2000000000) :
    Calls Tryz.prog 55 #[.agg #[.int .i64 a, .int .i64 b], .agg #[.int .i64 c, .int .i64 d]] w fun e w' => e = .returned (.int .i64 (sideI a b c d)) ∧ Below w.heap.size w w' := by
  have m1 : (a : Int) * (d : Int) = ((a * d : Nat) : Int) := by push_cast; rfl
  have m2 : (c : Int) * (b : Int) = ((c * b : Nat) : Int) := by push_cast; rfl
  have l1 : a * d ≤ 1000000000 * 2000000000 := Nat.mul_le_mul ha hd
  have l2 : c * b ≤ 2000000000 * 1000000000 := Nat.mul_le_mul hc hb
  rw [sideI]
  obtain ⟨p, hp⟩ : ∃ p, a * d = p := ⟨_, rfl⟩
  obtain ⟨q, hq⟩ : ∃ q, c * b = q := ⟨_, rfl⟩
  rw [hp] at m1 l1 ⊢
  rw [hq] at m2 l2 ⊢
  clear hp hq
  obtain ⟨w1, hw1, h0, h1, hb1, -⟩ := boxH22 w (.int .i64 a) (.int .i64 b) (.int .i64 c) (.int .i64 d) 25 23
  obtain ⟨p0, p1, -, -⟩ := two_cell h0
  obtain ⟨q0, q1, -, -⟩ := two_cell h1
  have HW1 := Lib.hid hw1
  clear hw1 h0 h1
  by_cases c1 : p < q
  · have k1 : (p : Int) < (q : Int) := by omega
    rw [if_pos c1]
    clear c1
    go_enter Tryz.func55, Tryz.ntmps55
    go_wp2_with fail
    rw [← HW1.out]
    go_quiet (fail)
    go_wp2
    go_ret
    exact ⟨rfl, below_drewN hb1 _⟩
  · by_cases c2 : q < p
    · have k1 : ¬ (p : Int) < (q : Int) := by omega
      have k2 : (q : Int) < (p : Int) := by omega
      rw [if_neg c1, if_pos c2]
      clear c1 c2
      go_enter Tryz.func55, Tryz.ntmps55
      go_wp2_with fail
      rw [← HW1.out]
      go_quiet (fail)
      go_wp2
      go_ret
      exact ⟨rfl, below_drewN hb1 _⟩
    · have k1 : ¬ (p : Int) < (q : Int) := by omega
      have k2 : ¬ (q : Int) < (p : Int) := by omega
      rw [if_neg c1, if_neg c2]
      clear c1 c2
      go_enter Tryz.func55, Tryz.ntmps55
      go_wp2_with fail
      rw [← HW1.out]
      go_quiet (fail)
      go_wp2
      go_ret
      exact ⟨rfl, below_drewN hb1 _⟩
/-- A fraction from 0 to 1 in lowest terms with at most n letters. -/
def fracB (a b n : Int) : Bool := decide (1 ≤ b ∧ b ≤ n ∧ 0 ≤ a ∧ a ≤ b ∧ Nat.gcd a.toNat b.toNat = 1)
set_option maxHeartbeats 1000000 in
theorem rfFraction (a b n : Int) (w : World) (hn : n ≤ 1000) :
    Calls Tryz.prog 60 #[.agg #[.int .i64 a, .int .i64 b], .int .i64 n] w fun e w' => e = .returned (.bool (fracB a b n)) ∧ Below w.heap.size w w' := by
  obtain ⟨w1, hw1, h0, hb1, hz1⟩ := boxH2 w (.int .i64 a) (.int .i64 b) 25
  obtain ⟨p0, p1, -, -⟩ := two_cell h0
  have HW1 := Lib.hid hw1
  have HK := Lib.hid h0
  clear hw1 h0
  by_cases c1 : 1 ≤ b
  · by_cases c2 : b ≤ n
    · by_cases c3 : 0 ≤ a
      · by_cases c4 : a ≤ b
        · obtain ⟨A, rfl⟩ : ∃ A : Nat, a = (A : Int) := ⟨a.toNat, by omega⟩
          obtain ⟨B, rfl⟩ : ∃ B : Nat, b = (B : Int) := ⟨b.toNat, by omega⟩
          have HG := Lib.hid (show fracB A B n = decide (A.gcd B = 1) by
            rw [fracB, Int.toNat_natCast, Int.toNat_natCast]
            exact decide_eq_decide.2 ⟨fun h => h.2.2.2.2, fun h => ⟨c1, c2, c3, c4, h⟩⟩)
          rw [HG.out]
          have hA : A ≤ 1000 := by omega
          have hB : B ≤ 1000 := by omega
          go_enter Tryz.func60, Tryz.ntmps60
          go_wp2_with fail
          rw [← HW1.out]
          go_wp2_with fail
          refine (refGcd A B _ (by omega) (by omega)).mono ?_
          rintro e w2 ⟨rfl, hb2⟩
          have B2 := hb1.trans (hb2.mono hb1.size)
          have hg : ((A.gcd B : Nat) : Int) ≤ 1000 := by
            have : A.gcd B ≤ B := Nat.le_of_dvd (by omega) (Nat.gcd_dvd_right A B)
            omega
          obtain ⟨g, hgg⟩ : ∃ g, A.gcd B = g := ⟨_, rfl⟩
          rw [hgg] at hg ⊢
          have HGG := Lib.hid hgg
          clear hgg
          have hd : ((g : Int) == 1) = decide (g = 1) := by
            by_cases h : g = 1
            · rw [h]; rfl
            · rw [decide_eq_false h, beq_eq_false_iff_ne]
              omega
          go_wp2
          go_ret
          exact ⟨ret_b (decide_eq_decide.2 (by rw [HGG.out])), B2⟩
        · rw [fracB, decide_eq_false (by omega)]
          go_enter Tryz.func60, Tryz.ntmps60
          go_wp2_with fail
          rw [← HW1.out]
          go_wp2
          go_ret
          exact ⟨ret_b (by simp), hb1⟩
      · rw [fracB, decide_eq_false (by omega)]
        go_enter Tryz.func60, Tryz.ntmps60
        go_wp2_with fail
        rw [← HW1.out]
        go_wp2
        go_ret
        exact ⟨ret_b (by simp), hb1⟩
    · rw [fracB, decide_eq_false (by omega)]
      go_enter Tryz.func60, Tryz.ntmps60
      go_wp2_with fail
      rw [← HW1.out]
      go_wp2
      go_ret
      exact ⟨ret_b (by simp), hb1⟩
  · rw [fracB, decide_eq_false (by omega)]
    go_enter Tryz.func60, Tryz.ntmps60
    go_wp2_with fail
    rw [← HW1.out]
    go_wp2
    go_ret
    exact ⟨ret_b (by simp), hb1⟩
end Go.Proofs.YtfmfpnnglogkmaaGreatDoor

/- The reference's Rate and Compare; number; the program's Rate and Compare at words. -/
namespace Go.Proofs.YtfmfpnnglogkmaaGreatDoor
open Go.RowKit Go.Shelf Ck

theorem strL_of (s : ByteArray) : strL s.data.toList = s := by simp [strL]
theorem rfVector (s : ByteArray) (w : World) (hs : Word s) :
    Calls Tryz.prog 30 #[.string s] w fun e w' => e = .returned (.agg #[.int .i64 (vecL s.data.toList).1, .int .i64 (vecL s.data.toList).2]) ∧ Below w.heap.size w w' := by
  have h := refVector s.data.toList w hs.1 (by have := hs.2.2; have := Lib.size_eq s; omega)
  rw [strL_of] at h
  exact h
/-- The rate of a word in lowest terms; 0 where it has none. -/
def rtX (s : ByteArray) : Nat := if rowsB s = true then (vecL s.data.toList).1.toNat / (vecL s.data.toList).1.toNat.gcd (vecL s.data.toList).2.toNat else 0
def rtY (s : ByteArray) : Nat := if rowsB s = true then (vecL s.data.toList).2.toNat / (vecL s.data.toList).1.toNat.gcd (vecL s.data.toList).2.toNat else 0
theorem vec_nat {s : ByteArray} (hs : Word s) : ∃ X Y : Nat, vecL s.data.toList = ((X : Int), (Y : Int)) ∧ X ≤ 128 ∧ Y ≤ 128 := by
  have h := vecL_near s.data.toList
  have := hs.2.2
  have := Lib.size_eq s
  exact ⟨(vecL s.data.toList).1.toNat, (vecL s.data.toList).2.toNat, by ext <;> simp <;> omega, by omega, by omega⟩
def cmE (a b : ByteArray) : Int := if rowsB a = true ∧ rowsB b = true then 0 else 6
def cmV (a b : ByteArray) : Int := if rowsB a = true ∧ rowsB b = true then cmpV a.data.toList b.data.toList else 0
set_option maxHeartbeats 2000000 in
set_option maxRecDepth 100000 in
theorem rfCompare (a b : ByteArray) (w : World) (ha : Word a) (hb : Word b) :
    Calls Tryz.prog 59 #[.string a, .string b] w fun e w' => e = .returned (.int .i64 (cmpV a.data.toList b.data.toList)) ∧ Below w.heap.size w w' := by
  obtain ⟨X, Y, hv, hX, hY⟩ := vec_nat ha
  obtain ⟨X', Y', hv', hX', hY'⟩ := vec_nat hb
  have HV := Lib.hid hv
  have HV' := Lib.hid hv'
  have HC := Lib.hid (show cmpV a.data.toList b.data.toList = cmpI ((X : Int) * Y') ((X' : Int) * Y) by rw [cmpV, hv, hv'])
  rw [HC.out]
  obtain ⟨m1, m2⟩ := mul_bound hX hY'
  obtain ⟨m3, m4⟩ := mul_bound hX' hY
  have y1 : IntKind.i64.wrap ((X : Int) * (Y' : Int)) = (X : Int) * (Y' : Int) := by rw [IntKind.wrap_i64]; omega
  have y2 : IntKind.i64.wrap ((X' : Int) * (Y : Int)) = (X' : Int) * (Y : Int) := by rw [IntKind.wrap_i64]; omega
  have ex : ∀ (u v : Int), u < v ∨ (¬ u < v ∧ v < u) ∨ (¬ u < v ∧ ¬ v < u) := fun u v => by omega
  obtain ⟨w0, hw0⟩ : ∃ w0 : World, w0 = w := ⟨_, rfl⟩
  clear hv hv' HC hw0
  rcases ex ((X : Int) * Y') ((X' : Int) * Y) with hc | ⟨hc, hd⟩ | ⟨hc, hd⟩
  · have HK := Lib.hid (show cmpI ((X : Int) * Y') ((X' : Int) * Y) = -1 by rw [cmpI, if_pos hc])
    rw [HK.out]
    go_enter Tryz.func59, Tryz.ntmps59
    go_wp2_with fail
    refine (rfVector a _ ha).mono ?_
    rintro e w1 ⟨rfl, hb1⟩
    rw [HV.out]
    go_wp2_with fail
    refine (rfVector b _ hb).mono ?_
    rintro e w2 ⟨rfl, hb2⟩
    rw [HV'.out]
    have B2 := hb1.trans (hb2.mono hb1.size)
    obtain ⟨w3, hw3, k0, k1, hb3, hz3⟩ := boxH22 w2 (.int .i64 X) (.int .i64 Y) (.int .i64 X') (.int .i64 Y') 66 66
    obtain ⟨c0, c1, -, -⟩ := two_cell k0
    obtain ⟨d0, d1, -, -⟩ := two_cell k1
    have HW3 := Lib.hid hw3
    have B3 := B2.trans (hb3.mono B2.size)
    clear hw3 k0 k1 hb1 hb2 hb3 B2
    go_wp2_with fail
    rw [← HW3.out]
    go_quiet (fail)
    go_wp2
    go_ret
    exact ⟨rfl, below_drewN B3 _⟩
  · have HK := Lib.hid (show cmpI ((X : Int) * Y') ((X' : Int) * Y) = 1 by rw [cmpI, if_neg hc, if_pos hd])
    rw [HK.out]
    go_enter Tryz.func59, Tryz.ntmps59
    go_wp2_with fail
    refine (rfVector a _ ha).mono ?_
    rintro e w1 ⟨rfl, hb1⟩
    rw [HV.out]
    go_wp2_with fail
    refine (rfVector b _ hb).mono ?_
    rintro e w2 ⟨rfl, hb2⟩
    rw [HV'.out]
    have B2 := hb1.trans (hb2.mono hb1.size)
    obtain ⟨w3, hw3, k0, k1, hb3, hz3⟩ := boxH22 w2 (.int .i64 X) (.int .i64 Y) (.int .i64 X') (.int .i64 Y') 66 66
    obtain ⟨c0, c1, -, -⟩ := two_cell k0
    obtain ⟨d0, d1, -, -⟩ := two_cell k1
    have HW3 := Lib.hid hw3
    have B3 := B2.trans (hb3.mono B2.size)
    clear hw3 k0 k1 hb1 hb2 hb3 B2
    go_wp2_with fail
    rw [← HW3.out]
    go_quiet (fail)
    go_wp2
    go_ret
    exact ⟨rfl, below_drewN B3 _⟩
  · have HK := Lib.hid (show cmpI ((X : Int) * Y') ((X' : Int) * Y) = 0 by rw [cmpI, if_neg hc, if_neg hd])
    rw [HK.out]
    go_enter Tryz.func59, Tryz.ntmps59
    go_wp2_with fail
    refine (rfVector a _ ha).mono ?_
    rintro e w1 ⟨rfl, hb1⟩
    rw [HV.out]
    go_wp2_with fail
    refine (rfVector b _ hb).mono ?_
    rintro e w2 ⟨rfl, hb2⟩
    rw [HV'.out]
    have B2 := hb1.trans (hb2.mono hb1.size)
    obtain ⟨w3, hw3, k0, k1, hb3, hz3⟩ := boxH22 w2 (.int .i64 X) (.int .i64 Y) (.int .i64 X') (.int .i64 Y') 66 66
    obtain ⟨c0, c1, -, -⟩ := two_cell k0
    obtain ⟨d0, d1, -, -⟩ := two_cell k1
    have HW3 := Lib.hid hw3
    have B3 := B2.trans (hb3.mono B2.size)
    clear hw3 k0 k1 hb1 hb2 hb3 B2
    go_wp2_with fail
    rw [← HW3.out]
    go_quiet (fail)
    go_wp2
    go_ret
    exact ⟨rfl, below_drewN B3 _⟩
end Go.Proofs.YtfmfpnnglogkmaaGreatDoor

/- What Nearest of taper returns, said in the plain mathematics of nearest words. -/
namespace Go.Proofs.YtfmfpnnglogkmaaGreatDoor
open Go.RowKit Ck

theorem near_data (P D p q : Nat) : (nearWord P D p q).data.toList = spreadL [66] p [otherC P D] (q - p) q := by simp [nearWord]
theorem near_size (P D p q : Nat) : (nearWord P D p q).size = q := by
  have h := Lib.size_eq (nearWord P D p q)
  rw [near_data, spreadL_len] at h
  exact h
theorem near_barsN {P D p q : Nat} (hpq : p ≤ q) (hq : 1 ≤ q) : barsN (nearWord P D p q).data.toList = p := by
  rw [near_data, spreadL_bars (otherC_ne P D) (by omega), show p + (q - p) = q by omega]
  exact Nat.mul_div_cancel_left _ (by omega)
theorem near_vec {P D p q : Nat} (hpq : p ≤ q) (hq : 1 ≤ q) : vecL (nearWord P D p q).data.toList = (xW P D p q, yW P D p q) := by
  have hb := near_barsN (P := P) (D := D) hpq hq
  rw [near_data] at hb ⊢
  have hl : (spreadL [66] p [otherC P D] (q - p) q).length = q := spreadL_len q
  have hm : ∀ c ∈ spreadL [66] p [otherC P D] (q - p) q, c = 66 ∨ c = otherC P D := spreadL_mem q
  generalize spreadL [66] p [otherC P D] (q - p) q = L at hb hl hm ⊢
  have hv := vec_pos L ⟨0, 0⟩
  by_cases h : D < P
  · have e : otherC P D = 84 := by rw [otherC, if_pos h]
    rw [e] at hm
    rw [posK_steep L _ hm, hb, hl] at hv
    simp only [Knot.mk.injEq] at hv
    rw [xW, yW, if_pos h, if_pos h]
    exact Prod.ext (by simp only; omega) (by simp only; omega)
  · have e : otherC P D = 78 := by rw [otherC, if_neg h]
    rw [e] at hm
    rw [posK_flat L _ hm, hb, hl] at hv
    simp only [Knot.mk.injEq] at hv
    rw [xW, yW, if_neg h, if_neg h]
    exact Prod.ext (by simp only; omega) (by simp only; omega)
theorem gapZ_gW (P D B L : Nat) : gapZ P D (xW P D B L, yW P D B L) = gW P D B L := by
  simp only [gapZ, gW, dW]
  omega
theorem cmpI_neg {x y : Int} : cmpI x y < 0 ↔ x < y := by
  unfold cmpI
  split <;> (try split) <;> omega
theorem first3_neg {a b c : Int} : firstE [a, b, c] < 0 ↔ a < 0 ∨ (a = 0 ∧ (b < 0 ∨ (b = 0 ∧ c < 0))) := by
  simp only [firstE]
  by_cases ha : a = 0
  · subst ha
    by_cases hb : b = 0
    · subst hb
      by_cases hc : c = 0
      · subst hc; simp
      · simp [hc]
    · simp [hb]
  · simp [ha]
theorem nrCmp_bet {P D : Nat} {x m : Nat × Nat} (hx : x.1 ≤ x.2) (hx1 : 1 ≤ x.2) (hm : m.1 ≤ m.2) (hm1 : 1 ≤ m.2) : nrCmp P D (nearWord P D x.1 x.2) (nearWord P D m.1 m.2) < 0 ↔ Bet P D x m := by
  rw [nrCmp, first3_neg, cmpG, cmpV, near_vec hx hx1, near_vec hm hm1, near_size, near_size, cmpI_neg, cmpI_neg, cmpI_neg, cmpI_zero, cmpI_zero, gapZ_gW, gapZ_gW, Bet]
  simp only
  omega
theorem near_rows {P D p q : Nat} (hpq : p ≤ q) (hq : 1 ≤ q) : rowsB (nearWord P D p q) = decide (0 < yW P D p q) := by rw [rowsB, near_vec hpq hq]
theorem nearB_eq {P D a b c d : Nat} (hab : a ≤ b) (hb : 1 ≤ b) (hcd : c ≤ d) (hd : 1 ≤ d) (hy : 0 < yW P D c d) :
    candJ P D a b c d 2 ≠ [] ∧ nearB P D a b c d = nearWord P D (nearC P D a b c d).1 (nearC P D a b c d).2 := by
  have h2 : candW P D c d = [nearWord P D c d] := by rw [candW, near_rows hcd hd, decide_eq_true hy, if_pos rfl]
  have hJ : candJ P D a b c d 2 = candW P D a b ++ [nearWord P D c d] := by rw [← h2]; rfl
  refine ⟨by rw [hJ]; simp, ?_⟩
  rw [nearB, hJ, nearC]
  by_cases h1 : 0 < yW P D a b
  · have hc : candW P D a b = [nearWord P D a b] := by rw [candW, near_rows hab hb, decide_eq_true h1, if_pos rfl]
    rw [hc, if_neg (by omega)]
    show minS P D (nearWord P D a b) [nearWord P D c d] = _
    simp only [minS]
    have := nrCmp_bet (P := P) (D := D) (x := (c, d)) (m := (a, b)) hcd hd hab hb
    by_cases hB : Bet P D (c, d) (a, b)
    · have hb := this.2 hB
      simp only [Bet] at hB
      rw [if_pos hB, if_pos hb]
    · have hb := fun h => hB (this.1 h)
      simp only [Bet] at hB
      rw [if_neg hB, if_neg hb]
  · have hc : candW P D a b = [] := by rw [candW, near_rows hab hb, decide_eq_false h1]; rfl
    rw [hc, if_pos (by omega)]
    rfl
/-- The neighbours of a ratio, and what is nearest. -/
structure NrF (P D n a b c d : Nat) : Prop where
  e : NbE (shareB P D) (shareL P D) n a b c d
  y : 0 < yW P D c d
  best : BestOf P D (AllW n) (nearC P D a b c d)
theorem nr_facts {P D n a b c d : Nat} (hD : 1 ≤ D) (hn : 1 ≤ n) (hR : nbF (shareB P D) (shareL P D) n n 0 1 1 1 = (a, b, c, d)) : NrF P D n a b c d := by
  obtain ⟨h1, h2, h3⟩ := shareL_pos (P := P) hD
  have hE := nb_end hn h3 hR
  have g1 : 2 * min P D = (2 * min P D).gcd (P + D) * shareB P D := by rw [shareB, Nat.mul_div_cancel' (Nat.gcd_dvd_left _ _)]
  have g2 : P + D = (2 * min P D).gcd (P + D) * shareL P D := by rw [shareL, Nat.mul_div_cancel' (Nat.gcd_dvd_right _ _)]
  refine ⟨hE, ?_, near_best hD g1 g2 hE⟩
  refine yW_pos hE.cd hE.d1 fun hs => ?_
  rcases Nat.eq_zero_or_pos c with h | h
  · exfalso
    have hB : 1 ≤ shareB P D := by
      rcases Nat.eq_zero_or_pos (shareB P D) with h0 | h0
      · rw [h0] at g1; omega
      · exact h0
    have := hE.hi
    rw [h] at this
    have : 1 ≤ shareB P D * d := Nat.mul_pos hB hE.d1
    omega
  · exact h
theorem tpNearestC (P D n a b c d : Nat) (w : World) (h : ratE (P : Int) (D : Int) = 0) (hn : 1 ≤ n) (hn2 : n ≤ 64) (hR : nbF (shareB P D) (shareL P D) n n 0 1 1 1 = (a, b, c, d)) :
    Calls Tryz.prog 10 #[.agg #[.int .i64 P, .int .i64 D], .int .i64 n] w fun e w' => e = .returned (.tuple #[.string (nearWord P D (nearC P D a b c d).1 (nearC P D a b c d).2), .int .i64 0]) ∧ Below w.heap.size w w' := by
  obtain ⟨P', D', hP, hD, -, hD1, -, -⟩ := ratE_zero h
  have F := nr_facts (P := P) (by omega) hn hR
  obtain ⟨j1, j2⟩ := nearB_eq (P := P) (D := D) F.e.ab F.e.b1 F.e.cd F.e.d1 F.y
  rw [← j2]
  exact tpNearest P D n a b c d w h hn hn2 hR j1
end Go.Proofs.YtfmfpnnglogkmaaGreatDoor

/- Nearer and Nearest of the reference of chapter 2. -/
namespace Go.Proofs.YtfmfpnnglogkmaaGreatDoor
open Go.RowKit Go.Shelf Ck

set_option maxHeartbeats 4000000 in
set_option maxRecDepth 100000 in
theorem rfNearer (P D : Nat) (a b : ByteArray) (w : World) (hP : P ≤ 1000000000) (hD : D ≤ 1000000000) (ha : Word a) (hb : Word b) :
    Calls Tryz.prog 58 #[.agg #[.int .i64 P, .int .i64 D], .string a, .string b] w fun e w' => e = .returned (.int .i64 (cmpG P D a.data.toList b.data.toList)) ∧ Below w.heap.size w w' := by
  obtain ⟨X, Y, hv, hX, hY⟩ := vec_nat ha
  obtain ⟨X', Y', hv', hX', hY'⟩ := vec_nat hb
  have HV := Lib.hid hv
  have HV' := Lib.hid hv'
  obtain ⟨m1, m2⟩ := mul_bound hX hD
  obtain ⟨m3, m4⟩ := mul_bound hP hY
  obtain ⟨m5, m6⟩ := mul_bound hX' hD
  obtain ⟨m7, m8⟩ := mul_bound hP hY'
  have HC := Lib.hid (show cmpG P D a.data.toList b.data.toList = cmpI (max ((X : Int) * D - P * Y) (-((X : Int) * D - P * Y)) * Y') (max ((X' : Int) * D - P * Y') (-((X' : Int) * D - P * Y')) * Y) by rw [cmpG, hv, hv']; rfl)
  obtain ⟨p1, hp1⟩ : ∃ p, (X : Int) * (D : Int) = p := ⟨_, rfl⟩
  obtain ⟨p2, hp2⟩ : ∃ p, (P : Int) * (Y : Int) = p := ⟨_, rfl⟩
  obtain ⟨p3, hp3⟩ : ∃ p, (X' : Int) * (D : Int) = p := ⟨_, rfl⟩
  obtain ⟨p4, hp4⟩ : ∃ p, (P : Int) * (Y' : Int) = p := ⟨_, rfl⟩
  rw [hp1] at m1 m2 HC
  rw [hp2] at m3 m4 HC
  rw [hp3] at m5 m6 HC
  rw [hp4] at m7 m8 HC
  obtain ⟨u0, hu0⟩ : ∃ p, p1 - p2 = p := ⟨_, rfl⟩
  obtain ⟨v0, hv0⟩ : ∃ p, p3 - p4 = p := ⟨_, rfl⟩
  rw [hu0, hv0] at HC
  have y1 : IntKind.i64.wrap p1 = p1 := by rw [IntKind.wrap_i64]; omega
  have y2 : IntKind.i64.wrap p2 = p2 := by rw [IntKind.wrap_i64]; omega
  have y3 : IntKind.i64.wrap p3 = p3 := by rw [IntKind.wrap_i64]; omega
  have y4 : IntKind.i64.wrap p4 = p4 := by rw [IntKind.wrap_i64]; omega
  have y5 : IntKind.i64.wrap u0 = u0 := by rw [IntKind.wrap_i64]; omega
  have y6 : IntKind.i64.wrap v0 = v0 := by rw [IntKind.wrap_i64]; omega
  have r1 : -128000000000 ≤ u0 := by omega
  have r2 : u0 ≤ 128000000000 := by omega
  have r3 : -128000000000 ≤ v0 := by omega
  have r4 : v0 ≤ 128000000000 := by omega
  obtain ⟨w1, hw1, k0, hb1, hz1⟩ := boxH2 w (.int .i64 P) (.int .i64 D) 23
  have HW1 := Lib.hid hw1
  clear hv hv' hw1 hz1 m1 m2 m3 m4 m5 m6 m7 m8
  go_enter Tryz.func58, Tryz.ntmps58
  go_wp2_with fail
  rw [← HW1.out]
  refine (rfVector a _ ha).mono ?_
  rintro e w2 ⟨rfl, hb2⟩
  rw [HV.out]
  go_wp2_with fail
  refine (rfVector b _ hb).mono ?_
  rintro e w3 ⟨rfl, hb3⟩
  rw [HV'.out]
  have k2 := (hb2.block _ (Array.getElem?_eq_some_iff.1 k0).1).trans k0
  have k3 := (hb3.block _ (Array.getElem?_eq_some_iff.1 k2).1).trans k2
  have B2 := hb1.trans (hb2.mono hb1.size)
  have B3 := B2.trans (hb3.mono B2.size)
  obtain ⟨w4, hw4, m0, m1, hb4, hz4⟩ := boxH22 w3 (.int .i64 X) (.int .i64 Y) (.int .i64 X') (.int .i64 Y') 66 66
  have k4 := (hb4.block _ (Array.getElem?_eq_some_iff.1 k3).1).trans k3
  have B4 := B3.trans (hb4.mono B3.size)
  obtain ⟨c0, c1, -, -⟩ := two_cell k4
  obtain ⟨d0, d1, -, -⟩ := two_cell m0
  obtain ⟨e0, e1, -, -⟩ := two_cell m1
  have HW4 := Lib.hid hw4
  clear hw4 hz4 k0 k2 k3 k4 m0 m1 hb1 hb2 hb3 hb4 B2 B3 HV HV'
  go_wp2_with fail
  rw [← HW4.out]
  go_quiet (fail)
  by_cases s1 : u0 < 0 <;> by_cases s2 : v0 < 0
  all_goals
    obtain ⟨E1, hE1⟩ : ∃ E, (if u0 < 0 then -u0 else u0) = E := ⟨_, rfl⟩
    obtain ⟨E2, hE2⟩ : ∃ E, (if v0 < 0 then -v0 else v0) = E := ⟨_, rfl⟩
    have t1 : max u0 (-u0) = E1 := by rw [← hE1]; split <;> omega
    have t2 : max v0 (-v0) = E2 := by rw [← hE2]; split <;> omega
    have t3 : 0 ≤ E1 ∧ E1 ≤ 128000000000 := by omega
    have t4 : 0 ≤ E2 ∧ E2 ≤ 128000000000 := by omega
    have q1 : 0 ≤ E1 * Y' ∧ E1 * Y' ≤ 128000000000 * 128 := ⟨Int.mul_nonneg t3.1 (by omega), Int.mul_le_mul t3.2 (by omega) (by omega) (by omega)⟩
    have q2 : 0 ≤ E2 * Y ∧ E2 * Y ≤ 128000000000 * 128 := ⟨Int.mul_nonneg t4.1 (by omega), Int.mul_le_mul t4.2 (by omega) (by omega) (by omega)⟩
    rw [t1, t2] at HC
    obtain ⟨g1, hg1⟩ : ∃ g, E1 * (Y' : Int) = g := ⟨_, rfl⟩
    obtain ⟨g2, hg2⟩ : ∃ g, E2 * (Y : Int) = g := ⟨_, rfl⟩
    rw [hg1] at q1 HC
    rw [hg2] at q2 HC
    obtain ⟨q1, q1'⟩ := q1
    obtain ⟨q2, q2'⟩ := q2
    simp only [s1, s2, ↓reduceIte] at hE1 hE2
    clear t1 t2 t3 t4
    have ex : g1 < g2 ∨ (¬ g1 < g2 ∧ g2 < g1) ∨ (¬ g1 < g2 ∧ ¬ g2 < g1) := by omega
    rcases ex with hc | ⟨hc, hd⟩ | ⟨hc, hd⟩
    · have HK := Lib.hid (show cmpG P D a.data.toList b.data.toList = -1 by rw [HC.out, cmpI, if_pos hc])
      clear HC
      go_wp2
      go_ret
      exact ⟨ret_i HK.out.symm, below_drewN B4 _⟩
    · have HK := Lib.hid (show cmpG P D a.data.toList b.data.toList = 1 by rw [HC.out, cmpI, if_neg hc, if_pos hd])
      clear HC
      go_wp2
      go_ret
      exact ⟨ret_i HK.out.symm, below_drewN B4 _⟩
    · have HK := Lib.hid (show cmpG P D a.data.toList b.data.toList = 0 by rw [HC.out, cmpI, if_neg hc, if_neg hd])
      clear HC
      go_wp2
      go_ret
      exact ⟨ret_i HK.out.symm, below_drewN B4 _⟩
/-- What the two loops of Nearest have seen, and the best of it. -/
def snQ (L B : Nat) (x : Nat × Nat) : Prop := 1 ≤ x.2 ∧ x.1 ≤ x.2 ∧ (x.2 < L ∨ (x.2 = L ∧ x.1 < B))
def NoneYet (P D L B : Nat) : Prop := ∀ x, snQ L B x → ¬ 0 < yW P D x.1 x.2
theorem snQ_succ {L B : Nat} (hL : 1 ≤ L) (hB : B ≤ L) (x : Nat × Nat) : snQ L (B + 1) x ↔ (snQ L B x ∨ x = (B, L)) := by
  obtain ⟨p, q⟩ := x
  simp only [snQ, Prod.mk.injEq]
  omega
theorem snQ_row {L : Nat} (x : Nat × Nat) : snQ (L + 1) 0 x ↔ snQ L (L + 1) x := by
  obtain ⟨p, q⟩ := x
  simp only [snQ]
  omega
theorem NoneYet.one {P D L B : Nat} (h : NoneYet P D L B) (hL : 1 ≤ L) (hB : B ≤ L) (hy : 0 < yW P D B L) : BestOf P D (snQ L (B + 1)) (B, L) := by
  refine ⟨(snQ_succ hL hB _).2 (.inr rfl), hy, fun x hx hxy => ?_⟩
  rcases (snQ_succ hL hB x).1 hx with h1 | rfl
  · exact absurd hxy (h x h1)
  · exact NLe.refl _
theorem NoneYet.skip {P D L B : Nat} (h : NoneYet P D L B) (hL : 1 ≤ L) (hB : B ≤ L) (hy : ¬ 0 < yW P D B L) : NoneYet P D L (B + 1) := by
  intro x hx
  rcases (snQ_succ hL hB x).1 hx with h1 | rfl
  · exact h x h1
  · exact hy
theorem yW_zero {P D L : Nat} (h : D < P) : ¬ 0 < yW P D 0 L := by
  rw [yW, if_pos h]
  omega
/-- The string that Nearest holds. -/
def Holds (P D L B : Nat) (s : ByteArray) : Prop := (s = ⟨#[]⟩ ∧ NoneYet P D L B) ∨ ∃ a b, s = nearWord P D a b ∧ BestOf P D (snQ L B) (a, b)
theorem Holds.row {P D L : Nat} {s : ByteArray} (h : Holds P D L (L + 1) s) : Holds P D (L + 1) 0 s := by
  rcases h with ⟨h1, h2⟩ | ⟨a, b, h1, h2⟩
  · exact .inl ⟨h1, fun x hx => h2 x ((snQ_row x).1 hx)⟩
  · exact .inr ⟨a, b, h1, h2.of_iff fun x => snQ_row x⟩
theorem Holds.skip {P D L B : Nat} {s : ByteArray} (h : Holds P D L B s) (hL : 1 ≤ L) (hB : B ≤ L) (hy : ¬ 0 < yW P D B L) : Holds P D L (B + 1) s := by
  rcases h with ⟨h1, h2⟩ | ⟨a, b, h1, h2⟩
  · exact .inl ⟨h1, h2.skip hL hB hy⟩
  · exact .inr ⟨a, b, h1, (h2.drop hy).of_iff fun x => snQ_succ hL hB x⟩
theorem best_step {P D L B a b : Nat} (h : BestOf P D (snQ L B) (a, b)) (hL : 1 ≤ L) (hB : B ≤ L) (hy : 0 < yW P D B L) :
    (Bet P D (B, L) (a, b) → BestOf P D (snQ L (B + 1)) (B, L)) ∧ (¬ Bet P D (B, L) (a, b) → BestOf P D (snQ L (B + 1)) (a, b)) :=
  ⟨fun k => (h.take hy k).of_iff fun x => snQ_succ hL hB x, fun k => (h.keep k).of_iff fun x => snQ_succ hL hB x⟩
theorem bet_prog {P D L B a b : Nat} (h : snQ L B (a, b)) (hL : 1 ≤ L) (hB : B ≤ L) (X Y : Int) (hX : cmpG P D (nearWord P D B L).data.toList (nearWord P D a b).data.toList = X) (hY : cmpV (nearWord P D B L).data.toList (nearWord P D a b).data.toList = Y) :
    Bet P D (B, L) (a, b) ↔ X < 0 ∨ (X = 0 ∧ L = b ∧ Y < 0) := by
  obtain ⟨h1, h2, h3⟩ := h
  simp only at h1 h2 h3
  subst hX hY
  rw [cmpG, cmpV, near_vec hB hL, near_vec h2 h1, cmpI_neg, cmpI_neg, cmpI_zero, Bet]
  simp only
  rw [gapZ_gW, gapZ_gW]
  omega
theorem empty_of {P D a b : Nat} (h : 1 ≤ b) : (nearWord P D a b).toList.isEmpty = false := by
  rw [Lib.toList_data, near_data]
  have := spreadL_len (a := 66) (b := otherC P D) (m := a) (n := b - a) b
  cases hh : spreadL [66] a [otherC P D] (b - a) b with
  | nil => rw [hh] at this; simp at this; omega
  | cons _ _ => rfl
end Go.Proofs.YtfmfpnnglogkmaaGreatDoor
