/- Helpers: D4. -/
import Derived.Test.YtdeplhihcifmeaaGreatDoorD3
import Derived.Test.YtdeplhihcifmeaaGreatDoorRows
import Derived.Shelf.SlGeneric
import Derived.Shelf.SlLaysF0
import Derived.Sort.OwnSorted
import Derived.Shelf.SlSortCmp.InsertionK
import Derived.Shelf.SlSortCmp.NoneTotal
import Derived.Laws.AppendOwnNone
import Derived.Deep.RegionHeld3
/- Around of netting. -/
namespace Go.Proofs.YtdeplhihcifmeaaGreatDoor
open Go.RowKit

def okB (b : Ck.Bar) : Bool := barE b.x b.y b.s == 0
def aroundB (x y : Int) : List Ck.Bar := [⟨x - 1, y - 1, 1⟩, ⟨x + 1, y - 1, -1⟩, ⟨x, y, -1⟩, ⟨x, y, 1⟩]
def aroundL (x y : Int) : List Ck.Bar := (aroundB x y).filter okB
theorem aro_no {x y : Int} {j : Nat} {b : Ck.Bar} (h : (aroundB x y)[j]? = some b) (hb : okB b = false) : ((aroundB x y).take (j + 1)).filter okB = ((aroundB x y).take j).filter okB := by
  rw [List.take_add_one, h, List.filter_append]
  simp [hb]
theorem aro_yes {x y : Int} {j : Nat} {b : Ck.Bar} (h : (aroundB x y)[j]? = some b) (hb : okB b = true) : ((aroundB x y).take (j + 1)).filter okB = ((aroundB x y).take j).filter okB ++ [b] := by
  rw [List.take_add_one, h, List.filter_append]
  simp [hb]
set_option maxHeartbeats 4000000 in
set_option maxRecDepth 100000 in
theorem netAround (x y : Int) (w : World) (hk : Ck.okKnot ⟨x, y⟩) :
    Calls Tryz.prog 25 #[.agg #[.int .i64 x, .int .i64 y]] w fun e w' => ∃ v, e = .returned (.tuple #[v, .int .i64 0]) ∧ w'.ownsRow w.heap.size 24 3 v (aroundL x y).length (bcellsL (aroundL x y)) ∧ Below w.heap.size w w' := by
  obtain ⟨ib, hib, hb0, hb01, hb02⟩ := info_parts Tryz.info24
  have HIB := Lib.hid hib
  have HB0 := Lib.hid hb0
  have HB1 := Lib.hid hb01
  have HB2 := Lib.hid hb02
  have HK := Lib.hid ((knotE_ok x y).2 hk)
  obtain ⟨⟨x1, x2⟩, ⟨y1, y2⟩, -⟩ := hk
  simp only at x1 x2 y1 y2
  clear hib hb0 hb01 hb02
  obtain ⟨w1, hw1, c0, c1, hb1, hz1⟩ := box2 w (.int .i64 x) (.int .i64 y) 26
  have HW1 := Lib.hid hw1
  clear hw1
  go_enter Tryz.func25, Tryz.ntmps25
  go_wp2_with fail
  rw [← HW1.out]
  refine (netCheckKnot x y _).mono ?_
  rintro e w2 ⟨rfl, hb2⟩
  rw [HK.out]
  have d0 := (hb2.cell (p := ⟨w.heap.size, 0, none⟩) hz1).trans c0
  have d1 := (hb2.cell (p := ⟨w.heap.size, 1, none⟩) hz1).trans c1
  have B2 := hb1.trans (hb2.mono hb1.size)
  clear c0 c1
  go_wp2_with fail
  refine (netBarsAround x y _ (by omega) (by omega) (by omega) (by omega)).mono ?_
  rintro e w3 ⟨rfl, hb3⟩
  have B3 := B2.trans (hb3.mono B2.size)
  clear d0 d1 hb1 hb2 hb3 B2
  go_wp2_with fail
  go_loopw [5, 7, 15] (fun v _ i wr => ∃ j : Nat, j ≤ 4 ∧ i = .int .i64 j ∧ Hid (wr.ownsRow w.heap.size 24 3 v (((aroundB x y).take j).filter okB).length (bcellsL (((aroundB x y).take j).filter okB))) ∧ Below w.heap.size w wr) (fun _ _ i _ => 4 - (intOf i).toNat)
  case atStart => exact ⟨0, by omega, rfl, Lib.hid ⟨rfl, .inl ⟨rfl, rfl⟩⟩, B3⟩
  case round =>
    obtain ⟨j, hj, rfl, hown, hb⟩ := hrel
    have hj' : j = 0 ∨ j = 1 ∨ j = 2 ∨ j = 3 ∨ j = 4 := by omega
    have hbz := hb.size
    have hln := List.length_filter_le okB ((aroundB x y).take j)
    have hln2 : ((aroundB x y).take j).length ≤ 4 := by rw [List.length_take]; exact Nat.le_trans (Nat.min_le_right _ _) (by simp [aroundB])
    generalize hFF : ((aroundB x y).take j).filter okB = F at hown hln
    have HFF := Lib.hid hFF
    clear hFF
    rcases hj' with rfl | rfl | rfl | rfl | rfl
    · have hidx := ix0 (.int .i64 (x - 1)) (.int .i64 (y - 1)) (.int .i64 (1)) (.int .i64 (x + 1)) (.int .i64 (y - 1)) (.int .i64 (-1)) (.int .i64 x) (.int .i64 y) (.int .i64 (-1)) (.int .i64 x) (.int .i64 y) (.int .i64 (1))
      have HG := Lib.hid (show (aroundB x y)[0]? = some ⟨(x - 1), (y - 1), 1⟩ from rfl)
      obtain ⟨w4, hw4, e0, e1, e2, hb4, hz4⟩ := box3 wr (.int .i64 (x - 1)) (.int .i64 (y - 1)) (.int .i64 1) 24
      have HW4 := Lib.hid hw4
      clear hw4
      go_wp2_with fail
      rw [← HW4.out]
      refine (netCheckBar (x - 1) (y - 1) 1 _).mono ?_
      rintro e w5 ⟨rfl, hb5⟩
      have f0 := (hb5.cell (p := ⟨wr.heap.size, 0, none⟩) hz4).trans e0
      have f1 := (hb5.cell (p := ⟨wr.heap.size, 1, none⟩) hz4).trans e1
      have f2 := (hb5.cell (p := ⟨wr.heap.size, 2, none⟩) hz4).trans e2
      have b5 := hb4.trans (hb5.mono hb4.size)
      have HO := Lib.hid (ownsRow_below hown.out b5)
      have B5 := hb.trans (b5.mono hb.size)
      have B5z := B5.size
      clear e0 e1 e2 hb4 hb5 b5 hown
      obtain ⟨z, hz⟩ : ∃ z, barE (x - 1) (y - 1) 1 = z := ⟨_, rfl⟩
      have HZ := Lib.hid hz
      rw [hz]
      clear hz
      by_cases h0 : z = 0
      · have hz0 : (z == 0) = true := by rw [h0]; rfl
        have HT := Lib.hid ((aro_yes HG.out (by rw [okB, HZ.out, h0]; rfl)).trans (by rw [HFF.out]))
        clear h0
        go_wp2_with (at_builtin; refine wpList_append_own _ rfl _ _ 22 rfl w.heap.size 24 ib (.agg #[.int .i64 0, .int .i64 0, .int .i64 0]) 3 24 Tryz.underlying22 HIB.out HB0.out HB1.out HB2.out rfl (by decide) _ _ _ rfl (HO.out.alloc _) ⟨w5.heap.size, 0, none⟩ 1 1 [.int .i64 (x - 1), .int .i64 (y - 1), .int .i64 1] rfl rfl (three_new _ _ _ _ _) ?c2 ?c3 ?c4 ?c5 ?_)
        case c2 => intro u hu; simp at hu; rcases hu with rfl | rfl | rfl <;> rfl
        case c3 => unfold maxLen; omega
        case c4 => omega
        case c5 => simp; omega
        intro v' w6 hown6 hgrow6 _
        have B6 : Below w.heap.size w w6 := (B5.alloc B5z _).grown hgrow6 (by simp; omega) (ownsRow_base HO.out)
        have HO6 := Lib.hid hown6
        clear hown6 hgrow6
        go_wp2
        go_roundw
        case rel => exact ⟨1, by omega, rfl, by rw [HT.out, List.length_append, bcellsL_snoc]; exact HO6.out, B6⟩
        case measure => simp [intOf]
      · have hz0 : (z == 0) = false := by rw [beq_eq_false_iff_ne]; exact h0
        have HT := Lib.hid ((aro_no HG.out (by rw [okB, HZ.out]; exact hz0)).trans HFF.out)
        clear h0
        go_wp2
        go_roundw
        case rel => exact ⟨1, by omega, rfl, by rw [HT.out]; exact HO.out, B5⟩
        case measure => simp [intOf]
    · have hidx := ix1 (.int .i64 (x - 1)) (.int .i64 (y - 1)) (.int .i64 (1)) (.int .i64 (x + 1)) (.int .i64 (y - 1)) (.int .i64 (-1)) (.int .i64 x) (.int .i64 y) (.int .i64 (-1)) (.int .i64 x) (.int .i64 y) (.int .i64 (1))
      have HG := Lib.hid (show (aroundB x y)[1]? = some ⟨(x + 1), (y - 1), (-1)⟩ from rfl)
      obtain ⟨w4, hw4, e0, e1, e2, hb4, hz4⟩ := box3 wr (.int .i64 (x + 1)) (.int .i64 (y - 1)) (.int .i64 (-1)) 24
      have HW4 := Lib.hid hw4
      clear hw4
      go_wp2_with fail
      rw [← HW4.out]
      refine (netCheckBar (x + 1) (y - 1) (-1) _).mono ?_
      rintro e w5 ⟨rfl, hb5⟩
      have f0 := (hb5.cell (p := ⟨wr.heap.size, 0, none⟩) hz4).trans e0
      have f1 := (hb5.cell (p := ⟨wr.heap.size, 1, none⟩) hz4).trans e1
      have f2 := (hb5.cell (p := ⟨wr.heap.size, 2, none⟩) hz4).trans e2
      have b5 := hb4.trans (hb5.mono hb4.size)
      have HO := Lib.hid (ownsRow_below hown.out b5)
      have B5 := hb.trans (b5.mono hb.size)
      have B5z := B5.size
      clear e0 e1 e2 hb4 hb5 b5 hown
      obtain ⟨z, hz⟩ : ∃ z, barE (x + 1) (y - 1) (-1) = z := ⟨_, rfl⟩
      have HZ := Lib.hid hz
      rw [hz]
      clear hz
      by_cases h0 : z = 0
      · have hz0 : (z == 0) = true := by rw [h0]; rfl
        have HT := Lib.hid ((aro_yes HG.out (by rw [okB, HZ.out, h0]; rfl)).trans (by rw [HFF.out]))
        clear h0
        go_wp2_with (at_builtin; refine wpList_append_own _ rfl _ _ 22 rfl w.heap.size 24 ib (.agg #[.int .i64 0, .int .i64 0, .int .i64 0]) 3 24 Tryz.underlying22 HIB.out HB0.out HB1.out HB2.out rfl (by decide) _ _ _ rfl (HO.out.alloc _) ⟨w5.heap.size, 0, none⟩ 1 1 [.int .i64 (x + 1), .int .i64 (y - 1), .int .i64 (-1)] rfl rfl (three_new _ _ _ _ _) ?c2 ?c3 ?c4 ?c5 ?_)
        case c2 => intro u hu; simp at hu; rcases hu with rfl | rfl | rfl <;> rfl
        case c3 => unfold maxLen; omega
        case c4 => omega
        case c5 => simp; omega
        intro v' w6 hown6 hgrow6 _
        have B6 : Below w.heap.size w w6 := (B5.alloc B5z _).grown hgrow6 (by simp; omega) (ownsRow_base HO.out)
        have HO6 := Lib.hid hown6
        clear hown6 hgrow6
        go_wp2
        go_roundw
        case rel => exact ⟨2, by omega, rfl, by rw [HT.out, List.length_append, bcellsL_snoc]; exact HO6.out, B6⟩
        case measure => simp [intOf]
      · have hz0 : (z == 0) = false := by rw [beq_eq_false_iff_ne]; exact h0
        have HT := Lib.hid ((aro_no HG.out (by rw [okB, HZ.out]; exact hz0)).trans HFF.out)
        clear h0
        go_wp2
        go_roundw
        case rel => exact ⟨2, by omega, rfl, by rw [HT.out]; exact HO.out, B5⟩
        case measure => simp [intOf]
    · have hidx := ix2 (.int .i64 (x - 1)) (.int .i64 (y - 1)) (.int .i64 (1)) (.int .i64 (x + 1)) (.int .i64 (y - 1)) (.int .i64 (-1)) (.int .i64 x) (.int .i64 y) (.int .i64 (-1)) (.int .i64 x) (.int .i64 y) (.int .i64 (1))
      have HG := Lib.hid (show (aroundB x y)[2]? = some ⟨x, y, (-1)⟩ from rfl)
      obtain ⟨w4, hw4, e0, e1, e2, hb4, hz4⟩ := box3 wr (.int .i64 x) (.int .i64 y) (.int .i64 (-1)) 24
      have HW4 := Lib.hid hw4
      clear hw4
      go_wp2_with fail
      rw [← HW4.out]
      refine (netCheckBar x y (-1) _).mono ?_
      rintro e w5 ⟨rfl, hb5⟩
      have f0 := (hb5.cell (p := ⟨wr.heap.size, 0, none⟩) hz4).trans e0
      have f1 := (hb5.cell (p := ⟨wr.heap.size, 1, none⟩) hz4).trans e1
      have f2 := (hb5.cell (p := ⟨wr.heap.size, 2, none⟩) hz4).trans e2
      have b5 := hb4.trans (hb5.mono hb4.size)
      have HO := Lib.hid (ownsRow_below hown.out b5)
      have B5 := hb.trans (b5.mono hb.size)
      have B5z := B5.size
      clear e0 e1 e2 hb4 hb5 b5 hown
      obtain ⟨z, hz⟩ : ∃ z, barE x y (-1) = z := ⟨_, rfl⟩
      have HZ := Lib.hid hz
      rw [hz]
      clear hz
      by_cases h0 : z = 0
      · have hz0 : (z == 0) = true := by rw [h0]; rfl
        have HT := Lib.hid ((aro_yes HG.out (by rw [okB, HZ.out, h0]; rfl)).trans (by rw [HFF.out]))
        clear h0
        go_wp2_with (at_builtin; refine wpList_append_own _ rfl _ _ 22 rfl w.heap.size 24 ib (.agg #[.int .i64 0, .int .i64 0, .int .i64 0]) 3 24 Tryz.underlying22 HIB.out HB0.out HB1.out HB2.out rfl (by decide) _ _ _ rfl (HO.out.alloc _) ⟨w5.heap.size, 0, none⟩ 1 1 [.int .i64 x, .int .i64 y, .int .i64 (-1)] rfl rfl (three_new _ _ _ _ _) ?c2 ?c3 ?c4 ?c5 ?_)
        case c2 => intro u hu; simp at hu; rcases hu with rfl | rfl | rfl <;> rfl
        case c3 => unfold maxLen; omega
        case c4 => omega
        case c5 => simp; omega
        intro v' w6 hown6 hgrow6 _
        have B6 : Below w.heap.size w w6 := (B5.alloc B5z _).grown hgrow6 (by simp; omega) (ownsRow_base HO.out)
        have HO6 := Lib.hid hown6
        clear hown6 hgrow6
        go_wp2
        go_roundw
        case rel => exact ⟨3, by omega, rfl, by rw [HT.out, List.length_append, bcellsL_snoc]; exact HO6.out, B6⟩
        case measure => simp [intOf]
      · have hz0 : (z == 0) = false := by rw [beq_eq_false_iff_ne]; exact h0
        have HT := Lib.hid ((aro_no HG.out (by rw [okB, HZ.out]; exact hz0)).trans HFF.out)
        clear h0
        go_wp2
        go_roundw
        case rel => exact ⟨3, by omega, rfl, by rw [HT.out]; exact HO.out, B5⟩
        case measure => simp [intOf]
    · have hidx := ix3 (.int .i64 (x - 1)) (.int .i64 (y - 1)) (.int .i64 (1)) (.int .i64 (x + 1)) (.int .i64 (y - 1)) (.int .i64 (-1)) (.int .i64 x) (.int .i64 y) (.int .i64 (-1)) (.int .i64 x) (.int .i64 y) (.int .i64 (1))
      have HG := Lib.hid (show (aroundB x y)[3]? = some ⟨x, y, 1⟩ from rfl)
      obtain ⟨w4, hw4, e0, e1, e2, hb4, hz4⟩ := box3 wr (.int .i64 x) (.int .i64 y) (.int .i64 1) 24
      have HW4 := Lib.hid hw4
      clear hw4
      go_wp2_with fail
      rw [← HW4.out]
      refine (netCheckBar x y 1 _).mono ?_
      rintro e w5 ⟨rfl, hb5⟩
      have f0 := (hb5.cell (p := ⟨wr.heap.size, 0, none⟩) hz4).trans e0
      have f1 := (hb5.cell (p := ⟨wr.heap.size, 1, none⟩) hz4).trans e1
      have f2 := (hb5.cell (p := ⟨wr.heap.size, 2, none⟩) hz4).trans e2
      have b5 := hb4.trans (hb5.mono hb4.size)
      have HO := Lib.hid (ownsRow_below hown.out b5)
      have B5 := hb.trans (b5.mono hb.size)
      have B5z := B5.size
      clear e0 e1 e2 hb4 hb5 b5 hown
      obtain ⟨z, hz⟩ : ∃ z, barE x y 1 = z := ⟨_, rfl⟩
      have HZ := Lib.hid hz
      rw [hz]
      clear hz
      by_cases h0 : z = 0
      · have hz0 : (z == 0) = true := by rw [h0]; rfl
        have HT := Lib.hid ((aro_yes HG.out (by rw [okB, HZ.out, h0]; rfl)).trans (by rw [HFF.out]))
        clear h0
        go_wp2_with (at_builtin; refine wpList_append_own _ rfl _ _ 22 rfl w.heap.size 24 ib (.agg #[.int .i64 0, .int .i64 0, .int .i64 0]) 3 24 Tryz.underlying22 HIB.out HB0.out HB1.out HB2.out rfl (by decide) _ _ _ rfl (HO.out.alloc _) ⟨w5.heap.size, 0, none⟩ 1 1 [.int .i64 x, .int .i64 y, .int .i64 1] rfl rfl (three_new _ _ _ _ _) ?c2 ?c3 ?c4 ?c5 ?_)
        case c2 => intro u hu; simp at hu; rcases hu with rfl | rfl | rfl <;> rfl
        case c3 => unfold maxLen; omega
        case c4 => omega
        case c5 => simp; omega
        intro v' w6 hown6 hgrow6 _
        have B6 : Below w.heap.size w w6 := (B5.alloc B5z _).grown hgrow6 (by simp; omega) (ownsRow_base HO.out)
        have HO6 := Lib.hid hown6
        clear hown6 hgrow6
        go_wp2
        go_roundw
        case rel => exact ⟨4, by omega, rfl, by rw [HT.out, List.length_append, bcellsL_snoc]; exact HO6.out, B6⟩
        case measure => simp [intOf]
      · have hz0 : (z == 0) = false := by rw [beq_eq_false_iff_ne]; exact h0
        have HT := Lib.hid ((aro_no HG.out (by rw [okB, HZ.out]; exact hz0)).trans HFF.out)
        clear h0
        go_wp2
        go_roundw
        case rel => exact ⟨4, by omega, rfl, by rw [HT.out]; exact HO.out, B5⟩
        case measure => simp [intOf]
    · have HAR := Lib.hid (show aroundL x y = F by rw [← HFF.out]; rfl)
      clear HFF
      go_wp2
      go_ret2
      exact ⟨_, rfl, by rw [HAR.out]; exact hown.out, hb⟩
end Go.Proofs.YtdeplhihcifmeaaGreatDoor

/- Contracts of plus, the shift's closure, barBetween. -/
namespace Go.Proofs.YtdeplhihcifmeaaGreatDoor
open Go.RowKit

set_option maxHeartbeats 1000000 in
set_option maxRecDepth 100000 in
theorem netPlus (x y a b : Int) (w : World) (h1 : -1000000 ≤ x) (h2 : x ≤ 1000000) (h3 : -1000000 ≤ y) (h4 : y ≤ 1000000) (k1 : -1000000 ≤ a) (k2 : a ≤ 1000000) (k3 : -1000000 ≤ b) (k4 : b ≤ 1000000) :
    Calls Tryz.prog 146 #[.agg #[.int .i64 x, .int .i64 y], .agg #[.int .i64 a, .int .i64 b]] w fun e w' => e = .returned (.agg #[.int .i64 (x + a), .int .i64 (y + b)]) ∧ Below w.heap.size w w' := by
  go_enter Tryz.func146, Tryz.ntmps146
  go_wp2
  exact bodyPost_ret (v := .agg #[.int .i64 (x + a), .int .i64 (y + b)]) (by simp [results, Tryz.results146, go_sem]) rfl ⟨rfl, (((Below.refl _ _).alloc (Nat.le_refl _) _).alloc (by simp) _).alloc (by simp; omega) _⟩

set_option maxHeartbeats 1000000 in
set_option maxRecDepth 100000 in
theorem netBetweenUp (x y a b : Int) (w : World) (h1 : -1000000 ≤ x) (h2 : x ≤ 1000000) (k1 : -1000000 ≤ a) (k2 : a ≤ 1000000) (hle : y ≤ b) :
    Calls Tryz.prog 147 #[.agg #[.int .i64 x, .int .i64 y], .agg #[.int .i64 a, .int .i64 b]] w fun e w' => e = .returned (.agg #[.int .i64 x, .int .i64 y, .int .i64 (a - x)]) ∧ Below w.heap.size w w' := by
  have hn : ¬ b < y := by omega
  go_enter Tryz.func147, Tryz.ntmps147
  go_wp2
  exact bodyPost_ret (v := .agg #[.int .i64 x, .int .i64 y, .int .i64 (a - x)]) (by simp [results, Tryz.results147, go_sem]) rfl ⟨rfl, (((Below.refl _ _).alloc (Nat.le_refl _) _).alloc (by simp) _).alloc (by simp; omega) _⟩

set_option maxHeartbeats 1000000 in
set_option maxRecDepth 100000 in
theorem netWithin (A : Option Addr) (c : Nat) (l : List Ck.Bar) (w : World) (hl : l.length ≤ 4096) (hc : l.length ≤ c) (hcm : c ≤ maxLen) (hN : Ck.Net l) (h : RB w w.heap.size A l) :
    Calls Tryz.prog 111 #[.slice A l.length c] w fun e w' => e = .returned (.tuple #[.slice A l.length c, .int .i64 0]) ∧ Below w.heap.size w w' := by
  have HE := Lib.hid ((netE_zero l).2 ⟨hl, hN⟩)
  have HR := Lib.hid h
  clear h hN
  go_enter Tryz.func111, Tryz.ntmps111
  go_wp2_with fail
  refine (netCheckNet A c l _ hl hc hcm HR.out).mono ?_
  rintro e w1 ⟨rfl, hb1⟩
  rw [HE.out]
  go_wp2
  go_ret2
  exact ⟨rfl, hb1⟩
end Go.Proofs.YtdeplhihcifmeaaGreatDoor

/- The contract of the shift's closure. -/
namespace Go.Proofs.YtdeplhihcifmeaaGreatDoor
open Go.RowKit

theorem box22 (w : World) (a b c d : Value) (t t' : TypeId) : ∃ w1, w1 = (w.alloc (.cells #[a, b] t)).alloc (.cells #[c, d] t') ∧ w1.cell? ⟨w.heap.size, 0, none⟩ = some a ∧ w1.cell? ⟨w.heap.size, 1, none⟩ = some b ∧
    w1.heap[w.heap.size + 1]? = some (.cells #[c, d] t' (0, 0)) ∧ Below w.heap.size w w1 ∧ w.heap.size + 1 < w1.heap.size := by
  obtain ⟨w0, rfl, h0, h1, hb0, hz⟩ := box2 w a b t
  have hs : (w.alloc (.cells #[a, b] t)).heap.size = w.heap.size + 1 := by simp
  have hb : Below (w.alloc (.cells #[a, b] t)).heap.size (w.alloc (.cells #[a, b] t)) ((w.alloc (.cells #[a, b] t)).alloc (.cells #[c, d] t')) := (Below.refl _ _).alloc (Nat.le_refl _) _
  exact ⟨_, rfl, (hb.cell (p := ⟨_, _, none⟩) hz).trans h0, (hb.cell (p := ⟨_, _, none⟩) hz).trans h1, by rw [← hs]; exact heap_alloc_new _ _, hb0.trans (hb.mono (by omega)), by simp⟩

set_option maxHeartbeats 1000000 in
set_option maxRecDepth 100000 in
theorem shiftClosure (x y a b : Int) (g : Nat) (w : World) (h1 : -1000000 ≤ x) (h2 : x ≤ 1000000) (h3 : -1000000 ≤ y) (h4 : y ≤ 1000000) (k1 : -1000000 ≤ a) (k2 : a ≤ 1000000) (k3 : -1000000 ≤ b) (k4 : b ≤ 1000000)
    (hg : g < w.heap.size) (c0 : w.cell? ⟨g, 0, none⟩ = some (.int .i64 a)) (c1 : w.cell? ⟨g, 1, none⟩ = some (.int .i64 b)) :
    Calls Tryz.prog 145 #[.agg #[.int .i64 x, .int .i64 y], .pointer (some ⟨g, 0, none⟩)] w fun e w' => e = .returned (.agg #[.int .i64 (x + a), .int .i64 (y + b)]) ∧ Below w.heap.size w w' := by
  obtain ⟨w0, hw0, d0, d1, hr, hb0, hz0⟩ := box22 w (.int .i64 x) (.int .i64 y) (.int .i64 0) (.int .i64 0) 149 149
  have hne : w.heap.size ≠ g := by omega
  have hne2 : w.heap.size + 1 ≠ g := by omega
  have e0 : ((w.alloc (.cells #[.int .i64 x, .int .i64 y] 149)).alloc (.cells #[.int .i64 0, .int .i64 0] 149)).cell? ⟨g, 0, none⟩ = some (.int .i64 a) := by rw [← hw0]; exact (hb0.cell (p := ⟨g, _, none⟩) hg).trans c0
  have e1 : ((w.alloc (.cells #[.int .i64 x, .int .i64 y] 149)).alloc (.cells #[.int .i64 0, .int .i64 0] 149)).cell? ⟨g, 1, none⟩ = some (.int .i64 b) := by rw [← hw0]; exact (hb0.cell (p := ⟨g, _, none⟩) hg).trans c1
  have HW := Lib.hid hw0
  have HR := Lib.hid hr
  clear hw0 hr
  go_enter Tryz.func145, Tryz.ntmps145
  go_wp2_with fail
  rw [← HW.out]
  refine (netPlus x y a b _ h1 h2 h3 h4 k1 k2 k3 k4).mono ?_
  rintro e w1 ⟨rfl, hb1⟩
  have hr1 := (hb1.block _ hz0).trans HR.out
  have hz1 := Nat.lt_of_lt_of_le hz0 hb1.size
  obtain ⟨t0, t1, tf⟩ := two_of_block hr1
  clear hr1 c0 c1 d0 d1 e0 e1
  go_wp2
  exact bodyPost_ret (v := .agg #[.int .i64 (x + a), .int .i64 (y + b)]) (by simp [results, Tryz.results145, go_sem, t0, t1]) rfl ⟨rfl, ((hb0.trans (hb1.mono (by omega))).setCell (by simp) _).setCell (by simp) _⟩
end Go.Proofs.YtdeplhihcifmeaaGreatDoor

/- The sort of the library laid at this program, at bars and at knots. -/
namespace Go.Proofs.YtdeplhihcifmeaaGreatDoor
open Go.Shelf
def Tryz.sortB_ren : Go.Shelf.Ren := ⟨fun | 6 => 148 | 15 => 165 | 14 => 170 | 28 => 186 | 29 => 187 | 20 => 188 | 21 => 189 | 22 => 190 | 23 => 191 | 24 => 192 | 25 => 193 | 26 => 194 | 27 => 195 | 46 => 213 | 47 => 209 | 48 => 210 | 49 => 214 | 50 => 215 | 57 => 232 | n => n, fun | 22 => 22 | 24 => 24 | 25 => 174 | 3 => 3 | 39 => 202 | 0 => 0 | 53 => 222 | 55 => 224 | 4 => 4 | 46 => 216 | 45 => 215 | 50 => 175 | 5 => 5 | 9 => 9 | 66 => 238 | 70 => 242 | 76 => 259 | 77 => 260 | n => n, fun | n => n⟩
theorem Tryz.sortB : Go.Proofs.SlLaysF0.n6 Tryz.prog Tryz.sortB_ren := {
  mixed := by kernel_rfl,
  f6 := ⟨Tryz.f148.name, by decide, Tryz.func148.trans (congrArg some (by kernel_rfl))⟩,
  f14 := ⟨Tryz.f170.name, by decide, Tryz.func170.trans (congrArg some (by kernel_rfl))⟩,
  f15 := Tryz.func165.trans (congrArg some (by kernel_rfl)),
  f20 := ⟨Tryz.f188.name, by decide, Tryz.func188.trans (congrArg some (by kernel_rfl))⟩,
  f21 := ⟨Tryz.f189.name, by decide, Tryz.func189.trans (congrArg some (by kernel_rfl))⟩,
  f22 := ⟨Tryz.f190.name, by decide, Tryz.func190.trans (congrArg some (by kernel_rfl))⟩,
  f23 := ⟨Tryz.f191.name, by decide, Tryz.func191.trans (congrArg some (by kernel_rfl))⟩,
  f24 := ⟨Tryz.f192.name, by decide, Tryz.func192.trans (congrArg some (by kernel_rfl))⟩,
  f25 := ⟨Tryz.f193.name, by decide, Tryz.func193.trans (congrArg some (by kernel_rfl))⟩,
  f26 := ⟨Tryz.f194.name, by decide, Tryz.func194.trans (congrArg some (by kernel_rfl))⟩,
  f27 := ⟨Tryz.f195.name, by decide, Tryz.func195.trans (congrArg some (by kernel_rfl))⟩,
  f28 := Tryz.func186.trans (congrArg some (by kernel_rfl)),
  f29 := Tryz.func187.trans (congrArg some (by kernel_rfl)),
  f46 := ⟨Tryz.f213.name, by decide, Tryz.func213.trans (congrArg some (by kernel_rfl))⟩,
  f47 := Tryz.func209.trans (congrArg some (by kernel_rfl)),
  f48 := Tryz.func210.trans (congrArg some (by kernel_rfl)),
  f49 := ⟨Tryz.f214.name, by decide, Tryz.func214.trans (congrArg some (by kernel_rfl))⟩,
  f50 := ⟨Tryz.f215.name, by decide, Tryz.func215.trans (congrArg some (by kernel_rfl))⟩,
  f57 := ⟨Tryz.f232.name, by decide, Tryz.func232.trans (congrArg some (by kernel_rfl))⟩,
  t0 := Tryz.underlying0,
  a0 := Tryz.isAgg0,
  z0 := Tryz.sizeOf0,
  v0 := Tryz.zeroValue0,
  t3 := Tryz.underlying3,
  a3 := Tryz.isAgg3,
  z3 := Tryz.sizeOf3,
  v3 := Tryz.zeroValue3,
  t4 := Tryz.underlying4,
  a4 := Tryz.isAgg4,
  z4 := Tryz.sizeOf4,
  v4 := Tryz.zeroValue4,
  t5 := Tryz.underlying5,
  a5 := Tryz.isAgg5,
  z5 := Tryz.sizeOf5,
  v5 := Tryz.zeroValue5,
  t9 := Tryz.underlying9,
  a9 := Tryz.isAgg9,
  z9 := Tryz.sizeOf9,
  v9 := Tryz.zeroValue9,
  t22 := Tryz.underlying22,
  a22 := Tryz.isAgg22,
  z22 := Tryz.sizeOf22,
  v22 := Tryz.zeroValue22,
  t25 := Tryz.underlying174,
  a25 := Tryz.isAgg174,
  z25 := Tryz.sizeOf174,
  v25 := Tryz.zeroValue174,
  t39 := Tryz.underlying202,
  a39 := Tryz.isAgg202,
  z39 := Tryz.sizeOf202,
  v39 := Tryz.zeroValue202,
  t45 := Tryz.underlying215,
  a45 := Tryz.isAgg215,
  z45 := Tryz.sizeOf215,
  v45 := Tryz.zeroValue215,
  t46 := Tryz.underlying216,
  a46 := Tryz.isAgg216,
  z46 := Tryz.sizeOf216,
  v46 := Tryz.zeroValue216,
  t50 := Tryz.underlying175,
  a50 := Tryz.isAgg175,
  z50 := Tryz.sizeOf175,
  v50 := Tryz.zeroValue175,
  t53 := Tryz.underlying222,
  a53 := Tryz.isAgg222,
  z53 := Tryz.sizeOf222,
  v53 := Tryz.zeroValue222,
  t55 := Tryz.underlying224,
  a55 := Tryz.isAgg224,
  z55 := Tryz.sizeOf224,
  v55 := Tryz.zeroValue224,
  t66 := Tryz.underlying238,
  a66 := Tryz.isAgg238,
  z66 := Tryz.sizeOf238,
  v66 := Tryz.zeroValue238,
  t70 := Tryz.underlying242,
  a70 := Tryz.isAgg242,
  z70 := Tryz.sizeOf242,
  v70 := Tryz.zeroValue242,
  t76 := Tryz.underlying259,
  a76 := Tryz.isAgg259,
  z76 := Tryz.sizeOf259,
  v76 := Tryz.zeroValue259,
  t77 := Tryz.underlying260,
  a77 := Tryz.isAgg260,
  z77 := Tryz.sizeOf260,
  v77 := Tryz.zeroValue260 }
end Go.Proofs.YtdeplhihcifmeaaGreatDoor

/- A row of the call's own with elements of k cells, before and behind the library's sort. -/
namespace Go.Proofs.YtdeplhihcifmeaaGreatDoor
open Go.RowKit Go.Sort

variable {α : Type} [Inhabited α]
theorem flat_at (enc : α → List Value) (k : Nat) (hk : ∀ x, (enc x).length = k) : ∀ (ss : List α) (t : Nat), t < ss.length * k → (ss.flatMap enc)[t]? = some ((enc (ss[t / k]!))[t % k]!)
  | [], t, h => by simp at h
  | a :: r, t, h => by
    have k0 : 0 < k := by
      rcases Nat.eq_zero_or_pos k with h0 | h0
      · subst h0; simp at h
      · exact h0
    rw [List.flatMap_cons]
    by_cases ht : t < k
    · rw [List.getElem?_append_left (by rw [hk]; exact ht), Nat.div_eq_of_lt ht, Nat.mod_eq_of_lt ht]
      have : t < (enc a).length := by rw [hk]; exact ht
      simp [this]
    · have h1 : t - k < r.length * k := by
        have : (a :: r).length * k = r.length * k + k := by rw [List.length_cons, Nat.add_mul, Nat.one_mul]
        omega
      have e1 : t / k = (t - k) / k + 1 := by
        have e := Nat.add_div_right (t - k) k0
        rwa [Nat.sub_add_cancel (by omega)] at e
      have e2 : t % k = (t - k) % k := by
        have e := Nat.add_mod_right (t - k) k
        rw [Nat.sub_add_cancel (by omega)] at e
        exact e
      rw [List.getElem?_append_right (by rw [hk]; omega), hk, flat_at enc k hk r (t - k) h1, e1, e2]
      simp
omit [Inhabited α] in
theorem flat_length (enc : α → List Value) (k : Nat) (hk : ∀ x, (enc x).length = k) : ∀ (ss : List α), (ss.flatMap enc).length = ss.length * k
  | [] => by simp
  | a :: r => by rw [List.flatMap_cons, List.length_append, hk, flat_length enc k hk r, List.length_cons, Nat.add_mul, Nat.one_mul]; omega
theorem flatK_list (enc : α → List Value) (k : Nat) (hk : ∀ x, (enc x).length = k) (ss : List α) : flatK enc k ss.toArray = (ss.flatMap enc).toArray := by
  refine ext_get! (by simp [flat_length enc k hk]) fun t ht => ?_
  have ht' : t < ss.length * k := by simpa using ht
  rw [get_flatK enc k _ t (by simpa using ht')]
  have h := flat_at enc k hk ss t ht'
  rw [getElem!_pos _ t (by simpa [flat_length enc k hk] using ht')]
  rw [List.getElem?_eq_getElem (by rw [flat_length enc k hk]; exact ht'), Option.some.injEq] at h
  rw [List.getElem_toArray, h]
  simp
theorem holdsK_of_row (enc : α → List Value) (k : Nat) (hk : ∀ x, (enc x).length = k) {w : World} {g : Nat} {cur : Array Value} {e : TypeId} (ss : List α) (hb : w.heap[g]? = some (.cells cur e (0, 0))) (ht : cur.toList.take (ss.length * k) = ss.flatMap enc) :
    HoldsK enc k w g 0 ss.toArray := by
  unfold HoldsK
  rw [flatK_list enc k hk]
  intro j hj
  have hj' : j < ss.length * k := by simpa [flat_length enc k hk] using hj
  refine ⟨?_, by simp [World.frozen?, hb]⟩
  have h1 : (cur.toList.take (ss.length * k))[j]? = (ss.flatMap enc)[j]? := by rw [ht]
  rw [List.getElem?_take_of_lt hj', flat_at enc k hk ss j hj'] at h1
  have h2 := flat_at enc k hk ss j hj'
  have h3 : (ss.flatMap enc).toArray[j]! = (enc ss[j / k]!)[j % k]! := by
    rw [getElem!_pos _ j hj, List.getElem_toArray]
    rw [List.getElem?_eq_getElem (by rw [flat_length enc k hk]; exact hj'), Option.some.injEq] at h2
    exact h2
  rw [h3]
  simp only [World.cell?, hb, Nat.zero_add, id]
  simp only [Option.isSome_none, Bool.false_eq_true, if_false]
  rw [← Array.getElem?_toList, h1]
theorem take_put (cur : Array Value) (ts : List Value) (h : ts.length ≤ cur.size) : (putCells id 0 ts.toArray cur).toList.take ts.length = ts := by
  apply List.ext_getElem?
  intro j
  by_cases hj : j < ts.length
  · rw [List.getElem?_take_of_lt hj, Array.getElem?_toList]
    simp [putCells, hj, show j < cur.size by omega]
  · rw [List.getElem?_take_eq_none (by omega), List.getElem?_eq_none (by omega)]
theorem sorted_heap {w : World} {g m : Nat} {os : Array Obj} {cur : Array Value} {e : TypeId} {fr : Nat × Nat} (F : Array Value) (hb : w.heap[g]? = some (.cells cur e fr)) :
    (grow (putRow id (Sort.ahead w m) g 0 F) os).heap[g]? = some (.cells (putCells id 0 F cur) e fr) := by
  have hg : g < w.heap.size := (Array.getElem?_eq_some_iff.1 hb).1
  rw [heap_grow_old _ _ (by simpa using hg)]
  simp [putRow, mapBlock, Sort.ahead, Array.getElem?_modify, hb, onCells]
theorem sorted_grown {w : World} {g m : Nat} {os : Array Obj} (F : Array Value) : w.grownBy (grow (putRow id (Sort.ahead w m) g 0 F) os) (some g) := by
  refine ⟨rfl, rfl, rfl, by simp, fun k hk hne => ?_⟩
  rw [heap_grow_old _ _ (by simpa using hk)]
  have : g ≠ k := fun e => hne (by rw [e])
  simp [putRow, mapBlock, Sort.ahead, Array.getElem?_modify, this]
/-- Behind the sort the same slice owns the cells of the permuted elements. -/
theorem sorted_owns (enc : α → List Value) (k : Nat) (hk : ∀ x, (enc x).length = k) {w : World} {base g cap m : Nat} {e : TypeId} {os : Array Obj} {cur : Array Value} (ss : List α) (hbase : base ≤ g) (hb : w.heap[g]? = some (.cells cur e (0, 0)))
    (h1 : ss.length ≤ cap) (h2 : cap ≤ maxLen) (h3 : cur.size = cap * k) :
    (sortWorldK enc k w g 0 m ss.toArray os).ownsRow base e k (.slice (some ⟨g, 0, none⟩) ss.length cap) ss.length (ss.flatMap enc) ∧ (base ≤ w.heap.size → Below base w (sortWorldK enc k w g 0 m ss.toArray os)) := by
  unfold sortWorldK putRowK
  rw [flatK_list enc k hk]
  refine ⟨⟨flat_length enc k hk ss, .inr ⟨g, cap, _, rfl, hbase, sorted_heap _ hb, h1, h2, by simp [putCells, h3], ?_⟩⟩, fun hB => (Below.refl _ _).grown (sorted_grown _) hB (fun j e => by cases e; exact hbase)⟩
  have hle : (ss.flatMap enc).length ≤ cur.size := by rw [flat_length enc k hk, h3]; exact Nat.mul_le_mul_right k h1
  have := take_put cur (ss.flatMap enc) hle
  rwa [flat_length enc k hk] at this
end Go.Proofs.YtdeplhihcifmeaaGreatDoor

/- The library's sort at bars by compareBars. -/
namespace Go.Proofs.YtdeplhihcifmeaaGreatDoor
open Go.RowKit Go.Sort Go.Shelf

instance (a b : Ck.Bar) : Decidable (Ck.Blt a b) := by unfold Ck.Blt; infer_instance
instance : Inhabited Ck.Bar := ⟨⟨0, 0, 0⟩⟩
instance : Inhabited Ck.Knot := ⟨⟨0, 0⟩⟩
theorem ltBars (x y : Ck.Bar) : ltOf cmpB x y = decide (Ck.Blt x y) := by
  unfold ltOf
  rw [decide_eq_decide, cmpB_lt_iff]
theorem swoBars : SWO (ltOf cmpB) where
  irrefl x := by rw [ltBars, decide_eq_false_iff_not]; exact fun h => h.irrefl
  trans x y z h1 h2 := by
    rw [ltBars, decide_eq_true_eq] at *
    exact h1.trans h2
  ntrans x y z h1 h2 := by
    rw [ltBars, decide_eq_false_iff_not] at *
    unfold Ck.Blt at *
    omega
theorem totBars (x y : Ck.Bar) (h1 : ltOf cmpB x y = false) (h2 : ltOf cmpB y x = false) : x = y := by
  rw [ltBars, decide_eq_false_iff_not] at *
  rcases Ck.Blt.tri x y with h | h | h
  · exact absurd h h1
  · exact h
  · exact absurd h h2
theorem layBars (blk off size : Nat) (w : World) : CmpLays Tryz.prog 131 #[] bcells 3 cmpB blk off size w := fun _ _ _ _ x y =>
  (netCompareBars x.x x.y x.s y.x y.y y.s _).mono fun e w' h => by
    obtain ⟨he, rfl⟩ := h
    exact ⟨he, 1, _, by rw [alloc_eq_grow, alloc_eq_grow, alloc_eq_grow, grow_grow, grow_grow]; rfl⟩

def leB (x y : Ck.Bar) : Bool := !(ltOf cmpB y x)
def sortBars (l : List Ck.Bar) : List Ck.Bar := l.mergeSort leB
theorem leB_iff (x y : Ck.Bar) : leB x y = true ↔ ¬ Ck.Blt y x := by simp [leB, ltBars]
theorem sortBars_perm (l : List Ck.Bar) : (sortBars l).Perm l := List.mergeSort_perm l leB
theorem sortBars_sorted (l : List Ck.Bar) : (sortBars l).Pairwise fun x y => ¬ Ck.Blt y x := by
  have := List.pairwise_mergeSort (le := leB) (fun a b c h1 h2 => by rw [leB_iff] at *; unfold Ck.Blt at *; omega) (fun a b => by rw [Bool.or_eq_true, leB_iff, leB_iff]; unfold Ck.Blt; omega) l
  exact this.imp fun {a b} h => (leB_iff a b).1 h
theorem sortBars_strict {l : List Ck.Bar} (hn : l.Nodup) : (sortBars l).Pairwise Ck.Blt := by
  have h1 := sortBars_sorted l
  have h2 : (sortBars l).Nodup := (sortBars_perm l).nodup_iff.2 hn
  exact h1.imp₂ (fun a b h k => by
    rcases Ck.Blt.tri a b with h' | h' | h'
    · exact h'
    · exact absurd h' k
    · exact absurd h' h) h2
theorem sortBars_net {l : List Ck.Bar} (h : l.Pairwise Ck.Blt) : sortBars l = l :=
  List.Perm.eq_of_pairwise (le := fun a b => ¬ Ck.Blt b a) (fun a b _ _ h1 h2 => by
    rcases Ck.Blt.tri a b with h' | h' | h'
    · exact absurd h' h2
    · exact h'
    · exact absurd h' h1) (sortBars_sorted l) (h.imp fun {a b} h k => (h.trans k).irrefl) (sortBars_perm l)

theorem netSortBars (base : Nat) (v : Value) (l : List Ck.Bar) (w : World) (hl : l.length ≤ 100000) (hB : base ≤ w.heap.size) (h : w.ownsRow base 24 3 v l.length (bcellsL l)) :
    Calls Tryz.prog 148 #[v, .func (.func 131) #[] #[]] w fun e w' => e = .returned (.tuple #[]) ∧ w'.ownsRow base 24 3 v l.length (bcellsL (sortBars l)) ∧ Below base w w' := by
  have eg : ∀ args w, (callFunc 131 args).run Tryz.prog w = .ok (.enter 131 args) w := enters_of Tryz.func131 (by kernel_rfl) rfl
  rcases h.2 with ⟨rfl, hz⟩ | ⟨g, cap, cur, rfl, hbase, hgb, r1, r2, r3, r4⟩
  · have hl0 : l = [] := List.eq_nil_of_length_eq_zero hz
    subst hl0
    have hc := AnyF.slices_SortFunc_none Tryz.sortB none 0 (.func (.func 131) #[] #[]) w
    change Calls Tryz.prog 148 _ _ _ at hc
    exact hc.mono fun e w' ⟨he, hw⟩ => ⟨he, by rw [hw]; exact ⟨by simp [sortBars, bcellsL], .inl ⟨rfl, rfl⟩⟩, by rw [hw]; exact Below.refl _ _⟩
  · have hH := holdsK_of_row bcells 3 (fun _ => rfl) l hgb (r4.trans rfl)
    have hgl : g < w.heap.size := (Array.getElem?_eq_some_iff.1 hgb).1
    have hc := AnyQ.slices_SortFunc_total Tryz.sortB 3 Tryz.isAgg24 Tryz.sizeOf24 bcells (fun _ => rfl) (fun x v hv => by simp [bcells] at hv; rcases hv with rfl | rfl | rfl <;> rfl) cmpB swoBars 131 #[] g 0 cap l.toArray w eg (layBars g 0 _ w) hH hgl (by simp; omega) totBars
    change Calls Tryz.prog 148 _ _ _ at hc
    rw [List.size_toArray] at hc
    refine hc.mono fun e w' ⟨he, n, os, hw⟩ => ?_
    have hs : (l.toArray.toList.mergeSort fun x y => !(ltOf cmpB) y x) = sortBars l := rfl
    rw [hs] at hw
    have hp := (sortBars_perm l).length_eq
    obtain ⟨q1, q2⟩ := sorted_owns bcells 3 (fun _ => rfl) (m := n) (os := os) (sortBars l) hbase hgb (by rw [hp]; exact r1) r2 r3
    rw [hp] at q1
    rw [hw]
    exact ⟨he, q1, q2 hB⟩
end Go.Proofs.YtdeplhihcifmeaaGreatDoor

/- The contract of moved, by a shift's closure. -/
namespace Go.Proofs.YtdeplhihcifmeaaGreatDoor
open Go.RowKit

theorem made_row (w : World) (base n : Nat) (hb : base ≤ w.heap.size) (hn : n ≤ 4096) (cs : Array Value) (hcs : cs.size = n * 3) (t : TypeId) : (w.alloc (.cells cs t)).ownsRow base t 3 (.slice (some ⟨w.heap.size, 0, none⟩) 0 n) 0 [] :=
  ⟨by simp, .inr ⟨_, _, _, rfl, hb, heap_alloc_new _ _, Nat.zero_le _, by unfold maxLen; omega, hcs, by simp⟩⟩
def zeros3 (n : Nat) : Array Value := madeCells (Value.agg #[.int .i64 0, .int .i64 0, .int .i64 0]).cells (n * 3)

def K5 (W : World) (g g0 : Nat) (a b c d e : Value) (w0 : World) : Prop := w0.cell? ⟨g, 0, none⟩ = some a ∧ w0.cell? ⟨g, 1, none⟩ = some b ∧ w0.cell? ⟨g, 2, none⟩ = some c ∧ w0.cell? ⟨g0, 0, none⟩ = some d ∧ w0.cell? ⟨g0, 1, none⟩ = some e ∧ g < w0.heap.size ∧ g0 < w0.heap.size ∧ Below g W w0
theorem carry5 {W w0 w1 : World} {g g0 : Nat} {a b c d e : Value} (hb : Below w0.heap.size w0 w1) (h : K5 W g g0 a b c d e w0) : K5 W g g0 a b c d e w1 :=
  ⟨(hb.cell (p := ⟨g, _, none⟩) h.2.2.2.2.2.1).trans h.1, (hb.cell (p := ⟨g, _, none⟩) h.2.2.2.2.2.1).trans h.2.1, (hb.cell (p := ⟨g, _, none⟩) h.2.2.2.2.2.1).trans h.2.2.1, (hb.cell (p := ⟨g0, _, none⟩) h.2.2.2.2.2.2.1).trans h.2.2.2.1, (hb.cell (p := ⟨g0, _, none⟩) h.2.2.2.2.2.2.1).trans h.2.2.2.2.1, Nat.lt_of_lt_of_le h.2.2.2.2.2.1 hb.size, Nat.lt_of_lt_of_le h.2.2.2.2.2.2.1 hb.size, h.2.2.2.2.2.2.2.trans (hb.mono (Nat.le_of_lt h.2.2.2.2.2.1))⟩
theorem K5.below {W w0 : World} {g g0 : Nat} {a b c d e : Value} (h : K5 W g g0 a b c d e w0) : Below g W w0 := h.2.2.2.2.2.2.2

theorem mov_row {w10 : World} {base : Nat} {v : Value} {l : List Ck.Bar} {k : Nat} {dx dy : Int} (hlt : k < l.length) (h : w10.ownsRow base 24 3 v (k + 1) (bcellsL ((l.take k).map (Ck.Bar.shift dx dy)) ++ [.int .i64 (l[k].x + dx), .int .i64 (l[k].y + dy), .int .i64 l[k].s])) :
    Hid (w10.ownsRow base 24 3 v (k + 1) (bcellsL ((l.take (k + 1)).map (Ck.Bar.shift dx dy)))) := by
  rw [List.take_succ_eq_append_getElem hlt, List.map_append, bcellsL, List.flatMap_append, ← bcellsL]
  exact h
theorem mov_below {wr w9 w10 : World} {o : Obj} {base : Nat} {row : Option Nat} (hb : Below wr.heap.size wr w9) (hg : (w9.alloc o).grownBy w10 row) (hrow : ∀ k, row = some k → base ≤ k) (hbz : base ≤ wr.heap.size) : Below base wr w10 :=
  (((hb.mono hbz).alloc (Nat.le_trans hbz hb.size) _)).grown hg (by have := hb.size; simp; omega) hrow

def MovPost (l : List Ck.Bar) (dx dy : Int) (w : World) (e : Ending) (w' : World) : Prop :=
  ∃ v, e = .returned v ∧ w'.ownsRow w.heap.size 24 3 v l.length (bcellsL (sortBars (l.map (Ck.Bar.shift dx dy)))) ∧ Below w.heap.size w w'

set_option maxHeartbeats 4000000 in
set_option maxRecDepth 100000 in
theorem netMoved (A : Option Addr) (c g0 : Nat) (l : List Ck.Bar) (dx dy : Int) (w : World) (hl : l.length ≤ 4096) (hok : ∀ x ∈ l, Ck.okBar x) (h : RB w w.heap.size A l) (k1 : -500000 ≤ dx) (k2 : dx ≤ 500000) (k3 : -500000 ≤ dy) (k4 : dy ≤ 500000)
    (hg : g0 < w.heap.size) (c0 : w.cell? ⟨g0, 0, none⟩ = some (.int .i64 dx)) (c1 : w.cell? ⟨g0, 1, none⟩ = some (.int .i64 dy)) :
    Calls Tryz.prog 113 #[.slice A l.length c, .func (.func 145) #[] #[.pointer (some ⟨g0, 0, none⟩)]] w (MovPost l dx dy w) := by
  obtain ⟨ib, hib, hb0, hb01, hb02⟩ := info_parts Tryz.info24
  have hmk : ∀ W : World, (Instr.makeSlice 22 (.int .i64 0) (.int .i64 (l.length : Int))).run Tryz.prog W = .ok (.slice (some ⟨W.heap.size, 0, none⟩) 0 l.length) (W.alloc (.cells (zeros3 l.length) 24)) := fun W => by
    have := run_make (P := Tryz.prog) W 22 24 ib _ Tryz.underlying22 hib hb0 .i64 .i64 0 (l.length : Int) (by omega) (by omega) (by rw [hb02]; omega) (by omega)
    rw [hb01, Int.toNat_natCast] at this
    exact this
  have HIB := Lib.hid hib
  have HB0 := Lib.hid hb0
  have HB1 := Lib.hid hb01
  have HB2 := Lib.hid hb02
  have HR := Lib.hid h
  have hl' : (l.length : Int) ≤ 4096 := by omega
  clear hib hb0 hb01 hb02 h
  go_enter Tryz.func113, Tryz.ntmps113
  go_wp2_with fail
  go_loopw [5, 7, 13] (fun v _ i wi => ∃ k : Nat, k ≤ l.length ∧ i = .int .i64 k ∧ Hid (wi.ownsRow w.heap.size 24 3 v k (bcellsL ((l.take k).map (Ck.Bar.shift dx dy)))) ∧ Below w.heap.size w wi) (fun _ _ i _ => l.length - (intOf i).toNat)
  case atStart => exact ⟨0, Nat.zero_le _, rfl, made_row _ _ _ (Nat.le_refl _) hl _ (by rw [zeros3, size_madeCells]) _, (Below.refl _ _).alloc (Nat.le_refl _) _⟩
  case round =>
    obtain ⟨k, hk, rfl, hown, hb⟩ := hrel
    by_cases hlt : k < l.length
    · obtain ⟨b, off, rfl, hB, hc⟩ := HR.out.below hb (by omega)
      obtain ⟨d0, d1, d2⟩ := hc k hlt
      have hbz := hb.size
      obtain ⟨⟨⟨hx1, hx2⟩, ⟨hy1, hy2⟩, _⟩, hs, _⟩ := hok _ (List.getElem_mem hlt)
      replace hx1 : -100000 ≤ l[k].x := hx1
      replace hx2 : l[k].x ≤ 100000 := hx2
      replace hy1 : -100000 ≤ l[k].y := hy1
      replace hy2 : l[k].y ≤ 100000 := hy2
      have hs1 : -1 ≤ l[k].s := by omega
      have hs2 : l[k].s ≤ 1 := by omega
      have q0 := (hb.cell (p := ⟨g0, 0, none⟩) hg).trans c0
      have q1 := (hb.cell (p := ⟨g0, 1, none⟩) hg).trans c1
      clear hc hs
      go_wp2_with fail
      obtain ⟨w1, hw1, e0, e1, e2, hb1, hz1⟩ := box3 wr (.int .i64 l[k].x) (.int .i64 l[k].y) (.int .i64 l[k].s) 24
      rw [← hw1]
      clear hw1 d0 d1 d2
      replace q0 := (hb1.cell (p := ⟨g0, 0, none⟩) (by show g0 < _; omega)).trans q0
      replace q1 := (hb1.cell (p := ⟨g0, 1, none⟩) (by show g0 < _; omega)).trans q1
      have hk0 : K5 wr wr.heap.size g0 (.int .i64 l[k].x) (.int .i64 l[k].y) (.int .i64 l[k].s) (.int .i64 dx) (.int .i64 dy) w1.drew := ⟨e0, e1, e2, q0, q1, hz1, by show g0 < w1.heap.size; omega, below_drew hb1⟩
      go_region_law (first
        | (go_simp; go_at_call 86; refine (netLower _ _ _ _).mono ?_; rintro e w9 ⟨rfl, hb9⟩; have hk9 := carry5 hb9 (by assumption); obtain ⟨_, _, _, _, _, _, _, _⟩ := id hk9)
        | (go_simp; go_at_call 89; refine (netUpper _ _ _ _ hx1 hx2 hy1 hy2 hs1 hs2).mono ?_; rintro e w9 ⟨rfl, hb9⟩; have hk9 := carry5 hb9 (by assumption); obtain ⟨_, _, _, _, _, _, _, _⟩ := id hk9)
        | (go_simp; go_at_call 145; refine (shiftClosure _ _ dx dy g0 _ (by omega) (by omega) (by omega) (by omega) (by omega) (by omega) (by omega) (by omega) (by assumption) (by assumption) (by assumption)).mono ?_; rintro e w9 ⟨rfl, hb9⟩; have hk9 := carry5 hb9 (by assumption); obtain ⟨_, _, _, _, _, _, _, _⟩ := id hk9)
        | (go_simp; go_at_call 147; refine (netBetweenUp _ _ _ _ _ (by omega) (by omega) (by omega) (by omega) (by omega)).mono ?_; rintro e w9 ⟨rfl, hb9⟩; have hk9 := carry5 hb9 (by assumption); obtain ⟨_, _, _, _, _, _, _, _⟩ := id hk9; rw [show l[k].x + l[k].s + dx - (l[k].x + dx) = l[k].s from by omega])
        | (refine step_append_lies _ rfl (.tmp 17) (.tmp 27) 22 rfl w.heap.size 24 ib (.agg #[.int .i64 0, .int .i64 0, .int .i64 0]) 3 24 Tryz.underlying22 HIB.out HB0.out HB1.out HB2.out rfl (by decide) u5 k (bcellsL ((l.take k).map (Ck.Bar.shift dx dy))) (by simp [Act.eval]) (by exact (ownsRow_below hown.out (K5.below (by assumption))).alloc _) _ 1 1 [.int .i64 (l[k].x + dx), .int .i64 (l[k].y + dy), .int .i64 l[k].s] (by first | (simp [Act.eval]; done) | (simp [Act.eval]; rfl)) rfl (by exact three_new _ _ _ _ _) (by intro u hu; simp at hu; rcases hu with rfl | rfl | rfl <;> rfl) (by decide) (by unfold maxLen; omega) (by omega) (by simp; omega) _ rfl ?_; intro gx cap w10 hown10 hgrow10 _ _))
      all_goals
        have hrow := mov_row (dx := dx) (dy := dy) hlt hown10
        have hbel := hb.trans (mov_below (K5.below (by assumption)) hgrow10 (ownsRow_base hown.out) hbz)
        clear hgrow10 hown10
        go_wp2
        go_roundw
        case rel => exact ⟨k + 1, by omega, by go_num, hrow, hbel⟩
        case measure => simp [intOf]; omega
    · obtain rfl : k = l.length := by omega
      have hrow := hown.out
      rw [List.take_length] at hrow
      have hlm : (l.map (Ck.Bar.shift dx dy)).length = l.length := List.length_map ..
      rw [← hlm] at hrow
      have hbz := hb.size
      go_wp2_with fail
      refine (netSortBars w.heap.size _ (l.map (Ck.Bar.shift dx dy)) _ (by omega) hbz hrow).mono ?_
      rintro e w2 ⟨rfl, hrow2, hb2⟩
      rw [hlm] at hrow2
      have HO := Lib.hid hrow2
      clear hrow hrow2
      go_wp2
      go_ret
      exact ⟨_, rfl, HO.out, hb.trans hb2⟩
end Go.Proofs.YtdeplhihcifmeaaGreatDoor

/- Edges of tapers: plain mathematics of the bars that a word follows. -/
namespace Go.Proofs.YtdeplhihcifmeaaGreatDoor
open Ck

def dxL (c : UInt8) : Int := if c = 84 then 2 else if c = 66 then 1 else 0
def dyL (c : UInt8) : Int := if c = 78 then 2 else if c = 66 then 1 else 0
def isL (c : UInt8) : Prop := c = 78 ∨ c = 66 ∨ c = 84
def stepK (σ : Int) (k : Knot) (c : UInt8) : Knot := ⟨k.x + σ * dxL c, k.y + dyL c⟩
def barsP (σ : Int) : Knot → List UInt8 → List Bar
  | _, [] => []
  | k, c :: r => if c = 66 then ⟨k.x, k.y, σ⟩ :: barsP σ (stepK σ k c) r else barsP σ (stepK σ k c) r
/-- Does the word begin with a bar? -/
def headB : List UInt8 → Bool
  | 66 :: _ => true
  | _ => false
/-- The runs of bars, counted at their ends. -/
def endsR : List UInt8 → Nat
  | [] => 0
  | c :: r => (if c = 66 then (if headB r = true then 0 else 1) else 0) + endsR r
def barsN (l : List UInt8) : Nat := l.countP fun c => decide (c = 66)

theorem dyL_nonneg (c : UInt8) : 0 ≤ dyL c := by unfold dyL; split <;> (try split) <;> omega
theorem step_y (σ : Int) (k : Knot) (c : UInt8) : (stepK σ k c).y = k.y + dyL c := rfl
theorem step_B (σ : Int) (k : Knot) : stepK σ k 66 = ⟨k.x + σ, k.y + 1⟩ := by simp [stepK, dxL, dyL]
theorem barsP_cons (σ : Int) (k : Knot) (c : UInt8) (r : List UInt8) : barsP σ k (c :: r) = if c = 66 then ⟨k.x, k.y, σ⟩ :: barsP σ (stepK σ k c) r else barsP σ (stepK σ k c) r := rfl
theorem barsP_ge {σ : Int} : ∀ {l : List UInt8} {k : Knot} {b : Bar}, b ∈ barsP σ k l → k.y ≤ b.y ∧ b.s = σ
  | [], _, _, h => by simp [barsP] at h
  | c :: r, k, b, h => by
    have hd := dyL_nonneg c
    rw [barsP_cons] at h
    split at h
    · rcases List.mem_cons.1 h with rfl | h
      · exact ⟨Int.le_refl _, rfl⟩
      · have := barsP_ge h
        rw [step_y] at this
        exact ⟨by omega, this.2⟩
    · have := barsP_ge h
      rw [step_y] at this
      exact ⟨by omega, this.2⟩
theorem barsP_pair {σ : Int} : ∀ (l : List UInt8) (k : Knot), (barsP σ k l).Pairwise fun a b => a.y < b.y
  | [], _ => by simp [barsP]
  | c :: r, k => by
    rw [barsP_cons]
    split
    · rename_i h
      subst h
      refine List.pairwise_cons.2 ⟨fun b hb => ?_, barsP_pair r _⟩
      have := (barsP_ge hb).1
      rw [step_B] at this
      simp only at this ⊢
      omega
    · exact barsP_pair r _
theorem barsP_length {σ : Int} : ∀ (l : List UInt8) (k : Knot), (barsP σ k l).length = barsN l
  | [], _ => rfl
  | c :: r, k => by
    rw [barsP_cons, barsN, List.countP_cons]
    split
    · rename_i h
      simp [h, barsP_length r, barsN]
    · rename_i h
      simp [h, barsP_length r, barsN]
/-- The height of a knot along the way: each letter adds 2. -/
theorem ends_far {σ : Int} (hσ : σ = 1 ∨ σ = -1) : ∀ {l : List UInt8} {k e : Knot}, (∀ c ∈ l, isL c) → e ∈ ends (barsP σ k l) → σ * k.x + k.y ≤ σ * e.x + e.y
  | [], _, _, _, h => by simp [barsP, ends] at h
  | c :: r, k, e, hl, h => by
    have hc := hl c (by simp)
    have hr : ∀ c ∈ r, isL c := fun c' h' => hl c' (by simp [h'])
    have hs : σ * (stepK σ k c).x + (stepK σ k c).y = σ * k.x + k.y + 2 := by
      rcases hc with rfl | rfl | rfl <;> rcases hσ with rfl | rfl <;> simp [stepK, dxL, dyL] <;> omega
    rw [barsP_cons] at h
    split at h
    · rename_i h66
      rw [mem_ends] at h
      obtain ⟨b, hb, he⟩ := h
      rcases List.mem_cons.1 hb with rfl | hb
      · rcases he with rfl | rfl
        · exact Int.le_refl _
        · rcases hσ with rfl | rfl <;> simp [Bar.hi] <;> omega
      · have := ends_far hσ hr (mem_ends.2 ⟨b, hb, he⟩)
        omega
    · have := ends_far hσ hr h
      omega
theorem start_end {σ : Int} (hσ : σ = 1 ∨ σ = -1) {l : List UInt8} {k : Knot} (hl : ∀ c ∈ l, isL c) : k ∈ ends (barsP σ k l) ↔ headB l = true := by
  match l with
  | [] => simp [barsP, ends, headB]
  | c :: r =>
    have hr : ∀ c ∈ r, isL c := fun c' h' => hl c' (by simp [h'])
    have hs : σ * (stepK σ k c).x + (stepK σ k c).y = σ * k.x + k.y + 2 := by
      rcases hl c (by simp) with rfl | rfl | rfl <;> rcases hσ with rfl | rfl <;> simp [stepK, dxL, dyL] <;> omega
    by_cases h66 : c = 66
    · subst h66
      refine ⟨fun _ => rfl, fun _ => mem_ends.2 ⟨⟨k.x, k.y, σ⟩, by rw [barsP_cons]; simp, .inl rfl⟩⟩
    · have hh : headB (c :: r) = false := by
        unfold headB
        split
        · rename_i h; cases h; exact absurd rfl h66
        · rfl
      rw [hh, barsP_cons, if_neg h66]
      refine ⟨fun h => ?_, fun h => by cases h⟩
      have := ends_far hσ hr h
      omega
/-- Knots and parts of an edge. -/
theorem barsP_parts {σ : Int} (hσ : σ = 1 ∨ σ = -1) : ∀ {l : List UInt8} {k : Knot}, (∀ c ∈ l, isL c) → PartsIs (barsP σ k l) (endsR l) ∧ nK (barsP σ k l) = barsN l + endsR l
  | [], k, _ => ⟨.nil _, by simp [barsP, nK, ends, nub, barsN, endsR]⟩
  | c :: r, k, hl => by
    have hr : ∀ c ∈ r, isL c := fun c' h' => hl c' (by simp [h'])
    obtain ⟨ih1, ih2⟩ := barsP_parts hσ (l := r) (k := stepK σ k c) hr
    by_cases h66 : c = 66
    · subst h66
      rw [barsP_cons, if_pos rfl]
      have hm : ∀ x, x ∈ (⟨k.x, k.y, σ⟩ :: barsP σ (stepK σ k 66) r : List Bar) ↔ x = (⟨k.x, k.y, σ⟩ : Bar) ∨ x ∈ barsP σ (stepK σ k 66) r := fun x => List.mem_cons
      obtain ⟨p', hp'⟩ := CntIs.total (l := ⟨k.x, k.y, σ⟩ :: barsP σ (stepK σ k 66) r) (⟨k.x, k.y, σ⟩ :: barsP σ (stepK σ k 66) r) []
      have hlo : (⟨k.x, k.y, σ⟩ : Bar).lo ∉ ends (barsP σ (stepK σ k 66) r) := fun h => by
        have := ends_far hσ hr h
        rw [step_B] at this
        rcases hσ with rfl | rfl <;> simp [Bar.lo] at this <;> omega
      have hhi : (⟨k.x, k.y, σ⟩ : Bar).hi ∈ ends (barsP σ (stepK σ k 66) r) ↔ headB r = true := by
        rw [← start_end hσ (k := stepK σ k 66) hr, step_B]
        exact Iff.rfl
      have hk := nK_more hm
      rw [if_neg hlo] at hk
      have he : endsR (66 :: r) = (if headB r = true then 0 else 1) + endsR r := by simp [endsR]
      have hn : barsN (66 :: r) = barsN r + 1 := by simp [barsN]
      rcases rank_more hm ih1 hp' with h | ⟨_, h⟩
      · exact absurd h.1 hlo
      · by_cases hb : headB r = true
        · rw [if_pos (hhi.2 hb)] at hk
          rw [if_pos hb] at he
          have : p' = endsR (66 :: r) := by omega
          subst this
          exact ⟨hp', by omega⟩
        · rw [if_neg (fun h' => hb (hhi.1 h'))] at hk
          rw [if_neg hb] at he
          have : p' = endsR (66 :: r) := by omega
          subst this
          exact ⟨hp', by omega⟩
    · have he : endsR (c :: r) = endsR r := by simp [endsR, h66]
      have hn : barsN (c :: r) = barsN r := by simp [barsN, h66]
      rw [barsP_cons, if_neg h66, he, hn]
      exact ⟨ih1, ih2⟩
theorem barsP_meshes {σ : Int} (l : List UInt8) (k : Knot) : nM (barsP σ k l) = 0 := by
  rw [nM, List.countP_eq_zero]
  intro b hb h
  simp only [isMesh, Bool.and_eq_true, decide_eq_true_eq] at h
  have h1 := (barsP_ge hb).2
  have h2 := (barsP_ge h.2.1).2
  simp only at h2
  omega
/-- The runs of bars, counted at their beginnings; the letter before them is known. -/
def startsR : UInt8 → List UInt8 → Nat
  | _, [] => 0
  | a, c :: r => (if c = 66 ∧ a ≠ 66 then 1 else 0) + startsR c r
theorem starts_ends : ∀ (l : List UInt8) (a : UInt8), startsR a l + (if a = 66 ∧ headB l = true then 1 else 0) = endsR l
  | [], a => by simp [startsR, endsR, headB]
  | c :: r, a => by
    have ih := starts_ends r c
    have hh : headB (c :: r) = decide (c = 66) := by
      by_cases h : c = 66
      · subst h; rfl
      · unfold headB
        split
        · rename_i h'; cases h'; exact absurd rfl h
        · simp [h]
    rw [startsR, endsR, hh]
    by_cases h1 : c = 66 <;> by_cases h2 : a = 66 <;> by_cases h3 : headB r = true <;> simp [h1, h2, h3] at ih ⊢ <;> omega
/-- Mirrored and shifted edges. -/
def mirB (b : Bar) : Bar := ⟨-b.x, b.y, -b.s⟩
theorem barsP_mirror (σ : Int) : ∀ (l : List UInt8) (k : Knot), barsP (-σ) ⟨-k.x, k.y⟩ l = (barsP σ k l).map mirB
  | [], _ => rfl
  | c :: r, k => by
    have hs : stepK (-σ) ⟨-k.x, k.y⟩ c = ⟨-(stepK σ k c).x, (stepK σ k c).y⟩ := by
      simp only [stepK, Int.neg_mul, Int.neg_add]
    rw [barsP_cons, barsP_cons, hs, barsP_mirror σ r]
    split <;> simp [mirB]
def shB (dx dy : Int) (b : Bar) : Bar := ⟨b.x + dx, b.y + dy, b.s⟩
theorem barsP_shift (σ dx dy : Int) : ∀ (l : List UInt8) (k : Knot), barsP σ ⟨k.x + dx, k.y + dy⟩ l = (barsP σ k l).map (shB dx dy)
  | [], _ => rfl
  | c :: r, k => by
    have hs : stepK σ ⟨k.x + dx, k.y + dy⟩ c = ⟨(stepK σ k c).x + dx, (stepK σ k c).y + dy⟩ := by
      simp only [stepK, Knot.mk.injEq]
      omega
    rw [barsP_cons, barsP_cons, hs, barsP_shift σ dx dy r]
    split <;> simp [shB]
theorem barsP_lt {σ : Int} (l : List UInt8) (k : Knot) : (barsP σ k l).Pairwise Blt := (barsP_pair l k).imp fun h => .inl h
/-- How far a word leads. -/
theorem barsP_near {σ : Int} (hσ : σ = 1 ∨ σ = -1) : ∀ {l : List UInt8} {k : Knot} {b : Bar}, b ∈ barsP σ k l → k.x - 2 * (l.length : Int) ≤ b.x ∧ b.x ≤ k.x + 2 * (l.length : Int) ∧ b.y ≤ k.y + 2 * (l.length : Int) ∧ (((k.x + k.y) % 2 = 0 → (∀ c ∈ l, isL c) → (b.x + b.y) % 2 = 0))
  | [], _, _, h => by simp [barsP] at h
  | c :: r, k, b, h => by
    have hd : 0 ≤ dxL c ∧ dxL c ≤ 2 ∧ 0 ≤ dyL c ∧ dyL c ≤ 2 ∧ (isL c → dxL c + dyL c = 2) := by
      refine ⟨?_, ?_, ?_, ?_, fun h => ?_⟩
      · unfold dxL; split <;> (try split) <;> omega
      · unfold dxL; split <;> (try split) <;> omega
      · unfold dyL; split <;> (try split) <;> omega
      · unfold dyL; split <;> (try split) <;> omega
      · rcases h with rfl | rfl | rfl <;> simp [dxL, dyL]
    have hx : (stepK σ k c).x = k.x + σ * dxL c := rfl
    have hrec : b ∈ barsP σ (stepK σ k c) r → k.x - 2 * ((c :: r).length : Int) ≤ b.x ∧ b.x ≤ k.x + 2 * ((c :: r).length : Int) ∧ b.y ≤ k.y + 2 * ((c :: r).length : Int) ∧ (((k.x + k.y) % 2 = 0 → (∀ c' ∈ c :: r, isL c') → (b.x + b.y) % 2 = 0)) := fun hb => by
      obtain ⟨h1, h2, h3, h4⟩ := barsP_near hσ hb
      rw [hx] at h1 h2
      rw [step_y] at h3
      simp only [List.length_cons]
      refine ⟨?_, ?_, ?_, fun he hl => h4 ?_ fun c' h' => hl c' (by simp [h'])⟩
      · rcases hσ with rfl | rfl <;> omega
      · rcases hσ with rfl | rfl <;> omega
      · omega
      · have := hd.2.2.2.2 (hl c (by simp))
        rw [hx, step_y]
        rcases hσ with rfl | rfl <;> omega
    rw [barsP_cons] at h
    split at h
    · rcases List.mem_cons.1 h with rfl | h
      · simp only [List.length_cons]
        exact ⟨by omega, by omega, by omega, fun he _ => he⟩
      · exact hrec h
    · exact hrec h
end Go.Proofs.YtdeplhihcifmeaaGreatDoor

/- Turned by a quarter: moved of netting by turned. -/
namespace Go.Proofs.YtdeplhihcifmeaaGreatDoor
open Go.RowKit

/-- A bar, turned by a quarter. -/
def turnB (b : Ck.Bar) : Ck.Bar := if b.s = 1 then ⟨-b.y, b.x, -1⟩ else ⟨-b.y - 1, b.x - 1, 1⟩
set_option maxHeartbeats 1000000 in
set_option maxRecDepth 100000 in
theorem netTurnedP (x y : Int) (w : World) (h1 : -1000000 ≤ y) (h2 : y ≤ 1000000) :
    Calls Tryz.prog 150 #[.agg #[.int .i64 x, .int .i64 y]] w fun e w' => e = .returned (.agg #[.int .i64 (-y), .int .i64 x]) ∧ Below w.heap.size w w' := by
  go_enter Tryz.func150, Tryz.ntmps150
  go_wp2
  exact bodyPost_ret (v := .agg #[.int .i64 (-y), .int .i64 x]) (by simp [results, Tryz.results150, go_sem]) rfl ⟨rfl, ((Below.refl _ _).alloc (Nat.le_refl _) _).alloc (by simp) _⟩
set_option maxHeartbeats 1000000 in
set_option maxRecDepth 100000 in
theorem netBetweenDown (x y a b : Int) (w : World) (h1 : -1000000 ≤ x) (h2 : x ≤ 1000000) (k1 : -1000000 ≤ a) (k2 : a ≤ 1000000) (hlt : b < y) :
    Calls Tryz.prog 147 #[.agg #[.int .i64 x, .int .i64 y], .agg #[.int .i64 a, .int .i64 b]] w fun e w' => e = .returned (.agg #[.int .i64 a, .int .i64 b, .int .i64 (x - a)]) ∧ Below w.heap.size w w' := by
  go_enter Tryz.func147, Tryz.ntmps147
  go_wp2
  exact bodyPost_ret (v := .agg #[.int .i64 a, .int .i64 b, .int .i64 (x - a)]) (by simp [results, Tryz.results147, go_sem]) rfl ⟨rfl, (((Below.refl _ _).alloc (Nat.le_refl _) _).alloc (by simp) _).alloc (by simp; omega) _⟩
theorem netBetweenTurn (c : Ck.Bar) (w : World) (_ : -100000 ≤ c.x) (_ : c.x ≤ 100000) (y1 : -100000 ≤ c.y) (y2 : c.y ≤ 100000) (hs : c.s = 1 ∨ c.s = -1) :
    Calls Tryz.prog 147 #[.agg #[.int .i64 (-c.y), .int .i64 c.x], .agg #[.int .i64 (-(c.y + 1)), .int .i64 (c.x + c.s)]] w fun e w' => e = .returned (.agg #[.int .i64 (turnB c).x, .int .i64 (turnB c).y, .int .i64 (turnB c).s]) ∧ Below w.heap.size w w' := by
  rcases hs with h | h
  · refine (netBetweenUp (-c.y) c.x (-(c.y + 1)) (c.x + c.s) w (by omega) (by omega) (by omega) (by omega) (by omega)).mono fun e w' ⟨he, hb⟩ => ⟨?_, hb⟩
    rw [he, turnB, if_pos h, show -(c.y + 1) - -c.y = -1 by omega]
  · refine (netBetweenDown (-c.y) c.x (-(c.y + 1)) (c.x + c.s) w (by omega) (by omega) (by omega) (by omega) (by omega)).mono fun e w' ⟨he, hb⟩ => ⟨?_, hb⟩
    rw [he, turnB, if_neg (by omega), show -c.y - -(c.y + 1) = 1 by omega, show -(c.y + 1) = -c.y - 1 by omega, show c.x + c.s = c.x - 1 by omega]
theorem turn_row {w10 : World} {base : Nat} {v : Value} {l : List Ck.Bar} {k : Nat} (hlt : k < l.length) (h : w10.ownsRow base 24 3 v (k + 1) (bcellsL ((l.take k).map (turnB)) ++ [.int .i64 (turnB l[k]).x, .int .i64 (turnB l[k]).y, .int .i64 (turnB l[k]).s])) :
    Hid (w10.ownsRow base 24 3 v (k + 1) (bcellsL ((l.take (k + 1)).map (turnB)))) := by
  rw [List.take_succ_eq_append_getElem hlt, List.map_append, bcellsL, List.flatMap_append, ← bcellsL]
  exact h
def TurnPost (l : List Ck.Bar) (w : World) (e : Ending) (w' : World) : Prop :=
  ∃ v, e = .returned v ∧ w'.ownsRow w.heap.size 24 3 v l.length (bcellsL (sortBars (l.map (turnB)))) ∧ Below w.heap.size w w'

set_option maxHeartbeats 4000000 in
set_option maxRecDepth 100000 in
theorem netMovedT (A : Option Addr) (c : Nat) (l : List Ck.Bar) (w : World) (hl : l.length ≤ 4096) (hok : ∀ x ∈ l, Ck.okBar x) (h : RB w w.heap.size A l) :
    Calls Tryz.prog 113 #[.slice A l.length c, .func (.func 150) #[] #[]] w (TurnPost l w) := by
  obtain ⟨ib, hib, hb0, hb01, hb02⟩ := info_parts Tryz.info24
  have hmk : ∀ W : World, (Instr.makeSlice 22 (.int .i64 0) (.int .i64 (l.length : Int))).run Tryz.prog W = .ok (.slice (some ⟨W.heap.size, 0, none⟩) 0 l.length) (W.alloc (.cells (zeros3 l.length) 24)) := fun W => by
    have := run_make (P := Tryz.prog) W 22 24 ib _ Tryz.underlying22 hib hb0 .i64 .i64 0 (l.length : Int) (by omega) (by omega) (by rw [hb02]; omega) (by omega)
    rw [hb01, Int.toNat_natCast] at this
    exact this
  have HIB := Lib.hid hib
  have HB0 := Lib.hid hb0
  have HB1 := Lib.hid hb01
  have HB2 := Lib.hid hb02
  have HR := Lib.hid h
  have hl' : (l.length : Int) ≤ 4096 := by omega
  clear hib hb0 hb01 hb02 h
  go_enter Tryz.func113, Tryz.ntmps113
  go_wp2_with fail
  go_loopw [5, 7, 13] (fun v _ i wi => ∃ k : Nat, k ≤ l.length ∧ i = .int .i64 k ∧ Hid (wi.ownsRow w.heap.size 24 3 v k (bcellsL ((l.take k).map (turnB)))) ∧ Below w.heap.size w wi) (fun _ _ i _ => l.length - (intOf i).toNat)
  case atStart => exact ⟨0, Nat.zero_le _, rfl, made_row _ _ _ (Nat.le_refl _) hl _ (by rw [zeros3, size_madeCells]) _, (Below.refl _ _).alloc (Nat.le_refl _) _⟩
  case round =>
    obtain ⟨k, hk, rfl, hown, hb⟩ := hrel
    by_cases hlt : k < l.length
    · obtain ⟨b, off, rfl, hB, hc⟩ := HR.out.below hb (by omega)
      obtain ⟨d0, d1, d2⟩ := hc k hlt
      have hbz := hb.size
      obtain ⟨⟨⟨hx1, hx2⟩, ⟨hy1, hy2⟩, _⟩, hs, _⟩ := hok _ (List.getElem_mem hlt)
      replace hx1 : -100000 ≤ l[k].x := hx1
      replace hx2 : l[k].x ≤ 100000 := hx2
      replace hy1 : -100000 ≤ l[k].y := hy1
      replace hy2 : l[k].y ≤ 100000 := hy2
      have hs1 : -1 ≤ l[k].s := by omega
      have hs2 : l[k].s ≤ 1 := by omega
      have hs3 : l[k].s = 1 ∨ l[k].s = -1 := by have := hs; omega
      clear hc hs
      go_wp2_with fail
      obtain ⟨w1, hw1, e0, e1, e2, hb1, hz1⟩ := box3 wr (.int .i64 l[k].x) (.int .i64 l[k].y) (.int .i64 l[k].s) 24
      rw [← hw1]
      clear hw1 d0 d1 d2
      have hk0 : K5 wr wr.heap.size wr.heap.size (.int .i64 l[k].x) (.int .i64 l[k].y) (.int .i64 l[k].s) (.int .i64 l[k].x) (.int .i64 l[k].y) w1.drew := ⟨e0, e1, e2, e0, e1, hz1, hz1, below_drew hb1⟩
      go_region_law (first
        | (go_simp; go_at_call 86; refine (netLower _ _ _ _).mono ?_; rintro e w9 ⟨rfl, hb9⟩; have hk9 := carry5 hb9 (by assumption); obtain ⟨_, _, _, _, _, _, _, _⟩ := id hk9)
        | (go_simp; go_at_call 89; refine (netUpper _ _ _ _ hx1 hx2 hy1 hy2 hs1 hs2).mono ?_; rintro e w9 ⟨rfl, hb9⟩; have hk9 := carry5 hb9 (by assumption); obtain ⟨_, _, _, _, _, _, _, _⟩ := id hk9)
        | (go_simp; go_at_call 150; refine (netTurnedP _ _ _ (by omega) (by omega)).mono ?_; rintro e w9 ⟨rfl, hb9⟩; have hk9 := carry5 hb9 (by assumption); obtain ⟨_, _, _, _, _, _, _, _⟩ := id hk9)
        | (go_simp; go_at_call 147; refine (netBetweenTurn l[k] _ hx1 hx2 hy1 hy2 hs3).mono ?_; rintro e w9 ⟨rfl, hb9⟩; have hk9 := carry5 hb9 (by assumption); obtain ⟨_, _, _, _, _, _, _, _⟩ := id hk9)
        | (refine step_append_lies _ rfl (.tmp 17) (.tmp 27) 22 rfl w.heap.size 24 ib (.agg #[.int .i64 0, .int .i64 0, .int .i64 0]) 3 24 Tryz.underlying22 HIB.out HB0.out HB1.out HB2.out rfl (by decide) u5 k (bcellsL ((l.take k).map (turnB))) (by simp [Act.eval]) (by exact (ownsRow_below hown.out (K5.below (by assumption))).alloc _) _ 1 1 [.int .i64 (turnB l[k]).x, .int .i64 (turnB l[k]).y, .int .i64 (turnB l[k]).s] (by first | (simp [Act.eval]; done) | (simp [Act.eval]; rfl)) rfl (by exact three_new _ _ _ _ _) (by intro u hu; simp at hu; rcases hu with rfl | rfl | rfl <;> rfl) (by decide) (by unfold maxLen; omega) (by omega) (by simp; omega) _ rfl ?_; intro gx cap w10 hown10 hgrow10 _ _))
      all_goals
        have hrow := turn_row hlt hown10
        have hbel := hb.trans (mov_below (K5.below (by assumption)) hgrow10 (ownsRow_base hown.out) hbz)
        clear hgrow10 hown10
        go_wp2
        go_roundw
        case rel => exact ⟨k + 1, by omega, by go_num, hrow, hbel⟩
        case measure => simp [intOf]; omega
    · obtain rfl : k = l.length := by omega
      have hrow := hown.out
      rw [List.take_length] at hrow
      have hlm : (l.map (turnB)).length = l.length := List.length_map ..
      rw [← hlm] at hrow
      have hbz := hb.size
      go_wp2_with fail
      refine (netSortBars w.heap.size _ (l.map (turnB)) _ (by omega) hbz hrow).mono ?_
      rintro e w2 ⟨rfl, hrow2, hb2⟩
      rw [hlm] at hrow2
      have HO := Lib.hid hrow2
      clear hrow hrow2
      go_wp2
      go_ret
      exact ⟨_, rfl, HO.out, hb.trans hb2⟩

end Go.Proofs.YtdeplhihcifmeaaGreatDoor

/- Contracts of compareHeads and merge, where all that either list has is kept. -/
namespace Go.Proofs.YtdeplhihcifmeaaGreatDoor
open Go.RowKit

def headsE : List Ck.Bar → List Ck.Bar → Int
  | [], _ => 1
  | _ :: _, [] => -1
  | a :: _, b :: _ => cmpB a b
theorem RB.head {w : World} {B : Nat} {A : Option Addr} {a : Ck.Bar} {r : List Ck.Bar} (h : RB w B A (a :: r)) : ∃ b off, A = some ⟨b, off, none⟩ ∧ b < B ∧ w.cell? ⟨b, off, none⟩ = some (.int .i64 a.x) ∧ w.cell? ⟨b, off + 1, none⟩ = some (.int .i64 a.y) ∧ w.cell? ⟨b, off + 2, none⟩ = some (.int .i64 a.s) ∧ RB w B (some ⟨b, off + 3, none⟩) r := by
  obtain ⟨b, off, rfl, hb, hc⟩ := h (by simp)
  have h0 := hc 0 (by simp)
  simp only [List.getElem_cons_zero, Nat.zero_mul, Nat.add_zero] at h0
  refine ⟨b, off, rfl, hb, h0.1, h0.2.1, h0.2.2, fun hl => ⟨b, off + 3, rfl, hb, fun i hi => ?_⟩⟩
  have := hc (i + 1) (by simpa using hi)
  simp only [List.getElem_cons_succ] at this
  rw [show off + (i + 1) * 3 = off + 3 + i * 3 from by omega] at this
  exact this
set_option maxHeartbeats 1000000 in
set_option maxRecDepth 100000 in
theorem netHeads (A A' : Option Addr) (c c' : Nat) (l l' : List Ck.Bar) (w : World) (hl : l.length ≤ 10000) (hl' : l'.length ≤ 10000) (h : RB w w.heap.size A l) (h' : RB w w.heap.size A' l') :
    Calls Tryz.prog 169 #[.slice A l.length c, .slice A' l'.length c', .func (.func 131) #[] #[]] w fun e w' => e = .returned (.int .i64 (headsE l l')) ∧ Below w.heap.size w w' := by
  match l, l', h, h' with
  | [], l', _, _ =>
    go_enter Tryz.func169, Tryz.ntmps169
    go_wp2
    go_ret
    exact ⟨rfl, Below.refl _ _⟩
  | a :: r, [], _, _ =>
    have h1 : ((r.length : Int) + 1 == 0) = false := by rw [beq_eq_false_iff_ne]; omega
    have h2 : (((a :: r).length : Int) == 0) = false := by rw [beq_eq_false_iff_ne]; simp only [List.length_cons]; omega
    go_enter Tryz.func169, Tryz.ntmps169
    go_wp2
    go_ret
    exact ⟨rfl, Below.refl _ _⟩
  | a :: r, a' :: r', h, h' =>
    obtain ⟨b, off, rfl, hb, c0, c1, c2, _⟩ := h.head
    obtain ⟨b', off', rfl, hb', d0, d1, d2, _⟩ := h'.head
    have h1 : ((r.length : Int) + 1 == 0) = false := by rw [beq_eq_false_iff_ne]; omega
    have h3 : ((r'.length : Int) + 1 == 0) = false := by rw [beq_eq_false_iff_ne]; omega
    have h5 : (0 : Int) < (r.length : Int) + 1 := by omega
    have h6 : (0 : Int) < (r'.length : Int) + 1 := by omega
    clear h h'
    go_enter Tryz.func169, Tryz.ntmps169
    go_wp2_with fail
    refine wp_region_still_tail 7 (by kernel_rfl) (by kernel_rfl) ?_
    simp only [List.take_succ_cons, List.take_zero, List.drop_succ_cons, List.drop_zero]
    repeat still_step
    refine wpStill_nil ?_
    change wpList _ _ _ _ _ w.drew
    go_wp2_with fail
    refine (netCompareBars_below _ _ _ _ _ _ _).mono ?_
    rintro e w2 ⟨rfl, hb2⟩
    go_wp2
    go_ret
    exact ⟨rfl, (below_drew (Below.refl _ _)).trans hb2⟩
end Go.Proofs.YtdeplhihcifmeaaGreatDoor

/- The contract of merge where all is kept. -/
namespace Go.Proofs.YtdeplhihcifmeaaGreatDoor
open Go.RowKit

def mergeU : List Ck.Bar → List Ck.Bar → List Ck.Bar
  | [], l' => l'
  | a :: r, [] => a :: r
  | a :: r, b :: r' => if cmpB a b < 0 then a :: mergeU r (b :: r') else if 0 < cmpB a b then b :: mergeU (a :: r) r' else a :: mergeU r r'
termination_by l l' => l.length + l'.length
theorem headsE_neg {ra rb : List Ck.Bar} (h : headsE ra rb < 0) : ∃ a r, ra = a :: r ∧ mergeU ra rb = a :: mergeU r rb := by
  match ra, rb, h with
  | [], _, h => simp [headsE] at h
  | a :: r, [], _ => exact ⟨a, r, rfl, by cases r <;> simp [mergeU]⟩
  | a :: r, b :: r', h =>
    have h' : cmpB a b < 0 := h
    exact ⟨a, r, rfl, by rw [mergeU, if_pos h']⟩
theorem headsE_pos {ra rb : List Ck.Bar} (h : 0 < headsE ra rb) (hne : 0 < ra.length + rb.length) : ∃ b r', rb = b :: r' ∧ mergeU ra rb = b :: mergeU ra r' := by
  match ra, rb, h with
  | [], [], _ => simp at hne
  | [], b :: r', _ => exact ⟨b, r', rfl, by simp [mergeU]⟩
  | a :: r, [], h => simp [headsE] at h
  | a :: r, b :: r', h => 
    have h' : 0 < cmpB a b := h
    exact ⟨b, r', rfl, by rw [mergeU, if_neg (by omega), if_pos h']⟩
theorem headsE_zero {ra rb : List Ck.Bar} (h : headsE ra rb = 0) : ∃ a r r', ra = a :: r ∧ rb = a :: r' ∧ mergeU ra rb = a :: mergeU r r' := by
  match ra, rb, h with
  | [], _, h => simp [headsE] at h
  | a :: r, [], h => simp [headsE] at h
  | a :: r, b :: r', h =>
    have h' : cmpB a b = 0 := h
    have e := (cmpB_zero _ _).1 h'
    subst e
    exact ⟨a, r, r', rfl, rfl, by rw [mergeU, if_neg (by omega), if_neg (by omega)]⟩

set_option maxHeartbeats 400000 in
theorem keepUnion (x y : Bool) (w : World) : Calls Tryz.prog 108 #[.bool x, .bool y] w fun e w' => e = .returned (.bool (x || y)) ∧ w = w' := by
  cases x
  all_goals
    go_enter Tryz.func108, Tryz.ntmps108
    go_wp2
    go_ret
    exact ⟨rfl, rfl⟩

/-- A bar is stored into a variable of its own. -/
theorem put3 {w : World} {g : Nat} {a b c : Value} {t : TypeId} (h : w.heap[g]? = some (.cells #[a, b, c] t (0, 0))) (x y z : Value) :
    ∃ W, W = ((w.setCell ⟨g, 0, none⟩ x).setCell ⟨g, 1, none⟩ y).setCell ⟨g, 2, none⟩ z ∧ W.heap[g]? = some (.cells #[x, y, z] t (0, 0)) ∧ Below g w W ∧ W.heap.size = w.heap.size := by
  refine ⟨_, rfl, ?_, (((Below.refl g w).setCell (p := ⟨g, 0, none⟩) (Nat.le_refl g) _).setCell (p := ⟨g, 1, none⟩) (Nat.le_refl g) _).setCell (p := ⟨g, 2, none⟩) (Nat.le_refl g) _, by simp [World.setCell]⟩
  simp [World.setCell, Array.getElem?_modify, h, Array.setIfInBounds]
/-- What is left of a list when its first bar is taken: the slice's address stays where no room is left behind it. -/
theorem RB.cut1 {w : World} {B b off c : Nat} {r : List Ck.Bar} (h : RB w B (some ⟨b, off + 3, none⟩) r) (hc : r.length + 1 ≤ c) (A : Option Addr) (hA : c ≠ 1 → A = some ⟨b, off + 3, none⟩) : RB w B A r := fun hl => by
  rw [hA (by omega)]
  exact h hl

def MrgPost (l l' : List Ck.Bar) (w : World) (e : Ending) (w' : World) : Prop :=
  ∃ v, e = .returned v ∧ w'.ownsRow w.heap.size 24 3 v (mergeU l l').length (bcellsL (mergeU l l')) ∧ Below w.heap.size w w'
def mrgRel (l0 l0' : List Ck.Bar) (w : World) (g : Nat) (va vb vo : Value) (wi : World) : Prop :=
  ∃ A A' c c' ra rb out, g = ra.length + rb.length ∧ va = .slice A ra.length c ∧ vb = .slice A' rb.length c' ∧ ra.length ≤ c ∧ c ≤ 9223372036854775807 ∧ rb.length ≤ c' ∧ c' ≤ 9223372036854775807 ∧ RB wi w.heap.size A ra ∧ RB wi w.heap.size A' rb ∧
    mergeU l0 l0' = out ++ mergeU ra rb ∧ out.length + ra.length + rb.length ≤ l0.length + l0'.length ∧ wi.ownsRow w.heap.size 24 3 vo out.length (bcellsL out) ∧ Below w.heap.size w wi

set_option maxHeartbeats 4000000 in
set_option maxRecDepth 100000 in
theorem netMergeU (A A' : Option Addr) (c c' : Nat) (l l' : List Ck.Bar) (w : World) (hl : l.length ≤ 4096) (hl' : l'.length ≤ 4096) (hc : l.length ≤ c) (hcm : c ≤ maxLen) (hc' : l'.length ≤ c') (hcm' : c' ≤ maxLen) (h : RB w w.heap.size A l) (h' : RB w w.heap.size A' l') :
    Calls Tryz.prog 144 #[.slice A l.length c, .slice A' l'.length c', .func (.func 131) #[] #[], .func (.func 108) #[] #[]] w (MrgPost l l' w) := by
  obtain ⟨ib, hib, hb0, hb01, hb02⟩ := info_parts Tryz.info24
  have HIB := Lib.hid hib
  have HB0 := Lib.hid hb0
  have HB1 := Lib.hid hb01
  have HB2 := Lib.hid hb02
  have HR := Lib.hid h
  have HR' := Lib.hid h'
  clear hib hb0 hb01 hb02 h h'
  unfold maxLen at hcm hcm'
  go_enter Tryz.func144, Tryz.ntmps144
  go_wp2_with fail
  go_loopg [0, 1, 9, 10, 11] (l.length + l'.length) (fun g va vb vo _ _ wi => mrgRel l l' w g va vb vo wi)
  case atStart => exact ⟨A, A', c, c', l, l', [], rfl, rfl, rfl, hc, hcm, hc', hcm', HR.out, HR'.out, rfl, by simp, World.ownsRow_nil _ _ _ _, Below.refl _ _⟩
  case round =>
    obtain ⟨A1, A2, c1, c2, ra, rb, out, hg, rfl, rfl, k1, k2, k3, k4, r1, r2, hm, hlen, hown, hb⟩ := hrel
    have HG := Lib.hid hg
    have HM := Lib.hid hm
    have HO := Lib.hid hown
    have HA := Lib.hid r1
    have HB := Lib.hid r2
    have hbz := hb.size
    clear hg hm hown r1 r2
    by_cases hne : 0 < ra.length + rb.length
    · rcases Int.lt_trichotomy (headsE ra rb) 0 with ho | ho | ho
      · obtain ⟨a, r, rfl, hmu⟩ := headsE_neg ho
        have HMU := Lib.hid hmu
        have ho1 : (headsE (a :: r) rb ≤ 0) := by omega
        have ho2 : ¬ (0 ≤ headsE (a :: r) rb) := by omega
        have HRA := HA.out.head
        clear hmu
        obtain ⟨b, off, rfl, hbb, d0, d1, d2, ht⟩ := HRA
        have HT := Lib.hid ht
        clear ht
        generalize hoe : headsE (a :: r) rb = o at ho ho1 ho2
        have HOE := Lib.hid hoe
        clear hoe
        go_wp2_with fail
        refine (netHeads (some ⟨b, off, none⟩) A2 c1 c2 (a :: r) rb _ (by simp at hlen ⊢; omega) (by simp at hlen; omega) (HA.out.more hbz) (HB.out.more hbz)).mono ?_
        rintro e w2 ⟨rfl, hb2⟩
        rw [HOE.out]
        have hz2 := hb2.size
        have e0 := (hb2.cell (p := ⟨b, off, none⟩) (by show b < _; omega)).trans d0
        have e1 := (hb2.cell (p := ⟨b, off + 1, none⟩) (by show b < _; omega)).trans d1
        have e2 := (hb2.cell (p := ⟨b, off + 2, none⟩) (by show b < _; omega)).trans d2
        clear d0 d1 d2
        obtain ⟨w3, hw3⟩ : ∃ w3, w3 = w2.alloc (.cells #[.int .i64 0, .int .i64 0, .int .i64 0] 24) := ⟨_, rfl⟩
        have hx : w3.heap[w2.heap.size]? = some (.cells #[.int .i64 0, .int .i64 0, .int .i64 0] 24 (0, 0)) := by rw [hw3]; exact heap_alloc_new _ _
        have hb3 : Below w2.heap.size w2 w3 := by rw [hw3]; exact (Below.refl _ _).alloc (Nat.le_refl _) _
        have hz3 : w2.heap.size < w3.heap.size := by rw [hw3]; simp
        obtain ⟨W, hW, hxW, hbW, hzW⟩ := put3 hx (.int .i64 a.x) (.int .i64 a.y) (.int .i64 a.s)
        obtain ⟨f0, f1, f2, ff⟩ := three_of_block hx
        obtain ⟨g0, g1, g2, _⟩ := three_of_block hxW
        have HW3 := Lib.hid hw3
        have HWW := Lib.hid hW
        have HZW := Lib.hid hzW
        clear hzW
        replace e0 := (hb3.cell (p := ⟨b, off, none⟩) (by show b < _; omega)).trans e0
        replace e1 := (hb3.cell (p := ⟨b, off + 1, none⟩) (by show b < _; omega)).trans e1
        replace e2 := (hb3.cell (p := ⟨b, off + 2, none⟩) (by show b < _; omega)).trans e2
        have hq : Below wr.heap.size wr W := (hb2.trans (hb3.mono hz2)).trans (hbW.mono hz2)
        have HOW := Lib.hid (ownsRow_below HO.out hq)
        have hbw := hb.trans (hq.mono hbz)
        have HTW := Lib.hid ((HT.out.below (hq.mono hbz)))
        have HBW := Lib.hid ((HB.out.below (hq.mono hbz)))
        have hi1 : (0 : Int) < (r.length : Int) + 1 := by omega
        have hi2 : (1 : Int) ≤ (r.length : Int) + 1 := by omega
        have hi3 : (r.length : Int) + 1 ≤ (c1 : Int) := by simp at k1; omega
        clear hw3 hW hx hxW
        go_wp2_with fail
        rw [← HW3.out]
        go_region
        rw [← HWW.out]
        generalize hA1 : (if c1 = 1 then some (⟨b, off, none⟩ : Addr) else some ⟨b, off + 3, none⟩) = A1
        have HRA1 := Lib.hid (HTW.out.cut1 (c := c1) (by simp at k1; omega) A1 (fun hne => by rw [← hA1, if_neg hne]))
        clear hA1 e0 e1 e2
        go_wp2_with (first
          | (go_at_call 108; refine (keepUnion _ _ _).mono ?_; rintro e w' ⟨rfl, rfl⟩)
          | (at_builtin; refine wpList_append_own _ rfl _ _ 22 rfl w.heap.size 24 ib (.agg #[.int .i64 0, .int .i64 0, .int .i64 0]) 3 24 Tryz.underlying22 HIB.out HB0.out HB1.out HB2.out rfl (by decide) _ _ _ rfl (by exact HOW.out.alloc _) ⟨W.heap.size, 0, none⟩ 1 1 [.int .i64 a.x, .int .i64 a.y, .int .i64 a.s] rfl rfl ?c1 ?c2 ?c3 ?c4 ?c5 ?_))
        case c1 => exact three_new _ _ _ _ _
        case c2 => intro u hu; simp at hu; rcases hu with rfl | rfl | rfl <;> rfl
        case c3 => unfold maxLen; simp at hlen; omega
        case c4 => simp at hlen; omega
        case c5 => have := hbw.size; simp; omega
        intro v' w4 hown4 hgrow4 _
        have hq4 : Below w.heap.size w w4 := (below_drew (hbw.alloc hbw.size (.cells #[.int .i64 a.x, .int .i64 a.y, .int .i64 a.s] 24))).grown hgrow4 (by have := hbw.size; simp; omega) (ownsRow_base HOW.out)
        have hsame : ∀ {X : Option Addr} {q : List Ck.Bar}, RB W w.heap.size X q → RB w4 w.heap.size X q := fun hX => by
          intro hl
          obtain ⟨b', off', e', hb', hc'⟩ := hX hl
          have hk : ∀ o, w4.cell? ⟨b', o, none⟩ = W.cell? ⟨b', o, none⟩ := fun o => (hq4.cell (p := ⟨b', o, none⟩) hb').trans (hbw.cell (p := ⟨b', o, none⟩) hb').symm
          exact ⟨b', off', e', hb', fun i hi => ⟨(hk _).trans (hc' i hi).1, (hk _).trans (hc' i hi).2.1, (hk _).trans (hc' i hi).2.2⟩⟩
        have HRA4 := Lib.hid (hsame HRA1.out)
        have HRB4 := Lib.hid (hsame HBW.out)
        have HO4 := Lib.hid hown4
        clear hown4 hgrow4 hsame
        go_wp2
        go_roundg (r.length + rb.length)
        case measure => rw [HG.out]; simp only [List.length_cons]; omega
        case rel => exact ⟨A1, A2, c1 - 1, c2, r, rb, out ++ [a], rfl, rfl, rfl, by simp at k1; omega, by omega, k3, k4, HRA4.out, HRB4.out, by rw [HM.out, HMU.out]; simp, by simp at hlen ⊢; omega, by rw [bcellsL_snoc, List.length_append]; exact HO4.out, hq4⟩
      · obtain ⟨a, r, r', rfl, rfl, hmu⟩ := headsE_zero ho
        have HMU := Lib.hid hmu
        have ho1 : (headsE (a :: r) (a :: r') ≤ 0) := by omega
        have ho2 : (0 ≤ headsE (a :: r) (a :: r')) := by omega
        have HRA := HA.out.head
        have HRB := HB.out.head
        clear hmu
        obtain ⟨b, off, rfl, hbb, d0, d1, d2, ht⟩ := HRA
        have HT := Lib.hid ht
        clear ht
        obtain ⟨b', off', rfl, hbb', d0', d1', d2', ht'⟩ := HRB
        have HT' := Lib.hid ht'
        clear ht'
        generalize hoe : headsE (a :: r) (a :: r') = o at ho ho1 ho2
        have HOE := Lib.hid hoe
        clear hoe
        go_wp2_with fail
        refine (netHeads (some ⟨b, off, none⟩) (some ⟨b', off', none⟩) c1 c2 (a :: r) (a :: r') _ (by simp at hlen ⊢; omega) (by simp at hlen ⊢; omega) (HA.out.more hbz) (HB.out.more hbz)).mono ?_
        rintro e w2 ⟨rfl, hb2⟩
        rw [HOE.out]
        have hz2 := hb2.size
        have e0 := (hb2.cell (p := ⟨b, off, none⟩) (by show b < _; omega)).trans d0
        have e0' := (hb2.cell (p := ⟨b', off', none⟩) (by show b' < _; omega)).trans d0'
        have e1 := (hb2.cell (p := ⟨b, off + 1, none⟩) (by show b < _; omega)).trans d1
        have e1' := (hb2.cell (p := ⟨b', off' + 1, none⟩) (by show b' < _; omega)).trans d1'
        have e2 := (hb2.cell (p := ⟨b, off + 2, none⟩) (by show b < _; omega)).trans d2
        have e2' := (hb2.cell (p := ⟨b', off' + 2, none⟩) (by show b' < _; omega)).trans d2'
        clear d0 d1 d2 d0' d1' d2'
        obtain ⟨w3, hw3⟩ : ∃ w3, w3 = w2.alloc (.cells #[.int .i64 0, .int .i64 0, .int .i64 0] 24) := ⟨_, rfl⟩
        have hx : w3.heap[w2.heap.size]? = some (.cells #[.int .i64 0, .int .i64 0, .int .i64 0] 24 (0, 0)) := by rw [hw3]; exact heap_alloc_new _ _
        have hb3 : Below w2.heap.size w2 w3 := by rw [hw3]; exact (Below.refl _ _).alloc (Nat.le_refl _) _
        have hz3 : w2.heap.size < w3.heap.size := by rw [hw3]; simp
        obtain ⟨W, hW, hxW, hbW, hzW⟩ := put3 hx (.int .i64 a.x) (.int .i64 a.y) (.int .i64 a.s)
        obtain ⟨f0, f1, f2, ff⟩ := three_of_block hx
        obtain ⟨g0, g1, g2, gf⟩ := three_of_block hxW
        obtain ⟨V, hV, hxV, hbV, hzV⟩ := put3 hxW (.int .i64 a.x) (.int .i64 a.y) (.int .i64 a.s)
        obtain ⟨q0, q1, q2, _⟩ := three_of_block hxV
        have HVV := Lib.hid hV
        clear hV hzV
        have HW3 := Lib.hid hw3
        have HWW := Lib.hid hW
        have HZW := Lib.hid hzW
        clear hzW
        replace e0 := (hb3.cell (p := ⟨b, off, none⟩) (by show b < _; omega)).trans e0
        replace e0' := (hbW.cell (p := ⟨b', off', none⟩) (by show b' < _; omega)).trans ((hb3.cell (p := ⟨b', off', none⟩) (by show b' < _; omega)).trans e0')
        replace e1 := (hb3.cell (p := ⟨b, off + 1, none⟩) (by show b < _; omega)).trans e1
        replace e1' := (hbW.cell (p := ⟨b', off' + 1, none⟩) (by show b' < _; omega)).trans ((hb3.cell (p := ⟨b', off' + 1, none⟩) (by show b' < _; omega)).trans e1')
        replace e2 := (hb3.cell (p := ⟨b, off + 2, none⟩) (by show b < _; omega)).trans e2
        replace e2' := (hbW.cell (p := ⟨b', off' + 2, none⟩) (by show b' < _; omega)).trans ((hb3.cell (p := ⟨b', off' + 2, none⟩) (by show b' < _; omega)).trans e2')
        have hq : Below wr.heap.size wr W := (hb2.trans (hb3.mono hz2)).trans (hbW.mono hz2)
        have hqv : Below wr.heap.size wr V := hq.trans (hbV.mono hz2)
        have HOW := Lib.hid (ownsRow_below HO.out hqv)
        have hbw := hb.trans (hqv.mono hbz)
        have HTW := Lib.hid ((HT.out.below (hqv.mono hbz)))
        have HBW := Lib.hid ((HT'.out.below (hqv.mono hbz)))
        have hi4 : (0 : Int) < (r'.length : Int) + 1 := by omega
        have hi5 : (1 : Int) ≤ (r'.length : Int) + 1 := by omega
        have hi6 : (r'.length : Int) + 1 ≤ (c2 : Int) := by simp at k3; omega
        have hi1 : (0 : Int) < (r.length : Int) + 1 := by omega
        have hi2 : (1 : Int) ≤ (r.length : Int) + 1 := by omega
        have hi3 : (r.length : Int) + 1 ≤ (c1 : Int) := by simp at k1; omega
        clear hw3 hW hx hxW
        go_wp2_with fail
        rw [← HW3.out]
        go_region
        rw [← HWW.out]
        generalize hA1 : (if c1 = 1 then some (⟨b, off, none⟩ : Addr) else some ⟨b, off + 3, none⟩) = A1
        have HRA1 := Lib.hid (HTW.out.cut1 (c := c1) (by simp at k1; omega) A1 (fun hne => by rw [← hA1, if_neg hne]))
        clear hA1 e0 e1 e2
        go_wp2_with fail
        go_region
        rw [← HVV.out]
        generalize hA3 : (if c2 = 1 then some (⟨b', off', none⟩ : Addr) else some ⟨b', off' + 3, none⟩) = A3
        have HRA3 := Lib.hid (HBW.out.cut1 (c := c2) (by simp at k3; omega) A3 (fun hne => by rw [← hA3, if_neg hne]))
        clear hA3 e0' e1' e2'
        go_wp2_with (first
          | (go_at_call 108; refine (keepUnion _ _ _).mono ?_; rintro e w' ⟨rfl, rfl⟩)
          | (at_builtin; refine wpList_append_own _ rfl _ _ 22 rfl w.heap.size 24 ib (.agg #[.int .i64 0, .int .i64 0, .int .i64 0]) 3 24 Tryz.underlying22 HIB.out HB0.out HB1.out HB2.out rfl (by decide) _ _ _ rfl (by exact HOW.out.alloc _) ⟨V.heap.size, 0, none⟩ 1 1 [.int .i64 a.x, .int .i64 a.y, .int .i64 a.s] rfl rfl ?c1 ?c2 ?c3 ?c4 ?c5 ?_))
        case c1 => exact three_new _ _ _ _ _
        case c2 => intro u hu; simp at hu; rcases hu with rfl | rfl | rfl <;> rfl
        case c3 => unfold maxLen; simp at hlen; omega
        case c4 => simp at hlen; omega
        case c5 => have := hbw.size; simp; omega
        intro v' w4 hown4 hgrow4 _
        have hq4 : Below w.heap.size w w4 := (below_drew (below_drew (hbw.alloc hbw.size (.cells #[.int .i64 a.x, .int .i64 a.y, .int .i64 a.s] 24)))).grown hgrow4 (by have := hbw.size; simp; omega) (ownsRow_base HOW.out)
        have hsame : ∀ {X : Option Addr} {q : List Ck.Bar}, RB V w.heap.size X q → RB w4 w.heap.size X q := fun hX => by
          intro hl
          obtain ⟨b9, off9, e', hb', hc'⟩ := hX hl
          have hk : ∀ o, w4.cell? ⟨b9, o, none⟩ = V.cell? ⟨b9, o, none⟩ := fun o => (hq4.cell (p := ⟨b9, o, none⟩) hb').trans (hbw.cell (p := ⟨b9, o, none⟩) hb').symm
          exact ⟨b9, off9, e', hb', fun i hi => ⟨(hk _).trans (hc' i hi).1, (hk _).trans (hc' i hi).2.1, (hk _).trans (hc' i hi).2.2⟩⟩
        have HRA4 := Lib.hid (hsame HRA1.out)
        have HRB4 := Lib.hid (hsame HRA3.out)
        have HO4 := Lib.hid hown4
        clear hown4 hgrow4 hsame
        go_wp2
        go_roundg (r.length + r'.length)
        case measure => rw [HG.out]; simp only [List.length_cons]; omega
        case rel => exact ⟨A1, A3, c1 - 1, c2 - 1, r, r', out ++ [a], rfl, rfl, rfl, by simp at k1; omega, by omega, by simp at k3; omega, by omega, HRA4.out, HRB4.out, by rw [HM.out, HMU.out]; simp, by simp at hlen ⊢; omega, by rw [bcellsL_snoc, List.length_append]; exact HO4.out, hq4⟩
      · obtain ⟨a, r, rfl, hmu⟩ := headsE_pos ho hne
        rcases ra with _ | ⟨x, rx⟩
        · skip
          have HMU := Lib.hid hmu
          have ho1 : ¬ (headsE ([] : List Ck.Bar) (a :: r) ≤ 0) := by omega
          have ho2 : (0 ≤ headsE ([] : List Ck.Bar) (a :: r)) := by omega
          have HRA := HB.out.head
          clear hmu
          obtain ⟨b, off, rfl, hbb, d0, d1, d2, ht⟩ := HRA
          have HT := Lib.hid ht
          clear ht
          generalize hoe : headsE ([] : List Ck.Bar) (a :: r) = o at ho ho1 ho2
          have HOE := Lib.hid hoe
          clear hoe
          go_wp2_with fail
          refine (netHeads A1 (some ⟨b, off, none⟩) c1 c2 ([] : List Ck.Bar) (a :: r) _ (by simp only [List.length_cons, List.length_nil] at hlen ⊢; omega) (by simp only [List.length_cons, List.length_nil] at hlen ⊢; omega) (HA.out.more hbz) (HB.out.more hbz)).mono ?_
          rintro e w2 ⟨rfl, hb2⟩
          rw [HOE.out]
          have hz2 := hb2.size
          have e0 := (hb2.cell (p := ⟨b, off, none⟩) (by show b < _; omega)).trans d0
          have e1 := (hb2.cell (p := ⟨b, off + 1, none⟩) (by show b < _; omega)).trans d1
          have e2 := (hb2.cell (p := ⟨b, off + 2, none⟩) (by show b < _; omega)).trans d2
          clear d0 d1 d2
          obtain ⟨w3, hw3⟩ : ∃ w3, w3 = w2.alloc (.cells #[.int .i64 0, .int .i64 0, .int .i64 0] 24) := ⟨_, rfl⟩
          have hx : w3.heap[w2.heap.size]? = some (.cells #[.int .i64 0, .int .i64 0, .int .i64 0] 24 (0, 0)) := by rw [hw3]; exact heap_alloc_new _ _
          have hb3 : Below w2.heap.size w2 w3 := by rw [hw3]; exact (Below.refl _ _).alloc (Nat.le_refl _) _
          have hz3 : w2.heap.size < w3.heap.size := by rw [hw3]; simp
          obtain ⟨W, hW, hxW, hbW, hzW⟩ := put3 hx (.int .i64 a.x) (.int .i64 a.y) (.int .i64 a.s)
          obtain ⟨f0, f1, f2, ff⟩ := three_of_block hx
          obtain ⟨g0, g1, g2, _⟩ := three_of_block hxW
          have HW3 := Lib.hid hw3
          have HWW := Lib.hid hW
          have HZW := Lib.hid hzW
          clear hzW
          replace e0 := (hb3.cell (p := ⟨b, off, none⟩) (by show b < _; omega)).trans e0
          replace e1 := (hb3.cell (p := ⟨b, off + 1, none⟩) (by show b < _; omega)).trans e1
          replace e2 := (hb3.cell (p := ⟨b, off + 2, none⟩) (by show b < _; omega)).trans e2
          have hq : Below wr.heap.size wr W := (hb2.trans (hb3.mono hz2)).trans (hbW.mono hz2)
          have HOW := Lib.hid (ownsRow_below HO.out hq)
          have hbw := hb.trans (hq.mono hbz)
          have HTW := Lib.hid ((HT.out.below (hq.mono hbz)))
          have HBW := Lib.hid ((HA.out.below (hq.mono hbz)))
          have hi1 : (0 : Int) < (r.length : Int) + 1 := by omega
          have hi2 : (1 : Int) ≤ (r.length : Int) + 1 := by omega
          have hi3 : (r.length : Int) + 1 ≤ (c2 : Int) := by simp at k3; omega
          clear hw3 hW hx hxW
          go_wp2_with fail
          rw [← HW3.out]
          go_region
          rw [← HWW.out]
          generalize hA1 : (if c2 = 1 then some (⟨b, off, none⟩ : Addr) else some ⟨b, off + 3, none⟩) = A3
          have HRA1 := Lib.hid (HTW.out.cut1 (c := c2) (by simp at k3; omega) A3 (fun hne => by rw [← hA1, if_neg hne]))
          clear hA1 e0 e1 e2
          go_wp2_with (first
            | (go_at_call 108; refine (keepUnion _ _ _).mono ?_; rintro e w' ⟨rfl, rfl⟩)
            | (at_builtin; refine wpList_append_own _ rfl _ _ 22 rfl w.heap.size 24 ib (.agg #[.int .i64 0, .int .i64 0, .int .i64 0]) 3 24 Tryz.underlying22 HIB.out HB0.out HB1.out HB2.out rfl (by decide) _ _ _ rfl (by exact HOW.out.alloc _) ⟨W.heap.size, 0, none⟩ 1 1 [.int .i64 a.x, .int .i64 a.y, .int .i64 a.s] rfl rfl ?c1 ?c2 ?c3 ?c4 ?c5 ?_))
          case c1 => exact three_new _ _ _ _ _
          case c2 => intro u hu; simp at hu; rcases hu with rfl | rfl | rfl <;> rfl
          case c3 => unfold maxLen; simp at hlen; omega
          case c4 => simp at hlen; omega
          case c5 => have := hbw.size; simp; omega
          intro v' w4 hown4 hgrow4 _
          have hq4 : Below w.heap.size w w4 := (below_drew (hbw.alloc hbw.size (.cells #[.int .i64 a.x, .int .i64 a.y, .int .i64 a.s] 24))).grown hgrow4 (by have := hbw.size; simp; omega) (ownsRow_base HOW.out)
          have hsame : ∀ {X : Option Addr} {q : List Ck.Bar}, RB W w.heap.size X q → RB w4 w.heap.size X q := fun hX => by
            intro hl
            obtain ⟨b', off', e', hb', hc'⟩ := hX hl
            have hk : ∀ o, w4.cell? ⟨b', o, none⟩ = W.cell? ⟨b', o, none⟩ := fun o => (hq4.cell (p := ⟨b', o, none⟩) hb').trans (hbw.cell (p := ⟨b', o, none⟩) hb').symm
            exact ⟨b', off', e', hb', fun i hi => ⟨(hk _).trans (hc' i hi).1, (hk _).trans (hc' i hi).2.1, (hk _).trans (hc' i hi).2.2⟩⟩
          have HRA4 := Lib.hid (hsame HRA1.out)
          have HRB4 := Lib.hid (hsame HBW.out)
          have HO4 := Lib.hid hown4
          clear hown4 hgrow4 hsame
          go_wp2
          go_roundg (([] : List Ck.Bar).length + r.length)
          case measure => rw [HG.out]; simp only [List.length_cons, List.length_nil]; omega
          case rel => exact ⟨A1, A3, c1, c2 - 1, ([] : List Ck.Bar), r, out ++ [a], rfl, rfl, rfl, k1, k2, by simp at k3; omega, by omega, HRB4.out, HRA4.out, by rw [HM.out, HMU.out]; simp, by simp at hlen ⊢; omega, by rw [bcellsL_snoc, List.length_append]; exact HO4.out, hq4⟩
        · skip
          have HMU := Lib.hid hmu
          have ho1 : ¬ (headsE (x :: rx) (a :: r) ≤ 0) := by omega
          have ho2 : (0 ≤ headsE (x :: rx) (a :: r)) := by omega
          have HRA := HB.out.head
          clear hmu
          obtain ⟨b, off, rfl, hbb, d0, d1, d2, ht⟩ := HRA
          have HT := Lib.hid ht
          clear ht
          generalize hoe : headsE (x :: rx) (a :: r) = o at ho ho1 ho2
          have HOE := Lib.hid hoe
          clear hoe
          go_wp2_with fail
          refine (netHeads A1 (some ⟨b, off, none⟩) c1 c2 (x :: rx) (a :: r) _ (by simp only [List.length_cons] at hlen ⊢; omega) (by simp only [List.length_cons] at hlen ⊢; omega) (HA.out.more hbz) (HB.out.more hbz)).mono ?_
          rintro e w2 ⟨rfl, hb2⟩
          rw [HOE.out]
          have hz2 := hb2.size
          have e0 := (hb2.cell (p := ⟨b, off, none⟩) (by show b < _; omega)).trans d0
          have e1 := (hb2.cell (p := ⟨b, off + 1, none⟩) (by show b < _; omega)).trans d1
          have e2 := (hb2.cell (p := ⟨b, off + 2, none⟩) (by show b < _; omega)).trans d2
          clear d0 d1 d2
          obtain ⟨w3, hw3⟩ : ∃ w3, w3 = w2.alloc (.cells #[.int .i64 0, .int .i64 0, .int .i64 0] 24) := ⟨_, rfl⟩
          have hx : w3.heap[w2.heap.size]? = some (.cells #[.int .i64 0, .int .i64 0, .int .i64 0] 24 (0, 0)) := by rw [hw3]; exact heap_alloc_new _ _
          have hb3 : Below w2.heap.size w2 w3 := by rw [hw3]; exact (Below.refl _ _).alloc (Nat.le_refl _) _
          have hz3 : w2.heap.size < w3.heap.size := by rw [hw3]; simp
          obtain ⟨W, hW, hxW, hbW, hzW⟩ := put3 hx (.int .i64 a.x) (.int .i64 a.y) (.int .i64 a.s)
          obtain ⟨f0, f1, f2, ff⟩ := three_of_block hx
          obtain ⟨g0, g1, g2, _⟩ := three_of_block hxW
          have HW3 := Lib.hid hw3
          have HWW := Lib.hid hW
          have HZW := Lib.hid hzW
          clear hzW
          replace e0 := (hb3.cell (p := ⟨b, off, none⟩) (by show b < _; omega)).trans e0
          replace e1 := (hb3.cell (p := ⟨b, off + 1, none⟩) (by show b < _; omega)).trans e1
          replace e2 := (hb3.cell (p := ⟨b, off + 2, none⟩) (by show b < _; omega)).trans e2
          have hq : Below wr.heap.size wr W := (hb2.trans (hb3.mono hz2)).trans (hbW.mono hz2)
          have HOW := Lib.hid (ownsRow_below HO.out hq)
          have hbw := hb.trans (hq.mono hbz)
          have HTW := Lib.hid ((HT.out.below (hq.mono hbz)))
          have HBW := Lib.hid ((HA.out.below (hq.mono hbz)))
          have hi1 : (0 : Int) < (r.length : Int) + 1 := by omega
          have hi2 : (1 : Int) ≤ (r.length : Int) + 1 := by omega
          have hi3 : (r.length : Int) + 1 ≤ (c2 : Int) := by simp at k3; omega
          clear hw3 hW hx hxW
          go_wp2_with fail
          rw [← HW3.out]
          go_region
          rw [← HWW.out]
          generalize hA1 : (if c2 = 1 then some (⟨b, off, none⟩ : Addr) else some ⟨b, off + 3, none⟩) = A3
          have HRA1 := Lib.hid (HTW.out.cut1 (c := c2) (by simp at k3; omega) A3 (fun hne => by rw [← hA1, if_neg hne]))
          clear hA1 e0 e1 e2
          go_wp2_with (first
            | (go_at_call 108; refine (keepUnion _ _ _).mono ?_; rintro e w' ⟨rfl, rfl⟩)
            | (at_builtin; refine wpList_append_own _ rfl _ _ 22 rfl w.heap.size 24 ib (.agg #[.int .i64 0, .int .i64 0, .int .i64 0]) 3 24 Tryz.underlying22 HIB.out HB0.out HB1.out HB2.out rfl (by decide) _ _ _ rfl (by exact HOW.out.alloc _) ⟨W.heap.size, 0, none⟩ 1 1 [.int .i64 a.x, .int .i64 a.y, .int .i64 a.s] rfl rfl ?c1 ?c2 ?c3 ?c4 ?c5 ?_))
          case c1 => exact three_new _ _ _ _ _
          case c2 => intro u hu; simp at hu; rcases hu with rfl | rfl | rfl <;> rfl
          case c3 => unfold maxLen; simp at hlen; omega
          case c4 => simp at hlen; omega
          case c5 => have := hbw.size; simp; omega
          intro v' w4 hown4 hgrow4 _
          have hq4 : Below w.heap.size w w4 := (below_drew (hbw.alloc hbw.size (.cells #[.int .i64 a.x, .int .i64 a.y, .int .i64 a.s] 24))).grown hgrow4 (by have := hbw.size; simp; omega) (ownsRow_base HOW.out)
          have hsame : ∀ {X : Option Addr} {q : List Ck.Bar}, RB W w.heap.size X q → RB w4 w.heap.size X q := fun hX => by
            intro hl
            obtain ⟨b', off', e', hb', hc'⟩ := hX hl
            have hk : ∀ o, w4.cell? ⟨b', o, none⟩ = W.cell? ⟨b', o, none⟩ := fun o => (hq4.cell (p := ⟨b', o, none⟩) hb').trans (hbw.cell (p := ⟨b', o, none⟩) hb').symm
            exact ⟨b', off', e', hb', fun i hi => ⟨(hk _).trans (hc' i hi).1, (hk _).trans (hc' i hi).2.1, (hk _).trans (hc' i hi).2.2⟩⟩
          have HRA4 := Lib.hid (hsame HRA1.out)
          have HRB4 := Lib.hid (hsame HBW.out)
          have HO4 := Lib.hid hown4
          clear hown4 hgrow4 hsame
          go_wp2
          go_roundg ((x :: rx).length + r.length)
          case measure => rw [HG.out]; simp only [List.length_cons]; omega
          case rel => exact ⟨A1, A3, c1, c2 - 1, (x :: rx), r, out ++ [a], rfl, rfl, rfl, k1, k2, by simp at k3; omega, by omega, HRB4.out, HRA4.out, by rw [HM.out, HMU.out]; simp, by simp at hlen ⊢; omega, by rw [bcellsL_snoc, List.length_append]; exact HO4.out, hq4⟩
    · have h1 : ra = [] := List.eq_nil_of_length_eq_zero (by omega)
      have h2 : rb = [] := List.eq_nil_of_length_eq_zero (by omega)
      subst h1
      subst h2
      go_wp2
      go_ret
      have hfin := HM.out
      simp only [mergeU, List.append_nil] at hfin
      exact ⟨_, rfl, by rw [hfin]; exact HO.out, hb⟩
end Go.Proofs.YtdeplhihcifmeaaGreatDoor

/- Contracts of merged and Union at valid nets. -/
namespace Go.Proofs.YtdeplhihcifmeaaGreatDoor
open Go.RowKit

def TwoPost (l l' : List Ck.Bar) (w : World) (e : Ending) (w' : World) : Prop :=
  ∃ v, e = .returned (.tuple #[v, .int .i64 0]) ∧ w'.ownsRow w.heap.size 24 3 v (mergeU l l').length (bcellsL (mergeU l l')) ∧ Below w.heap.size w w'
set_option maxHeartbeats 2000000 in
set_option maxRecDepth 100000 in
theorem netMerged (A A' : Option Addr) (c c' : Nat) (l l' : List Ck.Bar) (w : World) (hl : l.length ≤ 4096) (hl' : l'.length ≤ 4096) (hc : l.length ≤ c) (hcm : c ≤ maxLen) (hc' : l'.length ≤ c') (hcm' : c' ≤ maxLen) (hN : Ck.Net l) (hN' : Ck.Net l') (h : RB w w.heap.size A l) (h' : RB w w.heap.size A' l') :
    Calls Tryz.prog 107 #[.slice A l.length c, .slice A' l'.length c', .func (.func 108) #[] #[]] w (TwoPost l l' w) := by
  have HR := Lib.hid h
  have HR' := Lib.hid h'
  have HE := Lib.hid ((netE_zero l).2 ⟨hl, hN⟩)
  have HE' := Lib.hid ((netE_zero l').2 ⟨hl', hN'⟩)
  clear h h' hN hN'
  go_enter Tryz.func107, Tryz.ntmps107
  go_wp2_with fail
  refine (netCheckNet A c l _ hl hc hcm HR.out).mono ?_
  rintro e w1 ⟨rfl, hb1⟩
  rw [HE.out]
  go_wp2_with fail
  refine (netCheckNet A' c' l' _ hl' hc' hcm' ((HR'.out.below hb1).more hb1.size)).mono ?_
  rintro e w2 ⟨rfl, hb2⟩
  rw [HE'.out]
  have hq2 := hb1.trans (hb2.mono hb1.size)
  go_wp2_with fail
  refine (netFirst2 _ _ 0 0 32 _ (by exact heap_alloc_new _ _)).mono ?_
  rintro e w3 ⟨rfl, rfl⟩
  rw [show firstE [0, 0] = 0 from rfl]
  have hq3 := hq2.alloc hq2.size (.cells #[.int .i64 0, .int .i64 0] 32)
  go_wp2_with fail
  refine (netMergeU A A' c c' l l' _ hl hl' hc hcm hc' hcm' ((HR.out.below hq3).more hq3.size) ((HR'.out.below hq3).more hq3.size)).mono ?_
  rintro e w4 ⟨v, rfl, hown, hb4⟩
  have HO := Lib.hid (ownsRow_mono hown hq3.size)
  clear hown
  go_wp2
  go_ret2
  exact ⟨v, rfl, HO.out, hq3.trans (hb4.mono hq3.size)⟩
end Go.Proofs.YtdeplhihcifmeaaGreatDoor

/- Contracts of Union at valid nets with at most 4096 bars together, of the copy that the statements make, and of their count. -/
namespace Go.Proofs.YtdeplhihcifmeaaGreatDoor
open Go.RowKit

set_option maxHeartbeats 2000000 in
set_option maxRecDepth 100000 in
theorem netUnion (A A' : Option Addr) (c c' : Nat) (l l' : List Ck.Bar) (w : World) (hl : l.length ≤ 4096) (hl' : l'.length ≤ 4096) (hc : l.length ≤ c) (hcm : c ≤ maxLen) (hc' : l'.length ≤ c') (hcm' : c' ≤ maxLen) (hN : Ck.Net l) (hN' : Ck.Net l') (h : RB w w.heap.size A l) (h' : RB w w.heap.size A' l') (hu : (mergeU l l').length ≤ 4096) :
    Calls Tryz.prog 57 #[.slice A l.length c, .slice A' l'.length c'] w (TwoPost l l' w) := by
  have ex0 : ∀ (a b : Value) (w : World), (Instr.extract (.tuple #[a, b]) 0).run Tryz.prog w = .ok a w := fun _ _ _ => by kernel_rfl
  have ex1 : ∀ (a b : Value) (w : World), (Instr.extract (.tuple #[a, b]) 1).run Tryz.prog w = .ok b w := fun _ _ _ => by kernel_rfl
  have hu1 : ¬ ((4096 : Int) < ((mergeU l l').length : Int)) := by omega
  go_enter Tryz.func57, Tryz.ntmps57
  go_wp2_with fail
  refine (netMerged A A' c c' l l' _ hl hl' hc hcm hc' hcm' hN hN' h h').mono ?_
  rintro e w1 ⟨v, rfl, hown, hb1⟩
  obtain ⟨a, cv, rfl, _, _⟩ := own_slice hown
  have HO := Lib.hid hown
  clear hown
  generalize hn : (mergeU l l').length = n at hu hu1
  have HN := Lib.hid hn
  clear hn
  go_wp2
  go_ret2
  exact ⟨.slice a n cv, rfl, by have h9 := HO.out; rw [HN.out] at h9 ⊢; exact h9, hb1⟩

def CopyPost (l : List Ck.Bar) (w : World) (e : Ending) (w' : World) : Prop :=
  ∃ v, e = .returned v ∧ w'.ownsRow w.heap.size 24 3 v l.length (bcellsL l) ∧ Below w.heap.size w w'
end Go.Proofs.YtdeplhihcifmeaaGreatDoor

/- slices.Clone at bars, turnedBy, Turn of netting. -/
namespace Go.Proofs.YtdeplhihcifmeaaGreatDoor
open Go.RowKit

theorem nil_yes (w : World) : (binOp BinOp.eql 22 (.slice none 0 0) (.slice none 0 0)).run Tryz.prog w = .ok (.bool true) w := by
  first | kernel_rfl | (simp [go_sem, Tryz.underlying22]; done)
theorem nil_no (ad : Addr) (n c : Nat) (w : World) : (binOp BinOp.eql 22 (.slice (some ad) n c) (.slice none 0 0)).run Tryz.prog w = .ok (.bool false) w := by
  first | kernel_rfl | (simp [go_sem, Tryz.underlying22]; done)
set_option maxHeartbeats 2000000 in
set_option maxRecDepth 100000 in
theorem netClone (A : Option Addr) (c : Nat) (l : List Ck.Bar) (w : World) (hl : l.length ≤ 4096) (hA : A = none → c = 0) (h : RB w w.heap.size A l) :
    Calls Tryz.prog 149 #[.slice A l.length c] w (CopyPost l w) := by
  obtain ⟨ib, hib, hb0, hb01, hb02⟩ := info_parts Tryz.info24
  have ny := nil_yes
  have nn := nil_no
  rcases A with _ | ad
  · obtain rfl := hA rfl
    obtain rfl : l = [] := by
      rcases l with _ | ⟨a, r⟩
      · rfl
      · obtain ⟨b, off, e, -⟩ := h (by simp)
        cases e
    go_enter Tryz.func149, Tryz.ntmps149
    go_wp2
    go_ret
    exact ⟨_, rfl, ⟨rfl, .inl ⟨rfl, rfl⟩⟩, Below.refl _ _⟩
  · clear hA
    rcases l with _ | ⟨a, r⟩
    · clear h
      go_enter Tryz.func149, Tryz.ntmps149
      go_wp2_with (at_builtin; refine wpList_append_own _ rfl _ _ 22 rfl w.heap.size 24 ib (.agg #[.int .i64 0, .int .i64 0, .int .i64 0]) 3 24 Tryz.underlying22 hib hb0 hb01 hb02 rfl (by decide) _ _ _ rfl (by exact empty_row _ _ (Nat.le_refl _) _ _) ad 0 c [] rfl rfl ?c1 ?c2 ?c3 ?c4 ?c5 ?_)
      case c1 => intro j u h; simp at h
      case c2 => intro u h; simp at h
      case c3 => unfold maxLen; omega
      case c4 => omega
      case c5 => simp
      intro v' w4 hown4 hgrow4 _
      have HO := Lib.hid hown4
      have hq := ((Below.refl w.heap.size w).alloc (Nat.le_refl _) (.cells #[] 24)).grown hgrow4 (by simp) (ownsRow_base (empty_row w w.heap.size (Nat.le_refl _) 24 3))
      clear hown4 hgrow4
      go_wp2
      go_ret
      exact ⟨v', rfl, HO.out, hq⟩
    · have hne : 0 < (a :: r).length := by simp
      obtain ⟨L, hL⟩ : ∃ L, a :: r = L := ⟨_, rfl⟩
      rw [hL] at h hl hne ⊢
      clear hL
      obtain ⟨b, off, hbo, hB, _⟩ := id (h hne)
      injection hbo with hbo
      subst hbo
      have HR := Lib.hid h
      clear h
      go_enter Tryz.func149, Tryz.ntmps149
      go_wp2_with (at_builtin; refine wpList_append_own _ rfl _ _ 22 rfl w.heap.size 24 ib (.agg #[.int .i64 0, .int .i64 0, .int .i64 0]) 3 24 Tryz.underlying22 hib hb0 hb01 hb02 rfl (by decide) _ _ _ rfl (by exact empty_row _ _ (Nat.le_refl _) _ _) ⟨b, off, none⟩ L.length c (bcellsL L) rfl (bcellsL_length L) ?c1 (bcellsL_one L) ?c3 ?c4 ?c5 ?_)
      case c1 => exact (HR.out.below ((Below.refl _ _).alloc (Nat.le_refl _) _)).news hne
      case c3 => unfold maxLen; omega
      case c4 => omega
      case c5 => simp
      intro v' w4 hown4 hgrow4 _
      have HO := Lib.hid hown4
      have hq := ((Below.refl w.heap.size w).alloc (Nat.le_refl _) (.cells #[] 24)).grown hgrow4 (by simp) (ownsRow_base (empty_row w w.heap.size (Nat.le_refl _) 24 3))
      clear hown4 hgrow4
      go_wp2
      go_ret
      exact ⟨_, rfl, by simpa using HO.out, hq⟩
/-- Turned so many times. -/
def turnN : Nat → List Ck.Bar → List Ck.Bar
  | 0, l => l
  | n + 1, l => sortBars ((turnN n l).map turnB)
theorem turnB_ok {b : Ck.Bar} (h : Ck.okBar b) : Ck.okBar (turnB b) := by
  obtain ⟨⟨⟨h1, h2⟩, ⟨h3, h4⟩, h5⟩, hs, h6, h7⟩ := h
  simp only [Ck.Bar.lo, Ck.Bar.hi] at *
  rcases hs with hs | hs <;> simp only [Ck.inPlace, hs] at h6 h7 <;> simp [turnB, hs, Ck.okBar, Ck.okKnot, Ck.inPlace, Ck.Bar.lo, Ck.Bar.hi] <;> omega
theorem turnN_ok {l : List Ck.Bar} (h : ∀ x ∈ l, Ck.okBar x) : ∀ n, ∀ x ∈ turnN n l, Ck.okBar x
  | 0 => h
  | n + 1 => fun x hx => by
    rw [turnN, (sortBars_perm _).mem_iff, List.mem_map] at hx
    obtain ⟨y, hy, rfl⟩ := hx
    exact turnB_ok (turnN_ok h n y hy)
theorem turnN_length (l : List Ck.Bar) : ∀ n, (turnN n l).length = l.length
  | 0 => rfl
  | n + 1 => by rw [turnN, (sortBars_perm _).length_eq, List.length_map, turnN_length l n]
set_option maxHeartbeats 2000000 in
set_option maxRecDepth 100000 in
theorem netTurnedBy (A : Option Addr) (c q : Nat) (l : List Ck.Bar) (w : World) (hl : l.length ≤ 4096) (hA : A = none → c = 0) (hok : ∀ x ∈ l, Ck.okBar x) (hq : q ≤ 3) (h : RB w w.heap.size A l) :
    Calls Tryz.prog 115 #[.slice A l.length c, .int .i64 q] w (CopyPost (turnN q l) w) := by
  have HOK := Lib.hid hok
  have hqi : (q : Int) ≤ 3 := by omega
  go_enter Tryz.func115, Tryz.ntmps115
  go_wp2_with fail
  refine (netClone A c l w hl hA h).mono ?_
  rintro e w1 ⟨v1, rfl, hr1, hb1⟩
  have HR1 := Lib.hid hr1
  clear hr1 h hok hA
  go_wp2_with fail
  go_loopw [5, 9] (fun v i wr => ∃ k : Nat, k ≤ q ∧ i = .int .i64 k ∧ Hid (wr.ownsRow w.heap.size 24 3 v (turnN k l).length (bcellsL (turnN k l))) ∧ Below w.heap.size w wr) (fun _ i _ => q - (intOf i).toNat)
  case atStart => exact ⟨0, Nat.zero_le _, rfl, HR1, hb1⟩
  case round =>
    obtain ⟨k, hk, rfl, hown, hb⟩ := hrel
    by_cases hlt : k < q
    · have hki : (k : Int) < (q : Int) := by omega
      obtain ⟨a, c', rfl, hoks⟩ := own_oks hown.out
      have HS := Lib.hid hoks
      have HL := Lib.hid (turnN_length l k)
      clear hown hoks
      go_wp2_with fail
      refine (netMovedT a c' (turnN k l) _ (by rw [HL.out]; exact hl) (turnN_ok HOK.out k) HS.out.2.2.2).mono ?_
      rintro e w2 ⟨v2, rfl, hr2, hb2⟩
      have hr2' := ownsRow_mono hr2 hb.size
      have HR2 := Lib.hid (show w2.ownsRow w.heap.size 24 3 v2 (turnN (k + 1) l).length (bcellsL (turnN (k + 1) l)) by rw [turnN_length]; rw [HL.out] at hr2'; exact hr2')
      have hb3 := hb.trans (hb2.mono hb.size)
      clear hr2 hr2' hb2
      go_wp2
      go_roundw
      case rel => exact ⟨k + 1, by omega, by go_num, HR2, hb3⟩
      case measure => simp [intOf]; omega
    · obtain rfl : k = q := by omega
      go_wp2
      go_ret
      exact ⟨_, rfl, hown.out, hb⟩
set_option maxHeartbeats 2000000 in
set_option maxRecDepth 100000 in
theorem netTurn (A : Option Addr) (c : Nat) (t : Int) (l : List Ck.Bar) (w : World) (hl : l.length ≤ 4096) (hcap : l.length ≤ c) (hcm : c ≤ maxLen) (hA : A = none → c = 0) (hN : Ck.Net l) (h : RB w w.heap.size A l) :
    Calls Tryz.prog 65 #[.slice A l.length c, .int .i64 t] w fun e w' => ∃ v, e = .returned (.tuple #[v, .int .i64 0]) ∧ w'.ownsRow w.heap.size 24 3 v (turnN ((t.tmod 4 + 4).tmod 4).toNat l).length (bcellsL (turnN ((t.tmod 4 + 4).tmod 4).toNat l)) ∧ Below w.heap.size w w' := by
  have HE := Lib.hid ((netE_zero l).2 ⟨hl, hN⟩)
  have HR := Lib.hid h
  have HN := Lib.hid hN
  have HA := Lib.hid hA
  obtain ⟨r, hr⟩ : ∃ r, t.tmod 4 = r := ⟨_, rfl⟩
  have hr1 : -4 < r ∧ r < 4 := by rw [← hr]; exact ⟨by have := Int.lt_tmod_of_pos t (show (0 : Int) < 4 by decide); omega, Int.tmod_lt_of_pos t (by decide)⟩
  obtain ⟨q, hq⟩ : ∃ q : Nat, (r + 4).tmod 4 = (q : Int) := ⟨((r + 4).tmod 4).toNat, by have := Int.tmod_nonneg (a := r + 4) 4 (by omega); omega⟩
  have hq3 : q ≤ 3 := by have := Int.tmod_lt_of_pos (r + 4) (show (0 : Int) < 4 by decide); omega
  have w1' : IntKind.i64.wrap r = r := by rw [IntKind.wrap_i64]; omega
  have w2' : IntKind.i64.wrap (r + 4) = r + 4 := by rw [IntKind.wrap_i64]; omega
  have w3' : IntKind.i64.wrap (q : Int) = (q : Int) := by rw [IntKind.wrap_i64]; omega
  rw [hr, hq, Int.toNat_natCast]
  clear h hN hA
  go_enter Tryz.func65, Tryz.ntmps65
  go_wp2_with fail
  refine (netCheckNet A c l _ hl hcap hcm HR.out).mono ?_
  rintro e w1 ⟨rfl, hb1⟩
  rw [HE.out]
  go_wp2_with fail
  refine (netTurnedBy A c q l _ hl HA.out HN.out.1 hq3 ((HR.out.below hb1).more hb1.size)).mono ?_
  rintro e w2 ⟨v, rfl, hrow, hb2⟩
  have HO := Lib.hid (ownsRow_mono hrow hb1.size)
  clear hrow
  go_wp2
  go_ret2
  exact ⟨v, rfl, HO.out, hb1.trans (hb2.mono hb1.size)⟩
end Go.Proofs.YtdeplhihcifmeaaGreatDoor

/- Nets in order: CompareFunc at bars, compareNets, MinFunc at nets. -/
namespace Go.Proofs.YtdeplhihcifmeaaGreatDoor
open Go.RowKit

def cmpNets : List Ck.Bar → List Ck.Bar → Int
  | [], [] => 0
  | [], _ :: _ => -1
  | _ :: _, [] => 1
  | a :: r, b :: s => if cmpB a b = 0 then cmpNets r s else cmpB a b
set_option maxHeartbeats 4000000 in
set_option maxRecDepth 100000 in
theorem netCompareFunc (A A' : Option Addr) (c c' : Nat) (l l' : List Ck.Bar) (w : World) (hl : l.length ≤ 4096) (hl' : l'.length ≤ 4096) (h : RB w w.heap.size A l) (h' : RB w w.heap.size A' l') :
    Calls Tryz.prog 151 #[.slice A l.length c, .slice A' l'.length c', .func (.func 131) #[] #[]] w fun e w' => e = .returned (.int .i64 (cmpNets l l')) ∧ Below w.heap.size w w' := by
  have HR := Lib.hid h
  have HR' := Lib.hid h'
  obtain ⟨R, hR⟩ : ∃ R, cmpNets l l' = R := ⟨_, rfl⟩
  have H0 := Lib.hid (show cmpNets (l.drop 0) (l'.drop 0) = R from hR)
  rw [hR]
  clear h h' hR
  go_enter Tryz.func151, Tryz.ntmps151
  go_wp2_with fail
  go_loopw [7, 8, 9, 10, 13] (fun _ _ _ _ i wr => ∃ k : Nat, k ≤ l.length ∧ k ≤ l'.length ∧ i = .int .i64 k ∧ Hid (cmpNets (l.drop k) (l'.drop k) = R) ∧ Below w.heap.size w wr) (fun _ _ _ _ i _ => l.length - (intOf i).toNat)
  case atStart => exact ⟨0, Nat.zero_le _, Nat.zero_le _, rfl, H0, Below.refl _ _⟩
  case round =>
    obtain ⟨k, hk, hk', rfl, HC, hb⟩ := hrel
    have hbz := hb.size
    by_cases hlt : k < l.length
    · obtain ⟨b, off, rfl, hBb, hc⟩ := HR.out.below hb (by omega)
      obtain ⟨c0, c1, c2⟩ := hc k hlt
      have hd1 : l.drop k = l[k] :: l.drop (k + 1) := List.drop_eq_getElem_cons hlt
      obtain ⟨⟨X, Y, S⟩, hX⟩ : ∃ x, l[k] = x := ⟨_, rfl⟩
      rw [hX] at c0 c1 c2 hd1
      simp only at c0 c1 c2
      have HD1 := Lib.hid hd1
      have hkl : (k : Int) < (l.length : Int) := by omega
      have hk0 : (0 : Int) ≤ (k : Int) := by omega
      obtain ⟨w2, hw2, e0, e1, e2, hb2, hz2⟩ := box3 wr (.int .i64 X) (.int .i64 Y) (.int .i64 S) 24
      have B2 := hb.trans (hb2.mono hbz)
      clear hX hc hd1
      by_cases hlt' : k < l'.length
      · obtain ⟨b', off', rfl, hBb', hc'⟩ := HR'.out.below B2 (by omega)
        obtain ⟨d0, d1, d2⟩ := hc' k hlt'
        have hd2 : l'.drop k = l'[k] :: l'.drop (k + 1) := List.drop_eq_getElem_cons hlt'
        obtain ⟨⟨X', Y', S'⟩, hX'⟩ : ∃ x, l'[k] = x := ⟨_, rfl⟩
        rw [hX'] at d0 d1 d2 hd2
        simp only at d0 d1 d2
        have HD2 := Lib.hid hd2
        have hkl' : (k : Int) < (l'.length : Int) := by omega
        have hz2' : w2.heap.size = wr.heap.size + 1 := by rw [hw2]; simp
        obtain ⟨w3, hw3, f0, f1, f2, hb3, hz3⟩ := box3 w2 (.int .i64 X') (.int .i64 Y') (.int .i64 S') 24
        have g0 := (hb3.cell (p := ⟨wr.heap.size, 0, none⟩) hz2).trans e0
        have g1 := (hb3.cell (p := ⟨wr.heap.size, 1, none⟩) hz2).trans e1
        have g2 := (hb3.cell (p := ⟨wr.heap.size, 2, none⟩) hz2).trans e2
        have B3 := B2.trans (hb3.mono B2.size)
        have HW2 := Lib.hid hw2
        have HW3 := Lib.hid hw3
        clear hX' hc' hd2 hb2 hb3 hw2 hw3
        have HW2' := HW2.out.symm
        go_wp2_with fail
        rw [← HW3.out]
        refine (netCompareBars_below _ _ _ _ _ _ _).mono ?_
        rintro e w4 ⟨rfl, hb4⟩
        have B4 := B3.trans (hb4.mono B3.size)
        have HC2 := Lib.hid (show (if cmpB ⟨X, Y, S⟩ ⟨X', Y', S'⟩ = 0 then cmpNets (l.drop (k + 1)) (l'.drop (k + 1)) else cmpB ⟨X, Y, S⟩ ⟨X', Y', S'⟩) = R by rw [← HC.out, HD1.out, HD2.out, cmpNets])
        obtain ⟨z, hz⟩ : ∃ z, cmpB ⟨X, Y, S⟩ ⟨X', Y', S'⟩ = z := ⟨_, rfl⟩
        rw [hz] at HC2 ⊢
        clear hz hb4 f0 f1 f2 g0 g1 g2 HW2'
        by_cases h0 : z = 0
        · have hz0 : (z != 0) = false := by rw [h0]; rfl
          have HC3 := Lib.hid (show cmpNets (l.drop (k + 1)) (l'.drop (k + 1)) = R by rw [← HC2.out, if_pos h0])
          clear h0
          go_wp2
          go_roundw
          case rel => exact ⟨k + 1, by omega, by omega, by go_num, HC3, B4⟩
          case measure => simp [intOf]; omega
        · have hz0 : (z != 0) = true := by rw [bne_iff_ne]; exact h0
          have HC3 := Lib.hid (show z = R by rw [← HC2.out, if_neg h0])
          clear h0
          go_wp2
          go_ret
          exact ⟨ret_i HC3.out, B4⟩
      · have hkl' : ¬ (k : Int) < (l'.length : Int) := by omega
        have HC3 := Lib.hid (show (1 : Int) = R by rw [← HC.out, HD1.out, List.drop_of_length_le (show l'.length ≤ k by omega), cmpNets])
        have hle : (l'.length : Int) ≤ (k : Int) := by omega
        go_wp2
        go_ret
        exact ⟨ret_i HC3.out, by rw [← hw2]; exact B2⟩
    · have hkl : ¬ (k : Int) < (l.length : Int) := by omega
      by_cases hlt' : l.length < l'.length
      · have hll : (l.length : Int) < (l'.length : Int) := by omega
        have HC3 := Lib.hid (show (-1 : Int) = R by
          rw [← HC.out, List.drop_of_length_le (show l.length ≤ k by omega), List.drop_eq_getElem_cons (show k < l'.length by omega), cmpNets])
        go_wp2
        go_ret
        exact ⟨ret_i HC3.out, hb⟩
      · have hll : ¬ (l.length : Int) < (l'.length : Int) := by omega
        have HC3 := Lib.hid (show (0 : Int) = R by
          rw [← HC.out, List.drop_of_length_le (show l.length ≤ k by omega), List.drop_of_length_le (show l'.length ≤ k by omega), cmpNets])
        go_wp2
        go_ret
        exact ⟨ret_i HC3.out, hb⟩
set_option maxHeartbeats 1000000 in
set_option maxRecDepth 100000 in
theorem netCompareNets (A A' : Option Addr) (c c' : Nat) (l l' : List Ck.Bar) (w : World) (hl : l.length ≤ 4096) (hl' : l'.length ≤ 4096) (h : RB w w.heap.size A l) (h' : RB w w.heap.size A' l') :
    Calls Tryz.prog 119 #[.slice A l.length c, .slice A' l'.length c'] w fun e w' => e = .returned (.int .i64 (cmpNets l l')) ∧ Below w.heap.size w w' := by
  have H := netCompareFunc A A' c c' l l' w hl hl' h h'
  clear h h'
  go_enter Tryz.func119, Tryz.ntmps119
  go_wp2_with fail
  refine H.mono ?_
  rintro e w1 ⟨rfl, hb1⟩
  go_wp2
  go_ret
  exact ⟨rfl, hb1⟩
end Go.Proofs.YtdeplhihcifmeaaGreatDoor

/- MinFunc at nets. -/
namespace Go.Proofs.YtdeplhihcifmeaaGreatDoor
open Go.RowKit

/-- A net in memory: where, its room, its bars. -/
structure Hd where
  a : Option Addr
  c : Nat
  l : List Ck.Bar
def Hd.v (f : Hd) : Value := .slice f.a f.l.length f.c
def Hd.ok (w : World) (f : Hd) : Prop := f.l.length ≤ 4096 ∧ OKS w f.a f.c f.l
theorem Hd.ok.below {w w' : World} {f : Hd} (h : f.ok w) (hb : Below w.heap.size w w') : f.ok w' := ⟨h.1, h.2.below hb⟩
def minH (m : Hd) : List Hd → Hd
  | [] => m
  | f :: r => if cmpNets f.l m.l < 0 then minH f r else minH m r
theorem minH_mem : ∀ (r : List Hd) (m : Hd), minH m r = m ∨ minH m r ∈ r
  | [], _ => .inl rfl
  | f :: r, m => by
    rw [minH]
    split
    · rcases minH_mem r f with h | h
      · exact .inr (by rw [h]; exact List.mem_cons_self)
      · exact .inr (List.mem_cons_of_mem _ h)
    · rcases minH_mem r m with h | h
      · exact .inl h
      · exact .inr (List.mem_cons_of_mem _ h)
set_option maxHeartbeats 4000000 in
set_option maxRecDepth 100000 in
theorem netMinFunc (B : Nat) (v : Value) (f0 : Hd) (fs : List Hd) (w : World) (hn : fs.length ≤ 1000) (hok : ∀ f ∈ f0 :: fs, f.ok w) (h : w.ownsRow B 22 1 v (f0 :: fs).length ((f0 :: fs).map Hd.v)) :
    Calls Tryz.prog 118 #[v, .func (.func 119) #[] #[]] w fun e w' => e = .returned (minH f0 fs).v ∧ Below w.heap.size w w' := by
  obtain ⟨g, cap, rfl, hg1, hg2, hg3, hg4⟩ := own_form h (by simp)
  have HOK := Lib.hid hok
  have HROW := Lib.hid h
  obtain ⟨R, hR⟩ : ∃ R, minH f0 fs = R := ⟨_, rfl⟩
  obtain ⟨L, hL⟩ : ∃ L, f0 :: fs = L := ⟨_, rfl⟩
  have H0 := Lib.hid (show minH f0 (L.drop 1) = R by rw [← hL]; exact hR)
  have HM0 := Lib.hid (show f0 ∈ L by rw [← hL]; exact List.mem_cons_self)
  have HF0 := Lib.hid (show L[0]? = some f0 by rw [← hL]; rfl)
  have hLn : 0 < L.length := by rw [← hL]; simp
  have hL1 : L.length ≤ 1001 := by rw [← hL]; simp; omega
  have k0 : w.cell? ⟨g, 0, none⟩ = some f0.v := by rw [h.cellAt 0 (by simp)]; rfl
  have hlen : ¬ (L.length : Int) < 1 := by omega
  have hlen2 : (0 : Int) < (L.length : Int) := by omega
  rw [hL] at HOK HROW ⊢
  rw [hR]
  clear h hok hR hL
  go_enter Tryz.func118, Tryz.ntmps118
  go_wp2_with fail
  go_loopw [5, 6] (fun m i wr => ∃ (k : Nat) (f : Hd), 1 ≤ k ∧ k ≤ L.length ∧ i = .int .i64 k ∧ m = f.v ∧ Hid (f ∈ L) ∧ Hid (minH f (L.drop k) = R) ∧ Below w.heap.size w wr) (fun _ i _ => L.length - (intOf i).toNat)
  case atStart => exact ⟨1, f0, by omega, by omega, rfl, rfl, HM0, H0, Below.refl _ _⟩
  case round =>
    obtain ⟨k, f, hk1, hk, rfl, rfl, HM, HC, hb⟩ := hrel
    by_cases hlt : k < L.length
    · have hkl : (k : Int) < (L.length : Int) := by omega
      have hk0 : (0 : Int) ≤ (k : Int) := by omega
      have hrow := ownsRow_below HROW.out hb
      obtain ⟨f', hf'⟩ : ∃ f', L[k] = f' := ⟨_, rfl⟩
      have k1 : wr.cell? ⟨g, k, none⟩ = some f'.v := by
        rw [hrow.cellAt k (by omega), ← hf']
        simp [List.getElem?_eq_getElem hlt]
      have HF := Lib.hid ((HOK.out f HM.out).below hb)
      have HM' := Lib.hid (show f' ∈ L by rw [← hf']; exact List.getElem_mem hlt)
      have HF' := Lib.hid ((HOK.out f' HM'.out).below hb)
      have HC2 := Lib.hid (show (if cmpNets f'.l f.l < 0 then minH f' (L.drop (k + 1)) else minH f (L.drop (k + 1))) = R by rw [← HC.out, List.drop_eq_getElem_cons hlt, hf', minH])
      clear hrow hf' k0
      go_wp2_with fail
      refine (netCompareNets f'.a f.a f'.c f.c f'.l f.l _ HF'.out.1 HF.out.1 HF'.out.2.2.2.2 HF.out.2.2.2.2).mono ?_
      rintro e w3 ⟨rfl, hb3⟩
      have B3 := hb.trans (hb3.mono hb.size)
      have k3 := (hb3.cell (p := ⟨g, k, none⟩) (by have := hb.size; show g < _; omega)).trans k1
      obtain ⟨z, hz⟩ : ∃ z, cmpNets f'.l f.l = z := ⟨_, rfl⟩
      rw [hz] at HC2 ⊢
      clear hz hb3 k1
      by_cases hz0 : z < 0
      · have HC3 := Lib.hid (show minH f' (L.drop (k + 1)) = R by rw [← HC2.out, if_pos hz0])
        go_wp2
        go_roundw
        case rel => exact ⟨k + 1, f', by omega, by omega, by go_num, rfl, HM', HC3, B3⟩
        case measure => simp [intOf]; omega
      · have HC3 := Lib.hid (show minH f (L.drop (k + 1)) = R by rw [← HC2.out, if_neg hz0])
        go_wp2
        go_roundw
        case rel => exact ⟨k + 1, f, by omega, by omega, by go_num, rfl, HM, HC3, B3⟩
        case measure => simp [intOf]; omega
    · have hkl : ¬ (k : Int) < (L.length : Int) := by omega
      have HE := Lib.hid (show f = R by rw [← HC.out, List.drop_of_length_le (by omega), minH])
      go_wp2
      go_ret
      exact ⟨congrArg (fun f => Ending.returned (Hd.v f)) HE.out, hb⟩
end Go.Proofs.YtdeplhihcifmeaaGreatDoor

/- Contracts of shiftedBy and Shift, where the shifted bars are a net. -/
namespace Go.Proofs.YtdeplhihcifmeaaGreatDoor
open Go.RowKit

set_option maxHeartbeats 1000000 in
theorem netShiftedBy (A : Option Addr) (c : Nat) (l : List Ck.Bar) (dx dy : Int) (w : World) (hl : l.length ≤ 4096) (hok : ∀ x ∈ l, Ck.okBar x) (h : RB w w.heap.size A l) (k1 : -500000 ≤ dx) (k2 : dx ≤ 500000) (k3 : -500000 ≤ dy) (k4 : dy ≤ 500000) :
    Calls Tryz.prog 112 #[.slice A l.length c, .agg #[.int .i64 dx, .int .i64 dy]] w (MovPost l dx dy w) := by
  obtain ⟨w1, hw1, e0, e1, hb1, hz1⟩ := box2 w (.int .i64 dx) (.int .i64 dy) 149
  have HR := Lib.hid h
  have HO := Lib.hid hok
  have HW := Lib.hid hw1
  clear h hok hw1
  go_enter Tryz.func112, Tryz.ntmps112
  go_wp2_with fail
  rw [← HW.out]
  refine (netMoved A c w.heap.size l dx dy w1 hl HO.out ((HR.out.below hb1).more hb1.size) k1 k2 k3 k4 hz1 e0 e1).mono ?_
  rintro e w2 ⟨v, rfl, hrow, hb2⟩
  have HV := Lib.hid (ownsRow_mono hrow hb1.size)
  clear hrow
  go_wp2
  go_ret
  exact ⟨v, rfl, HV.out, hb1.trans (hb2.mono hb1.size)⟩

theorem keepS {W w1 w2 : World} {g : Nat} {x y : Value} (h : w1.cell? ⟨g, 0, none⟩ = some x ∧ w1.cell? ⟨g, 1, none⟩ = some y ∧ Below g W w1 ∧ g < w1.heap.size) (hb : Below w1.heap.size w1 w2) :
    w2.cell? ⟨g, 0, none⟩ = some x ∧ w2.cell? ⟨g, 1, none⟩ = some y ∧ Below g W w2 ∧ g < w2.heap.size := by
  obtain ⟨h0, h1, h3, h4⟩ := h
  exact ⟨(hb.cell (p := ⟨g, 0, none⟩) h4).trans h0, (hb.cell (p := ⟨g, 1, none⟩) h4).trans h1, h3.trans (hb.mono (by omega)), by have := hb.size; omega⟩
theorem sId {W w : World} {g : Nat} {x y : Value} (h : w.cell? ⟨g, 0, none⟩ = some x ∧ w.cell? ⟨g, 1, none⟩ = some y ∧ Below g W w ∧ g < w.heap.size) : w.cell? ⟨g, 0, none⟩ = some x ∧ w.cell? ⟨g, 1, none⟩ = some y ∧ Below g W w ∧ g < w.heap.size := h
theorem checkS {W w : World} {g : Nat} {x y : Value} (A : Option Addr) (c : Nat) (l : List Ck.Bar) (hl : l.length ≤ 4096) (hcap : l.length ≤ c) (hcm : c ≤ maxLen) (HR : Hid (RB W W.heap.size A l)) (hg : W.heap.size ≤ g) (HE : Hid (netE l = 0))
    (h : w.cell? ⟨g, 0, none⟩ = some x ∧ w.cell? ⟨g, 1, none⟩ = some y ∧ Below g W w ∧ g < w.heap.size) : Calls Tryz.prog 20 #[.slice A l.length c] w fun e w' => e = .returned (.int .i64 0) ∧ Below w.heap.size w w' :=
  (netCheckNet A c l w hl hcap hcm ((HR.out.below (h.2.2.1.mono hg)).more (by have := h.2.2.1.size; have := h.2.2.2; omega))).mono fun e w' ⟨he, hb⟩ => ⟨by rw [he, HE.out], hb⟩

set_option maxHeartbeats 2000000 in
set_option maxRecDepth 100000 in
theorem netShiftG (A : Option Addr) (c : Nat) (l : List Ck.Bar) (w : World) (hl : l.length ≤ 4096) (hcap : l.length ≤ c) (hcm : c ≤ maxLen) (dx dy : Int) (hN : Ck.Net l) (hF : Ck.Net (l.map (Ck.Bar.shift dx dy))) (hK : knotE dx dy = 0) (k1 : -500000 ≤ dx) (k2 : dx ≤ 500000) (k3 : -500000 ≤ dy) (k4 : dy ≤ 500000) (h : RB w w.heap.size A l) :
    Calls Tryz.prog 63 #[.slice A l.length c, .agg #[.int .i64 dx, .int .i64 dy]] w fun e w' => ∃ v, e = .returned (.tuple #[v, .int .i64 0]) ∧ w'.ownsRow w.heap.size 24 3 v (l.map (Ck.Bar.shift dx dy)).length (bcellsL (l.map (Ck.Bar.shift dx dy))) ∧ Below w.heap.size w w' := by
  obtain ⟨w1, hw1, e0, e1, hb1, hz1⟩ := box2 w (.int .i64 dx) (.int .i64 dy) 26
  have HR := Lib.hid h
  have HN := Lib.hid hN
  have HF := Lib.hid hF
  have HE := Lib.hid ((netE_zero l).2 ⟨hl, hN⟩)
  have HK := Lib.hid hK
  have HS := Lib.hid (sortBars_net hF.2)
  have HL := Lib.hid (show (l.map (Ck.Bar.shift dx dy)).length = l.length from List.length_map ..)
  have HW := Lib.hid hw1
  clear h hN hF hK hw1
  go_enter Tryz.func63, Tryz.ntmps63
  go_wp2_with fail
  rw [← HW.out]
  go_region_held3 (fun w' => w'.cell? ⟨w.heap.size, 0, none⟩ = some (.int .i64 dx) ∧ w'.cell? ⟨w.heap.size, 1, none⟩ = some (.int .i64 dy) ∧ Below w.heap.size w w' ∧ w.heap.size < w'.heap.size)
    (first | exact ⟨e0, e1, below_drew hb1, hz1⟩ | exact keepS (by assumption) (by assumption) | exact keepS (by assumption) ((Below.refl _ _).alloc (Nat.le_refl _) _) | assumption | go_keep)
    (first
      | (go_at_call 20; refine (checkS A c l hl hcap hcm HR (Nat.le_refl _) HE (by assumption)).mono ?_; rintro e w' ⟨rfl, hbq⟩)
      | (go_at_call 23; refine (netCheckKnot _ _ _).mono ?_; rintro e w' ⟨rfl, hbq⟩; rw [HK.out])
      | (go_at_call 84; refine (netFirst2 _ _ 0 0 32 _ (by exact heap_alloc_new _ _)).mono ?_; rintro e w' ⟨rfl, rfl⟩; rw [show firstE [0, 0] = 0 from rfl]))
  obtain ⟨c0, c1, hbW, hzW⟩ := sId (by assumption)
  go_wp2_with fail
  refine (netShiftedBy A c l dx dy _ hl HN.out.1 ((HR.out.below hbW).more hbW.size) k1 k2 k3 k4).mono ?_
  rintro e w3 ⟨v, rfl, hrow, hb3⟩
  have hrow' := ownsRow_mono hrow hbW.size
  have hbT := hbW.trans (hb3.mono hbW.size)
  rw [HS.out] at hrow'
  obtain ⟨a, cv, rfl, hcv, hcm2⟩ := own_slice hrow'
  have hrow2 := hrow'
  rw [← HL.out] at hrow2 hcv
  have HO := Lib.hid hrow2
  have hRB := RB.of_own hrow2
  have HRB := Lib.hid hRB
  have hlen : (l.map (Ck.Bar.shift dx dy)).length ≤ 4096 := by rw [HL.out]; exact hl
  have HLen := Lib.hid hlen
  clear hrow hrow' hrow2 hRB hlen
  go_wp2_with fail
  rw [← HL.out]
  refine (netWithin a cv (l.map (Ck.Bar.shift dx dy)) _ HLen.out hcv hcm2 HF.out HRB.out).mono ?_
  rintro e w4 ⟨rfl, hb4⟩
  go_wp2
  go_ret2
  refine ⟨_, rfl, ?_, hbT.trans (hb4.mono hbT.size)⟩
  have hfin := ownsRow_below HO.out (hb4.mono (Nat.le_refl _))
  simp only [List.length_map] at hfin ⊢
  exact hfin
end Go.Proofs.YtdeplhihcifmeaaGreatDoor
