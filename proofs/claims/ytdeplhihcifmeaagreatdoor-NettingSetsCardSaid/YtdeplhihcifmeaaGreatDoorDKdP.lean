/- NettingSets returns true for every two lists of bars; the library's tables that its row lists are tied to the program's text. -/
import Derived.Test.YtdeplhihcifmeaaGreatDoorDxKcB
import Derived.ProofKit
import Derived.Deep.Slices
import Derived.Deep.Fields
/- The reference's Minus, Meet and Union. -/
namespace Go.Proofs.YtdeplhihcifmeaaGreatDoor
open Go.RowKit Go.Shelf Ck

set_option maxHeartbeats 4000000 in
set_option maxRecDepth 100000 in
theorem refMinus (A A' : Option Addr) (c c' : Nat) (l m : List Ck.Bar) (w : World) (hl : l.length ≤ 4096) (hm : m.length ≤ 4096) (h : OKS w A c l) (h' : OKS w A' c' m) :
    Calls Tryz.prog 61 #[.slice A l.length c, .slice A' m.length c'] w (SlicePost (l.filter (fun b => !(decide (b ∈ m)))) w) := by
  refine Calls.mono (R := fun e w' => ∃ v, e = .returned v ∧ w'.ownsRow w.heap.size 24 3 v (l.filter (fun b => !(decide (b ∈ m)))).length (bcellsL (l.filter (fun b => !(decide (b ∈ m))))) ∧ Below w.heap.size w w') ?_ (fun e w' ⟨v, he, ho, hb⟩ => by
    obtain ⟨a, c', rfl, hok⟩ := own_oks ho
    exact ⟨a, c', he, hok, hb⟩)
  obtain ⟨ib, hib, hb0, hb01, hb02⟩ := info_parts Tryz.info24
  have HIB := Lib.hid hib
  have HB0 := Lib.hid hb0
  have HB1 := Lib.hid hb01
  have HB2 := Lib.hid hb02
  have HR := Lib.hid h
  have HM := Lib.hid h'
  have hl' : (l.length : Int) ≤ 4096 := by omega
  clear hib hb0 hb01 hb02 h h'
  have hbT2w : ∀ {W : World}, Below w.heap.size w W → Below w.heap.size w W := fun h => h
  go_enter Tryz.func61, Tryz.ntmps61
  go_wp2_with fail
  go_loopw [5, 6] (fun v i wr => ∃ j : Nat, j ≤ l.length ∧ i = .int .i64 j ∧ Hid (wr.ownsRow w.heap.size 24 3 v ((l.take j).filter (fun b => !(decide (b ∈ m)))).length (bcellsL ((l.take j).filter (fun b => !(decide (b ∈ m)))))) ∧ Below w.heap.size w wr) (fun _ i _ => l.length - (intOf i).toNat)
  case atStart => exact ⟨0, Nat.zero_le _, rfl, Lib.hid ⟨rfl, .inl ⟨rfl, rfl⟩⟩, Below.refl _ _⟩
  case round =>
    obtain ⟨j, hj, rfl, hown, hb⟩ := hrel
    have hbz := hb.size
    have hln := List.length_filter_le (fun b => !(decide (b ∈ m))) (l.take j)
    have hln2 : (l.take j).length ≤ 4096 := by rw [List.length_take]; omega
    by_cases hlt : j < l.length
    · obtain ⟨b, off, rfl, hB, hc⟩ := (HR.out.2.2.2.below hb) (by omega)
      obtain ⟨d0, d1, d2⟩ := hc j hlt
      have hbr : b < wr.heap.size := by omega
      have hj1 : (j : Int) < (l.length : Int) := by omega
      have hj0 : (0 : Int) ≤ (j : Int) := by omega
      clear hc
      obtain ⟨k, hk⟩ : ∃ k, l[j] = k := ⟨_, rfl⟩
      have HK := Lib.hid hk
      rw [hk] at d0 d1 d2
      clear hk
      by_cases hin : k ∈ m
      · have HFY := Lib.hid (show (l.take (j + 1)).filter (fun b => !(decide (b ∈ m))) = (l.take j).filter (fun b => !(decide (b ∈ m))) by
          rw [List.take_succ_eq_append_getElem hlt, HK.out, List.filter_append]
          simp [hin])
        have HIN := Lib.hid (show decide (k ∈ m) = true by simpa using hin)
        generalize (l.take j).filter (fun b => !(decide (b ∈ m))) = F at *
        clear hin
        go_wp2_with fail
        refine (refHasBar A' c' m k _ (by omega) (HM.out.below (hbT2w hb)).2.2.2).mono ?_
        rintro e w3 ⟨rfl, hb3⟩
        rw [HIN.out]
        have hO3 := Lib.hid (ownsRow_below hown.out hb3)
        have B3 := hb.trans (hb3.mono hbz)
        clear d0 d1 d2 hown
        go_wp2
        go_roundw
        case rel => exact ⟨j + 1, by omega, by go_num, Lib.hid (by rw [HFY.out]; exact hO3.out), B3⟩
        case measure => simp [intOf]; omega
      · have HFY := Lib.hid (show (l.take (j + 1)).filter (fun b => !(decide (b ∈ m))) = (l.take j).filter (fun b => !(decide (b ∈ m))) ++ [k] by
          rw [List.take_succ_eq_append_getElem hlt, HK.out, List.filter_append]
          simp [hin])
        have HIN := Lib.hid (show decide (k ∈ m) = false by simpa using hin)
        generalize (l.take j).filter (fun b => !(decide (b ∈ m))) = F at *
        clear hin
        go_wp2_with fail
        refine (refHasBar A' c' m k _ (by omega) (HM.out.below (hbT2w hb)).2.2.2).mono ?_
        rintro e w3 ⟨rfl, hb3⟩
        rw [HIN.out]
        have e0 := (hb3.cell (p := ⟨b, off + j * 3, none⟩) hbr).trans d0
        have e1 := (hb3.cell (p := ⟨b, off + j * 3 + 1, none⟩) hbr).trans d1
        have e2 := (hb3.cell (p := ⟨b, off + j * 3 + 2, none⟩) hbr).trans d2
        have hO3 := ownsRow_below hown.out hb3
        have hz3 := hb3.size
        have B3 := hb.trans (hb3.mono hbz)
        clear d0 d1 d2 hown
        go_wp2_with (at_builtin; refine wpList_append_own _ rfl _ _ 22 rfl w.heap.size 24 ib (.agg #[.int .i64 0, .int .i64 0, .int .i64 0]) 3 24 Tryz.underlying22 HIB.out HB0.out HB1.out HB2.out rfl (by decide) _ _ _ rfl (World.ownsRow.alloc hO3 _) ⟨w3.heap.size, 0, none⟩ 1 1 [.int .i64 k.x, .int .i64 k.y, .int .i64 k.s] rfl rfl (three_new _ _ _ _ _) ?c2 ?c3 ?c4 ?c5 ?_)
        case c2 => intro u hu; simp at hu; rcases hu with rfl | rfl | rfl <;> rfl
        case c3 => unfold maxLen; omega
        case c4 => omega
        case c5 => simp; omega
        intro v' w6 hown6 hgrow6 _
        have B6 : Below w.heap.size w w6 := (B3.alloc (by omega) _).grown hgrow6 (by simp; omega) (ownsRow_base hO3)
        have HO6 := Lib.hid hown6
        clear hown6 hgrow6 hO3
        go_wp2
        go_roundw
        case rel => exact ⟨j + 1, by omega, by go_num, Lib.hid (by rw [HFY.out, List.length_append, bcellsL_snoc]; exact HO6.out), B6⟩
        case measure => simp [intOf]; omega
    · obtain rfl : j = l.length := by omega
      have h9 := hown.out
      rw [List.take_length] at h9
      have HO := Lib.hid h9
      clear h9
      go_wp2
      go_ret
      exact ⟨_, rfl, HO.out, hb⟩
set_option maxHeartbeats 4000000 in
set_option maxRecDepth 100000 in
theorem refMeet (A A' : Option Addr) (c c' : Nat) (l m : List Ck.Bar) (w : World) (hl : l.length ≤ 4096) (hm : m.length ≤ 4096) (h : OKS w A c l) (h' : OKS w A' c' m) :
    Calls Tryz.prog 62 #[.slice A l.length c, .slice A' m.length c'] w (SlicePost (l.filter (fun b => decide (b ∈ m))) w) := by
  refine Calls.mono (R := fun e w' => ∃ v, e = .returned v ∧ w'.ownsRow w.heap.size 24 3 v (l.filter (fun b => decide (b ∈ m))).length (bcellsL (l.filter (fun b => decide (b ∈ m)))) ∧ Below w.heap.size w w') ?_ (fun e w' ⟨v, he, ho, hb⟩ => by
    obtain ⟨a, c', rfl, hok⟩ := own_oks ho
    exact ⟨a, c', he, hok, hb⟩)
  obtain ⟨ib, hib, hb0, hb01, hb02⟩ := info_parts Tryz.info24
  have HIB := Lib.hid hib
  have HB0 := Lib.hid hb0
  have HB1 := Lib.hid hb01
  have HB2 := Lib.hid hb02
  have HR := Lib.hid h
  have HM := Lib.hid h'
  have hl' : (l.length : Int) ≤ 4096 := by omega
  clear hib hb0 hb01 hb02 h h'
  have hbT2w : ∀ {W : World}, Below w.heap.size w W → Below w.heap.size w W := fun h => h
  go_enter Tryz.func62, Tryz.ntmps62
  go_wp2_with fail
  go_loopw [5, 6] (fun v i wr => ∃ j : Nat, j ≤ l.length ∧ i = .int .i64 j ∧ Hid (wr.ownsRow w.heap.size 24 3 v ((l.take j).filter (fun b => decide (b ∈ m))).length (bcellsL ((l.take j).filter (fun b => decide (b ∈ m))))) ∧ Below w.heap.size w wr) (fun _ i _ => l.length - (intOf i).toNat)
  case atStart => exact ⟨0, Nat.zero_le _, rfl, Lib.hid ⟨rfl, .inl ⟨rfl, rfl⟩⟩, Below.refl _ _⟩
  case round =>
    obtain ⟨j, hj, rfl, hown, hb⟩ := hrel
    have hbz := hb.size
    have hln := List.length_filter_le (fun b => decide (b ∈ m)) (l.take j)
    have hln2 : (l.take j).length ≤ 4096 := by rw [List.length_take]; omega
    by_cases hlt : j < l.length
    · obtain ⟨b, off, rfl, hB, hc⟩ := (HR.out.2.2.2.below hb) (by omega)
      obtain ⟨d0, d1, d2⟩ := hc j hlt
      have hbr : b < wr.heap.size := by omega
      have hj1 : (j : Int) < (l.length : Int) := by omega
      have hj0 : (0 : Int) ≤ (j : Int) := by omega
      clear hc
      obtain ⟨k, hk⟩ : ∃ k, l[j] = k := ⟨_, rfl⟩
      have HK := Lib.hid hk
      rw [hk] at d0 d1 d2
      clear hk
      by_cases hin : k ∈ m
      · have HFY := Lib.hid (show (l.take (j + 1)).filter (fun b => decide (b ∈ m)) = (l.take j).filter (fun b => decide (b ∈ m)) ++ [k] by
          rw [List.take_succ_eq_append_getElem hlt, HK.out, List.filter_append]
          simp [hin])
        have HIN := Lib.hid (show decide (k ∈ m) = true by simpa using hin)
        generalize (l.take j).filter (fun b => decide (b ∈ m)) = F at *
        clear hin
        go_wp2_with fail
        refine (refHasBar A' c' m k _ (by omega) (HM.out.below (hbT2w hb)).2.2.2).mono ?_
        rintro e w3 ⟨rfl, hb3⟩
        rw [HIN.out]
        have e0 := (hb3.cell (p := ⟨b, off + j * 3, none⟩) hbr).trans d0
        have e1 := (hb3.cell (p := ⟨b, off + j * 3 + 1, none⟩) hbr).trans d1
        have e2 := (hb3.cell (p := ⟨b, off + j * 3 + 2, none⟩) hbr).trans d2
        have hO3 := ownsRow_below hown.out hb3
        have hz3 := hb3.size
        have B3 := hb.trans (hb3.mono hbz)
        clear d0 d1 d2 hown
        go_wp2_with (at_builtin; refine wpList_append_own _ rfl _ _ 22 rfl w.heap.size 24 ib (.agg #[.int .i64 0, .int .i64 0, .int .i64 0]) 3 24 Tryz.underlying22 HIB.out HB0.out HB1.out HB2.out rfl (by decide) _ _ _ rfl (World.ownsRow.alloc hO3 _) ⟨w3.heap.size, 0, none⟩ 1 1 [.int .i64 k.x, .int .i64 k.y, .int .i64 k.s] rfl rfl (three_new _ _ _ _ _) ?c2 ?c3 ?c4 ?c5 ?_)
        case c2 => intro u hu; simp at hu; rcases hu with rfl | rfl | rfl <;> rfl
        case c3 => unfold maxLen; omega
        case c4 => omega
        case c5 => simp; omega
        intro v' w6 hown6 hgrow6 _
        have B6 : Below w.heap.size w w6 := (B3.alloc (by omega) _).grown hgrow6 (by simp; omega) (ownsRow_base hO3)
        have HO6 := Lib.hid hown6
        clear hown6 hgrow6 hO3
        go_wp2
        go_roundw
        case rel => exact ⟨j + 1, by omega, by go_num, Lib.hid (by rw [HFY.out, List.length_append, bcellsL_snoc]; exact HO6.out), B6⟩
        case measure => simp [intOf]; omega
      · have HFY := Lib.hid (show (l.take (j + 1)).filter (fun b => decide (b ∈ m)) = (l.take j).filter (fun b => decide (b ∈ m)) by
          rw [List.take_succ_eq_append_getElem hlt, HK.out, List.filter_append]
          simp [hin])
        have HIN := Lib.hid (show decide (k ∈ m) = false by simpa using hin)
        generalize (l.take j).filter (fun b => decide (b ∈ m)) = F at *
        clear hin
        go_wp2_with fail
        refine (refHasBar A' c' m k _ (by omega) (HM.out.below (hbT2w hb)).2.2.2).mono ?_
        rintro e w3 ⟨rfl, hb3⟩
        rw [HIN.out]
        have hO3 := Lib.hid (ownsRow_below hown.out hb3)
        have B3 := hb.trans (hb3.mono hbz)
        clear d0 d1 d2 hown
        go_wp2
        go_roundw
        case rel => exact ⟨j + 1, by omega, by go_num, Lib.hid (by rw [HFY.out]; exact hO3.out), B3⟩
        case measure => simp [intOf]; omega
    · obtain rfl : j = l.length := by omega
      have h9 := hown.out
      rw [List.take_length] at h9
      have HO := Lib.hid h9
      clear h9
      go_wp2
      go_ret
      exact ⟨_, rfl, HO.out, hb⟩
set_option maxHeartbeats 4000000 in
set_option maxRecDepth 100000 in
theorem refUnion (A A' : Option Addr) (c c' : Nat) (l m : List Ck.Bar) (w : World) (hl : l.length ≤ 2000) (hm : m.length ≤ 2000) (h : OKS w A c l) (h' : OKS w A' c' m) :
    Calls Tryz.prog 60 #[.slice A l.length c, .slice A' m.length c'] w (SlicePost (srtL (l ++ m)) w) := by
  obtain ⟨ib, hib, hb0, hb01, hb02⟩ := info_parts Tryz.info24
  have HIB := Lib.hid hib
  have HB0 := Lib.hid hb0
  have HB1 := Lib.hid hb01
  have HB2 := Lib.hid hb02
  have HR := Lib.hid h
  have HM := Lib.hid h'
  clear hib hb0 hb01 hb02 h h'
  go_enter Tryz.func60, Tryz.ntmps60
  have hbe := bel_new w (.cells #[] 24)
  have HRe := Lib.hid (HR.out.below hbe)
  go_wp2_with (at_builtin; refine wpList_append_gen rfl _ _ 22 rfl w.heap.size 24 ib (.agg #[.int .i64 0, .int .i64 0, .int .i64 0]) 3 24 Tryz.underlying22 HIB.out HB0.out HB1.out HB2.out rfl (by decide) _ 0 [] rfl (by exact empty_row _ _ (Nat.le_refl _) _ _) A l.length c (bcellsL l) rfl (bcellsL_length l) (none_oks HRe.out) (news_oks HRe.out) (bcellsL_one l) ?c1 ?c2 ?c3 ?_)
  case c1 => unfold maxLen; omega
  case c2 => omega
  case c3 => simp
  intro v1 w1 hown1 hgrow1
  have HO1 := Lib.hid (show w1.ownsRow w.heap.size 24 3 v1 l.length (bcellsL l) by simpa using hown1)
  have hb1 : Below w.heap.size w w1 := hbe.grown hgrow1 (by simp) (ownsRow_base (empty_row w w.heap.size (Nat.le_refl _) 24 3))
  have HM1 := Lib.hid (HM.out.below hb1)
  have hz1 := hb1.size
  clear hown1 hgrow1 hbe
  go_wp2_with (at_builtin; refine wpList_append_gen rfl _ _ 22 rfl w.heap.size 24 ib (.agg #[.int .i64 0, .int .i64 0, .int .i64 0]) 3 24 Tryz.underlying22 HIB.out HB0.out HB1.out HB2.out rfl (by decide) v1 l.length (bcellsL l) rfl HO1.out A' m.length c' (bcellsL m) rfl (bcellsL_length m) (none_oks HM1.out) (news_oks HM1.out) (bcellsL_one m) ?d1 ?d2 ?d3 ?_)
  case d1 => unfold maxLen; omega
  case d2 => omega
  case d3 => exact hz1
  intro v2 w2 hown2 hgrow2
  have hb2 : Below w.heap.size w w2 := hb1.grown hgrow2 hz1 (ownsRow_base HO1.out)
  have hrow : w2.ownsRow w.heap.size 24 3 v2 (l ++ m).length (bcellsL (l ++ m)) := by
    rw [List.length_append, bcellsL_app]
    simpa using hown2
  obtain ⟨a2, c2, rfl, ok2⟩ := own_oks hrow
  have HO2 := Lib.hid ok2.2.2.2
  have hL := Lib.hid (show (l ++ m).length ≤ 4096 by rw [List.length_append]; omega)
  clear hown2 hgrow2 hrow ok2
  generalize l ++ m = u at *
  go_wp2_with fail
  refine (refSorted a2 c2 u _ hL.out HO2.out).mono ?_
  rintro e w3 ⟨v3, rfl, hrow3, hb3⟩
  obtain ⟨a3, c3, rfl, ok3⟩ := own_oks hrow3
  have HO3 := Lib.hid ok3
  clear hrow3 ok3
  go_wp2
  go_ret
  exact ⟨a3, c3, rfl, HO3.out, hb2.trans (hb3.mono hb2.size)⟩
end Go.Proofs.YtdeplhihcifmeaaGreatDoor

/- The contract of merge where what both lists have is kept. -/
namespace Go.Proofs.YtdeplhihcifmeaaGreatDoor
open Go.RowKit

def mergeI : List Ck.Bar → List Ck.Bar → List Ck.Bar
  | [], _ => []
  | _ :: _, [] => []
  | a :: r, b :: r' => if cmpB a b < 0 then mergeI r (b :: r') else if 0 < cmpB a b then mergeI (a :: r) r' else a :: mergeI r r'
termination_by l l' => l.length + l'.length
theorem mergeI_nil (l : List Ck.Bar) : mergeI l [] = [] := by cases l <;> simp [mergeI]
theorem headsI_neg {ra rb : List Ck.Bar} (h : headsE ra rb < 0) : ∃ a r, ra = a :: r ∧ mergeI ra rb = mergeI r rb := by
  match ra, rb, h with
  | [], _, h => simp [headsE] at h
  | a :: r, [], _ => exact ⟨a, r, rfl, by rw [mergeI_nil, mergeI_nil]⟩
  | a :: r, b :: r', h =>
    have h' : cmpB a b < 0 := h
    exact ⟨a, r, rfl, by rw [mergeI, if_pos h']⟩
theorem headsI_pos {ra rb : List Ck.Bar} (h : 0 < headsE ra rb) (hne : 0 < ra.length + rb.length) : ∃ b r', rb = b :: r' ∧ mergeI ra rb = mergeI ra r' := by
  match ra, rb, h with
  | [], [], _ => simp at hne
  | [], b :: r', _ => exact ⟨b, r', rfl, by simp [mergeI]⟩
  | a :: r, [], h => simp [headsE] at h
  | a :: r, b :: r', h =>
    have h' : 0 < cmpB a b := h
    exact ⟨b, r', rfl, by rw [mergeI, if_neg (by omega), if_pos h']⟩
theorem headsI_zero {ra rb : List Ck.Bar} (h : headsE ra rb = 0) : ∃ a r r', ra = a :: r ∧ rb = a :: r' ∧ mergeI ra rb = a :: mergeI r r' := by
  match ra, rb, h with
  | [], _, h => simp [headsE] at h
  | a :: r, [], h => simp [headsE] at h
  | a :: r, b :: r', h =>
    have h' : cmpB a b = 0 := h
    have e := (cmpB_zero _ _).1 h'
    subst e
    exact ⟨a, r, r', rfl, rfl, by rw [mergeI, if_neg (by omega), if_neg (by omega)]⟩

set_option maxHeartbeats 400000 in
theorem keepMeet (x y : Bool) (w : World) : Calls Tryz.prog 110 #[.bool x, .bool y] w fun e w' => e = .returned (.bool (x && y)) ∧ w = w' := by
  cases x
  all_goals
    go_enter Tryz.func110, Tryz.ntmps110
    go_wp2
    go_ret
    exact ⟨rfl, rfl⟩
theorem keepI10 (w : World) : Calls Tryz.prog 110 #[.bool true, .bool false] w fun e w' => e = .returned (.bool false) ∧ w = w' := keepMeet true false w
theorem keepI11 (w : World) : Calls Tryz.prog 110 #[.bool true, .bool true] w fun e w' => e = .returned (.bool true) ∧ w = w' := keepMeet true true w
theorem keepI01 (w : World) : Calls Tryz.prog 110 #[.bool false, .bool true] w fun e w' => e = .returned (.bool false) ∧ w = w' := keepMeet false true w

def MrgIPost (l l' : List Ck.Bar) (w : World) (e : Ending) (w' : World) : Prop :=
  ∃ v, e = .returned v ∧ w'.ownsRow w.heap.size 24 3 v (mergeI l l').length (bcellsL (mergeI l l')) ∧ Below w.heap.size w w'
def mrgIRel (l0 l0' : List Ck.Bar) (w : World) (g : Nat) (va vb vo : Value) (wi : World) : Prop :=
  ∃ A A' c c' ra rb out, g = ra.length + rb.length ∧ va = .slice A ra.length c ∧ vb = .slice A' rb.length c' ∧ ra.length ≤ c ∧ c ≤ 9223372036854775807 ∧ rb.length ≤ c' ∧ c' ≤ 9223372036854775807 ∧ RB wi w.heap.size A ra ∧ RB wi w.heap.size A' rb ∧
    mergeI l0 l0' = out ++ mergeI ra rb ∧ out.length + ra.length + rb.length ≤ l0.length + l0'.length ∧ wi.ownsRow w.heap.size 24 3 vo out.length (bcellsL out) ∧ Below w.heap.size w wi

set_option maxHeartbeats 4000000 in
set_option maxRecDepth 100000 in
theorem netMergeI (A A' : Option Addr) (c c' : Nat) (l l' : List Ck.Bar) (w : World) (hl : l.length ≤ 4096) (hl' : l'.length ≤ 4096) (hc : l.length ≤ c) (hcm : c ≤ maxLen) (hc' : l'.length ≤ c') (hcm' : c' ≤ maxLen) (h : RB w w.heap.size A l) (h' : RB w w.heap.size A' l') :
    Calls Tryz.prog 144 #[.slice A l.length c, .slice A' l'.length c', .func (.func 131) #[] #[], .func (.func 110) #[] #[]] w (MrgIPost l l' w) := by
  obtain ⟨ib, hib, hb0, hb01, hb02⟩ := info_parts Tryz.info24
  have HIB := Lib.hid hib
  have HB0 := Lib.hid hb0
  have HB1 := Lib.hid hb01
  have HB2 := Lib.hid hb02
  have HR := Lib.hid h
  have HR' := Lib.hid h'
  clear hib hb0 hb01 hb02 h h'
  unfold maxLen at hcm hcm'
  go_enter Tryz.func144, Tryz.ntmps144
  go_wp2_with fail
  go_loopg [0, 1, 9, 10, 11] (l.length + l'.length) (fun g va vb vo _ _ wi => mrgIRel l l' w g va vb vo wi)
  case atStart => exact ⟨A, A', c, c', l, l', [], rfl, rfl, rfl, hc, hcm, hc', hcm', HR.out, HR'.out, rfl, by simp, World.ownsRow_nil _ _ _ _, Below.refl _ _⟩
  case round =>
    obtain ⟨A1, A2, c1, c2, ra, rb, out, hg, rfl, rfl, k1, k2, k3, k4, r1, r2, hm, hlen, hown, hb⟩ := hrel
    have HG := Lib.hid hg
    have HM := Lib.hid hm
    have HO := Lib.hid hown
    have HA := Lib.hid r1
    have HB := Lib.hid r2
    have hbz := hb.size
    clear hg hm hown r1 r2
    by_cases hne : 0 < ra.length + rb.length
    · rcases Int.lt_trichotomy (headsE ra rb) 0 with ho | ho | ho
      · obtain ⟨a, r, rfl, hmu⟩ := headsI_neg ho
        have HMU := Lib.hid hmu
        have ho1 : (headsE (a :: r) rb ≤ 0) := by omega
        have ho2 : ¬ (0 ≤ headsE (a :: r) rb) := by omega
        have HRA := HA.out.head
        clear hmu
        obtain ⟨b, off, rfl, hbb, d0, d1, d2, ht⟩ := HRA
        have HT := Lib.hid ht
        clear ht
        generalize hoe : headsE (a :: r) rb = o at ho ho1 ho2
        have hd1 : decide (0 ≤ o) = false := decide_eq_false (by omega)
        have HOE := Lib.hid hoe
        clear hoe
        go_wp2_with fail
        refine (netHeads (some ⟨b, off, none⟩) A2 c1 c2 (a :: r) rb _ (by simp at hlen ⊢; omega) (by simp at hlen; omega) (HA.out.more hbz) (HB.out.more hbz)).mono ?_
        rintro e w2 ⟨rfl, hb2⟩
        rw [HOE.out]
        have hz2 := hb2.size
        have e0 := (hb2.cell (p := ⟨b, off, none⟩) (by show b < _; omega)).trans d0
        have e1 := (hb2.cell (p := ⟨b, off + 1, none⟩) (by show b < _; omega)).trans d1
        have e2 := (hb2.cell (p := ⟨b, off + 2, none⟩) (by show b < _; omega)).trans d2
        clear d0 d1 d2
        obtain ⟨w3, hw3⟩ : ∃ w3, w3 = w2.alloc (.cells #[.int .i64 0, .int .i64 0, .int .i64 0] 24) := ⟨_, rfl⟩
        have hx : w3.heap[w2.heap.size]? = some (.cells #[.int .i64 0, .int .i64 0, .int .i64 0] 24 (0, 0)) := by rw [hw3]; exact heap_alloc_new _ _
        have hb3 : Below w2.heap.size w2 w3 := by rw [hw3]; exact (Below.refl _ _).alloc (Nat.le_refl _) _
        have hz3 : w2.heap.size < w3.heap.size := by rw [hw3]; simp
        obtain ⟨W, hW, hxW, hbW, hzW⟩ := put3 hx (.int .i64 a.x) (.int .i64 a.y) (.int .i64 a.s)
        obtain ⟨f0, f1, f2, ff⟩ := three_of_block hx
        obtain ⟨g0, g1, g2, _⟩ := three_of_block hxW
        have HW3 := Lib.hid hw3
        have HWW := Lib.hid hW
        have HZW := Lib.hid hzW
        clear hzW
        replace e0 := (hb3.cell (p := ⟨b, off, none⟩) (by show b < _; omega)).trans e0
        replace e1 := (hb3.cell (p := ⟨b, off + 1, none⟩) (by show b < _; omega)).trans e1
        replace e2 := (hb3.cell (p := ⟨b, off + 2, none⟩) (by show b < _; omega)).trans e2
        have hq : Below wr.heap.size wr W := (hb2.trans (hb3.mono hz2)).trans (hbW.mono hz2)
        have HOW := Lib.hid (ownsRow_below HO.out hq)
        have hbw := hb.trans (hq.mono hbz)
        have HTW := Lib.hid ((HT.out.below (hq.mono hbz)))
        have HBW := Lib.hid ((HB.out.below (hq.mono hbz)))
        have hi1 : (0 : Int) < (r.length : Int) + 1 := by omega
        have hi2 : (1 : Int) ≤ (r.length : Int) + 1 := by omega
        have hi3 : (r.length : Int) + 1 ≤ (c1 : Int) := by simp at k1; omega
        clear hw3 hW hx hxW
        go_wp2_with fail
        rw [← HW3.out]
        go_region
        rw [← HWW.out]
        generalize hA1 : (if c1 = 1 then some (⟨b, off, none⟩ : Addr) else some ⟨b, off + 3, none⟩) = A1
        have HRA1 := Lib.hid (HTW.out.cut1 (c := c1) (by simp at k1; omega) A1 (fun hne => by rw [← hA1, if_neg hne]))
        clear hA1 e0 e1 e2
        go_wp2_with (go_at_call 110; refine (keepI10 _).mono ?_; rintro e w' ⟨rfl, rfl⟩)
        go_roundg (r.length + rb.length)
        case measure => rw [HG.out]; simp only [List.length_cons]; omega
        case rel => exact ⟨A1, A2, c1 - 1, c2, r, rb, out, rfl, rfl, rfl, by simp at k1; omega, by omega, k3, k4, HRA1.out, HBW.out, by rw [HM.out, HMU.out], by simp at hlen ⊢; omega, HOW.out, by first | exact hbw | exact below_drew hbw | exact below_drew (below_drew hbw)⟩
      · obtain ⟨a, r, r', rfl, rfl, hmu⟩ := headsI_zero ho
        have HMU := Lib.hid hmu
        have ho1 : (headsE (a :: r) (a :: r') ≤ 0) := by omega
        have ho2 : (0 ≤ headsE (a :: r) (a :: r')) := by omega
        have HRA := HA.out.head
        have HRB := HB.out.head
        clear hmu
        obtain ⟨b, off, rfl, hbb, d0, d1, d2, ht⟩ := HRA
        have HT := Lib.hid ht
        clear ht
        obtain ⟨b', off', rfl, hbb', d0', d1', d2', ht'⟩ := HRB
        have HT' := Lib.hid ht'
        clear ht'
        generalize hoe : headsE (a :: r) (a :: r') = o at ho ho1 ho2
        have HOE := Lib.hid hoe
        clear hoe
        go_wp2_with fail
        refine (netHeads (some ⟨b, off, none⟩) (some ⟨b', off', none⟩) c1 c2 (a :: r) (a :: r') _ (by simp at hlen ⊢; omega) (by simp at hlen ⊢; omega) (HA.out.more hbz) (HB.out.more hbz)).mono ?_
        rintro e w2 ⟨rfl, hb2⟩
        rw [HOE.out]
        have hz2 := hb2.size
        have e0 := (hb2.cell (p := ⟨b, off, none⟩) (by show b < _; omega)).trans d0
        have e0' := (hb2.cell (p := ⟨b', off', none⟩) (by show b' < _; omega)).trans d0'
        have e1 := (hb2.cell (p := ⟨b, off + 1, none⟩) (by show b < _; omega)).trans d1
        have e1' := (hb2.cell (p := ⟨b', off' + 1, none⟩) (by show b' < _; omega)).trans d1'
        have e2 := (hb2.cell (p := ⟨b, off + 2, none⟩) (by show b < _; omega)).trans d2
        have e2' := (hb2.cell (p := ⟨b', off' + 2, none⟩) (by show b' < _; omega)).trans d2'
        clear d0 d1 d2 d0' d1' d2'
        obtain ⟨w3, hw3⟩ : ∃ w3, w3 = w2.alloc (.cells #[.int .i64 0, .int .i64 0, .int .i64 0] 24) := ⟨_, rfl⟩
        have hx : w3.heap[w2.heap.size]? = some (.cells #[.int .i64 0, .int .i64 0, .int .i64 0] 24 (0, 0)) := by rw [hw3]; exact heap_alloc_new _ _
        have hb3 : Below w2.heap.size w2 w3 := by rw [hw3]; exact (Below.refl _ _).alloc (Nat.le_refl _) _
        have hz3 : w2.heap.size < w3.heap.size := by rw [hw3]; simp
        obtain ⟨W, hW, hxW, hbW, hzW⟩ := put3 hx (.int .i64 a.x) (.int .i64 a.y) (.int .i64 a.s)
        obtain ⟨f0, f1, f2, ff⟩ := three_of_block hx
        obtain ⟨g0, g1, g2, gf⟩ := three_of_block hxW
        obtain ⟨V, hV, hxV, hbV, hzV⟩ := put3 hxW (.int .i64 a.x) (.int .i64 a.y) (.int .i64 a.s)
        obtain ⟨q0, q1, q2, _⟩ := three_of_block hxV
        have HVV := Lib.hid hV
        clear hV hzV
        have HW3 := Lib.hid hw3
        have HWW := Lib.hid hW
        have HZW := Lib.hid hzW
        clear hzW
        replace e0 := (hb3.cell (p := ⟨b, off, none⟩) (by show b < _; omega)).trans e0
        replace e0' := (hbW.cell (p := ⟨b', off', none⟩) (by show b' < _; omega)).trans ((hb3.cell (p := ⟨b', off', none⟩) (by show b' < _; omega)).trans e0')
        replace e1 := (hb3.cell (p := ⟨b, off + 1, none⟩) (by show b < _; omega)).trans e1
        replace e1' := (hbW.cell (p := ⟨b', off' + 1, none⟩) (by show b' < _; omega)).trans ((hb3.cell (p := ⟨b', off' + 1, none⟩) (by show b' < _; omega)).trans e1')
        replace e2 := (hb3.cell (p := ⟨b, off + 2, none⟩) (by show b < _; omega)).trans e2
        replace e2' := (hbW.cell (p := ⟨b', off' + 2, none⟩) (by show b' < _; omega)).trans ((hb3.cell (p := ⟨b', off' + 2, none⟩) (by show b' < _; omega)).trans e2')
        have hq : Below wr.heap.size wr W := (hb2.trans (hb3.mono hz2)).trans (hbW.mono hz2)
        have hqv : Below wr.heap.size wr V := hq.trans (hbV.mono hz2)
        have HOW := Lib.hid (ownsRow_below HO.out hqv)
        have hbw := hb.trans (hqv.mono hbz)
        have HTW := Lib.hid ((HT.out.below (hqv.mono hbz)))
        have HBW := Lib.hid ((HT'.out.below (hqv.mono hbz)))
        have hi4 : (0 : Int) < (r'.length : Int) + 1 := by omega
        have hi5 : (1 : Int) ≤ (r'.length : Int) + 1 := by omega
        have hi6 : (r'.length : Int) + 1 ≤ (c2 : Int) := by simp at k3; omega
        have hi1 : (0 : Int) < (r.length : Int) + 1 := by omega
        have hi2 : (1 : Int) ≤ (r.length : Int) + 1 := by omega
        have hi3 : (r.length : Int) + 1 ≤ (c1 : Int) := by simp at k1; omega
        clear hw3 hW hx hxW
        go_wp2_with fail
        rw [← HW3.out]
        go_region
        rw [← HWW.out]
        generalize hA1 : (if c1 = 1 then some (⟨b, off, none⟩ : Addr) else some ⟨b, off + 3, none⟩) = A1
        have HRA1 := Lib.hid (HTW.out.cut1 (c := c1) (by simp at k1; omega) A1 (fun hne => by rw [← hA1, if_neg hne]))
        clear hA1 e0 e1 e2
        go_wp2_with fail
        go_region
        rw [← HVV.out]
        generalize hA3 : (if c2 = 1 then some (⟨b', off', none⟩ : Addr) else some ⟨b', off' + 3, none⟩) = A3
        have HRA3 := Lib.hid (HBW.out.cut1 (c := c2) (by simp at k3; omega) A3 (fun hne => by rw [← hA3, if_neg hne]))
        clear hA3 e0' e1' e2'
        go_wp2_with (first
          | (go_at_call 110; refine (keepI11 _).mono ?_; rintro e w' ⟨rfl, rfl⟩)
          | (at_builtin; refine wpList_append_own _ rfl _ _ 22 rfl w.heap.size 24 ib (.agg #[.int .i64 0, .int .i64 0, .int .i64 0]) 3 24 Tryz.underlying22 HIB.out HB0.out HB1.out HB2.out rfl (by decide) _ _ _ rfl (by exact HOW.out.alloc _) ⟨V.heap.size, 0, none⟩ 1 1 [.int .i64 a.x, .int .i64 a.y, .int .i64 a.s] rfl rfl ?c1 ?c2 ?c3 ?c4 ?c5 ?_))
        case c1 => exact three_new _ _ _ _ _
        case c2 => intro u hu; simp at hu; rcases hu with rfl | rfl | rfl <;> rfl
        case c3 => unfold maxLen; simp at hlen; omega
        case c4 => simp at hlen; omega
        case c5 => have := hbw.size; simp; omega
        intro v' w4 hown4 hgrow4 _
        have hq4 : Below w.heap.size w w4 := (below_drew (below_drew (hbw.alloc hbw.size (.cells #[.int .i64 a.x, .int .i64 a.y, .int .i64 a.s] 24)))).grown hgrow4 (by have := hbw.size; simp; omega) (ownsRow_base HOW.out)
        have hsame : ∀ {X : Option Addr} {q : List Ck.Bar}, RB V w.heap.size X q → RB w4 w.heap.size X q := fun hX => by
          intro hl
          obtain ⟨b9, off9, e', hb', hc'⟩ := hX hl
          have hk : ∀ o, w4.cell? ⟨b9, o, none⟩ = V.cell? ⟨b9, o, none⟩ := fun o => (hq4.cell (p := ⟨b9, o, none⟩) hb').trans (hbw.cell (p := ⟨b9, o, none⟩) hb').symm
          exact ⟨b9, off9, e', hb', fun i hi => ⟨(hk _).trans (hc' i hi).1, (hk _).trans (hc' i hi).2.1, (hk _).trans (hc' i hi).2.2⟩⟩
        have HRA4 := Lib.hid (hsame HRA1.out)
        have HRB4 := Lib.hid (hsame HRA3.out)
        have HO4 := Lib.hid hown4
        clear hown4 hgrow4 hsame
        go_wp2
        go_roundg (r.length + r'.length)
        case measure => rw [HG.out]; simp only [List.length_cons]; omega
        case rel => exact ⟨A1, A3, c1 - 1, c2 - 1, r, r', out ++ [a], rfl, rfl, rfl, by simp at k1; omega, by omega, by simp at k3; omega, by omega, HRA4.out, HRB4.out, by rw [HM.out, HMU.out]; simp, by simp at hlen ⊢; omega, by rw [bcellsL_snoc, List.length_append]; exact HO4.out, hq4⟩
      · obtain ⟨a, r, rfl, hmu⟩ := headsI_pos ho hne
        rcases ra with _ | ⟨x, rx⟩
        · skip
          have HMU := Lib.hid hmu
          have ho1 : ¬ (headsE ([] : List Ck.Bar) (a :: r) ≤ 0) := by omega
          have ho2 : (0 ≤ headsE ([] : List Ck.Bar) (a :: r)) := by omega
          have HRA := HB.out.head
          clear hmu
          obtain ⟨b, off, rfl, hbb, d0, d1, d2, ht⟩ := HRA
          have HT := Lib.hid ht
          clear ht
          generalize hoe : headsE ([] : List Ck.Bar) (a :: r) = o at ho ho1 ho2
          have hd1 : decide (o ≤ 0) = false := decide_eq_false (by omega)
          have HOE := Lib.hid hoe
          clear hoe
          go_wp2_with fail
          refine (netHeads A1 (some ⟨b, off, none⟩) c1 c2 ([] : List Ck.Bar) (a :: r) _ (by simp only [List.length_cons, List.length_nil] at hlen ⊢; omega) (by simp only [List.length_cons, List.length_nil] at hlen ⊢; omega) (HA.out.more hbz) (HB.out.more hbz)).mono ?_
          rintro e w2 ⟨rfl, hb2⟩
          rw [HOE.out]
          have hz2 := hb2.size
          have e0 := (hb2.cell (p := ⟨b, off, none⟩) (by show b < _; omega)).trans d0
          have e1 := (hb2.cell (p := ⟨b, off + 1, none⟩) (by show b < _; omega)).trans d1
          have e2 := (hb2.cell (p := ⟨b, off + 2, none⟩) (by show b < _; omega)).trans d2
          clear d0 d1 d2
          obtain ⟨w3, hw3⟩ : ∃ w3, w3 = w2.alloc (.cells #[.int .i64 0, .int .i64 0, .int .i64 0] 24) := ⟨_, rfl⟩
          have hx : w3.heap[w2.heap.size]? = some (.cells #[.int .i64 0, .int .i64 0, .int .i64 0] 24 (0, 0)) := by rw [hw3]; exact heap_alloc_new _ _
          have hb3 : Below w2.heap.size w2 w3 := by rw [hw3]; exact (Below.refl _ _).alloc (Nat.le_refl _) _
          have hz3 : w2.heap.size < w3.heap.size := by rw [hw3]; simp
          obtain ⟨W, hW, hxW, hbW, hzW⟩ := put3 hx (.int .i64 a.x) (.int .i64 a.y) (.int .i64 a.s)
          obtain ⟨f0, f1, f2, ff⟩ := three_of_block hx
          obtain ⟨g0, g1, g2, _⟩ := three_of_block hxW
          have HW3 := Lib.hid hw3
          have HWW := Lib.hid hW
          have HZW := Lib.hid hzW
          clear hzW
          replace e0 := (hb3.cell (p := ⟨b, off, none⟩) (by show b < _; omega)).trans e0
          replace e1 := (hb3.cell (p := ⟨b, off + 1, none⟩) (by show b < _; omega)).trans e1
          replace e2 := (hb3.cell (p := ⟨b, off + 2, none⟩) (by show b < _; omega)).trans e2
          have hq : Below wr.heap.size wr W := (hb2.trans (hb3.mono hz2)).trans (hbW.mono hz2)
          have HOW := Lib.hid (ownsRow_below HO.out hq)
          have hbw := hb.trans (hq.mono hbz)
          have HTW := Lib.hid ((HT.out.below (hq.mono hbz)))
          have HBW := Lib.hid ((HA.out.below (hq.mono hbz)))
          have hi1 : (0 : Int) < (r.length : Int) + 1 := by omega
          have hi2 : (1 : Int) ≤ (r.length : Int) + 1 := by omega
          have hi3 : (r.length : Int) + 1 ≤ (c2 : Int) := by simp at k3; omega
          clear hw3 hW hx hxW
          go_wp2_with fail
          rw [← HW3.out]
          go_region
          rw [← HWW.out]
          generalize hA1 : (if c2 = 1 then some (⟨b, off, none⟩ : Addr) else some ⟨b, off + 3, none⟩) = A3
          have HRA1 := Lib.hid (HTW.out.cut1 (c := c2) (by simp at k3; omega) A3 (fun hne => by rw [← hA1, if_neg hne]))
          clear hA1 e0 e1 e2
          go_wp2_with (go_at_call 110; refine (keepI01 _).mono ?_; rintro e w' ⟨rfl, rfl⟩)
          go_roundg (([] : List Ck.Bar).length + r.length)
          case measure => rw [HG.out]; simp only [List.length_cons, List.length_nil]; omega
          case rel => exact ⟨A1, A3, c1, c2 - 1, ([] : List Ck.Bar), r, out, rfl, rfl, rfl, k1, k2, by simp at k3; omega, by omega, HBW.out, HRA1.out, by rw [HM.out, HMU.out], by simp at hlen ⊢; omega, HOW.out, by first | exact hbw | exact below_drew hbw | exact below_drew (below_drew hbw)⟩
        · skip
          have HMU := Lib.hid hmu
          have ho1 : ¬ (headsE (x :: rx) (a :: r) ≤ 0) := by omega
          have ho2 : (0 ≤ headsE (x :: rx) (a :: r)) := by omega
          have HRA := HB.out.head
          clear hmu
          obtain ⟨b, off, rfl, hbb, d0, d1, d2, ht⟩ := HRA
          have HT := Lib.hid ht
          clear ht
          generalize hoe : headsE (x :: rx) (a :: r) = o at ho ho1 ho2
          have hd1 : decide (o ≤ 0) = false := decide_eq_false (by omega)
          have HOE := Lib.hid hoe
          clear hoe
          go_wp2_with fail
          refine (netHeads A1 (some ⟨b, off, none⟩) c1 c2 (x :: rx) (a :: r) _ (by simp only [List.length_cons] at hlen ⊢; omega) (by simp only [List.length_cons] at hlen ⊢; omega) (HA.out.more hbz) (HB.out.more hbz)).mono ?_
          rintro e w2 ⟨rfl, hb2⟩
          rw [HOE.out]
          have hz2 := hb2.size
          have e0 := (hb2.cell (p := ⟨b, off, none⟩) (by show b < _; omega)).trans d0
          have e1 := (hb2.cell (p := ⟨b, off + 1, none⟩) (by show b < _; omega)).trans d1
          have e2 := (hb2.cell (p := ⟨b, off + 2, none⟩) (by show b < _; omega)).trans d2
          clear d0 d1 d2
          obtain ⟨w3, hw3⟩ : ∃ w3, w3 = w2.alloc (.cells #[.int .i64 0, .int .i64 0, .int .i64 0] 24) := ⟨_, rfl⟩
          have hx : w3.heap[w2.heap.size]? = some (.cells #[.int .i64 0, .int .i64 0, .int .i64 0] 24 (0, 0)) := by rw [hw3]; exact heap_alloc_new _ _
          have hb3 : Below w2.heap.size w2 w3 := by rw [hw3]; exact (Below.refl _ _).alloc (Nat.le_refl _) _
          have hz3 : w2.heap.size < w3.heap.size := by rw [hw3]; simp
          obtain ⟨W, hW, hxW, hbW, hzW⟩ := put3 hx (.int .i64 a.x) (.int .i64 a.y) (.int .i64 a.s)
          obtain ⟨f0, f1, f2, ff⟩ := three_of_block hx
          obtain ⟨g0, g1, g2, _⟩ := three_of_block hxW
          have HW3 := Lib.hid hw3
          have HWW := Lib.hid hW
          have HZW := Lib.hid hzW
          clear hzW
          replace e0 := (hb3.cell (p := ⟨b, off, none⟩) (by show b < _; omega)).trans e0
          replace e1 := (hb3.cell (p := ⟨b, off + 1, none⟩) (by show b < _; omega)).trans e1
          replace e2 := (hb3.cell (p := ⟨b, off + 2, none⟩) (by show b < _; omega)).trans e2
          have hq : Below wr.heap.size wr W := (hb2.trans (hb3.mono hz2)).trans (hbW.mono hz2)
          have HOW := Lib.hid (ownsRow_below HO.out hq)
          have hbw := hb.trans (hq.mono hbz)
          have HTW := Lib.hid ((HT.out.below (hq.mono hbz)))
          have HBW := Lib.hid ((HA.out.below (hq.mono hbz)))
          have hi1 : (0 : Int) < (r.length : Int) + 1 := by omega
          have hi2 : (1 : Int) ≤ (r.length : Int) + 1 := by omega
          have hi3 : (r.length : Int) + 1 ≤ (c2 : Int) := by simp at k3; omega
          clear hw3 hW hx hxW
          go_wp2_with fail
          rw [← HW3.out]
          go_region
          rw [← HWW.out]
          generalize hA1 : (if c2 = 1 then some (⟨b, off, none⟩ : Addr) else some ⟨b, off + 3, none⟩) = A3
          have HRA1 := Lib.hid (HTW.out.cut1 (c := c2) (by simp at k3; omega) A3 (fun hne => by rw [← hA1, if_neg hne]))
          clear hA1 e0 e1 e2
          go_wp2_with (go_at_call 110; refine (keepI01 _).mono ?_; rintro e w' ⟨rfl, rfl⟩)
          go_roundg ((x :: rx).length + r.length)
          case measure => rw [HG.out]; simp only [List.length_cons]; omega
          case rel => exact ⟨A1, A3, c1, c2 - 1, (x :: rx), r, out, rfl, rfl, rfl, k1, k2, by simp at k3; omega, by omega, HBW.out, HRA1.out, by rw [HM.out, HMU.out], by simp at hlen ⊢; omega, HOW.out, by first | exact hbw | exact below_drew hbw | exact below_drew (below_drew hbw)⟩
    · have h1 : ra = [] := List.eq_nil_of_length_eq_zero (by omega)
      have h2 : rb = [] := List.eq_nil_of_length_eq_zero (by omega)
      subst h1
      subst h2
      go_wp2
      go_ret
      have hfin := HM.out
      simp only [mergeI, List.append_nil] at hfin
      exact ⟨_, rfl, by rw [hfin]; exact HO.out, hb⟩
end Go.Proofs.YtdeplhihcifmeaaGreatDoor

/- Meet at valid nets. -/
namespace Go.Proofs.YtdeplhihcifmeaaGreatDoor
open Go.RowKit

def MitPost (l l' : List Ck.Bar) (w : World) (e : Ending) (w' : World) : Prop :=
  ∃ v, e = .returned (.tuple #[v, .int .i64 0]) ∧ w'.ownsRow w.heap.size 24 3 v (mergeI l l').length (bcellsL (mergeI l l')) ∧ Below w.heap.size w w'

set_option maxHeartbeats 2000000 in
set_option maxRecDepth 100000 in
theorem netMergedI (A A' : Option Addr) (c c' : Nat) (l l' : List Ck.Bar) (w : World) (hl : l.length ≤ 4096) (hl' : l'.length ≤ 4096) (hc : l.length ≤ c) (hcm : c ≤ maxLen) (hc' : l'.length ≤ c') (hcm' : c' ≤ maxLen) (hN : Ck.Net l) (hN' : Ck.Net l') (h : RB w w.heap.size A l) (h' : RB w w.heap.size A' l') :
    Calls Tryz.prog 107 #[.slice A l.length c, .slice A' l'.length c', .func (.func 110) #[] #[]] w (MitPost l l' w) := by
  have HR := Lib.hid h
  have HR' := Lib.hid h'
  have HE := Lib.hid ((netE_zero l).2 ⟨hl, hN⟩)
  have HE' := Lib.hid ((netE_zero l').2 ⟨hl', hN'⟩)
  clear h h' hN hN'
  go_enter Tryz.func107, Tryz.ntmps107
  go_wp2_with fail
  refine (netCheckNet A c l _ hl hc hcm HR.out).mono ?_
  rintro e w1 ⟨rfl, hb1⟩
  rw [HE.out]
  go_wp2_with fail
  refine (netCheckNet A' c' l' _ hl' hc' hcm' ((HR'.out.below hb1).more hb1.size)).mono ?_
  rintro e w2 ⟨rfl, hb2⟩
  rw [HE'.out]
  have hq2 := hb1.trans (hb2.mono hb1.size)
  go_wp2_with fail
  refine (netFirst2 _ _ 0 0 32 _ (by exact heap_alloc_new _ _)).mono ?_
  rintro e w3 ⟨rfl, rfl⟩
  rw [show firstE [0, 0] = 0 from rfl]
  have hq3 := hq2.alloc hq2.size (.cells #[.int .i64 0, .int .i64 0] 32)
  go_wp2_with fail
  refine (netMergeI A A' c c' l l' _ hl hl' hc hcm hc' hcm' ((HR.out.below hq3).more hq3.size) ((HR'.out.below hq3).more hq3.size)).mono ?_
  rintro e w4 ⟨v, rfl, hown, hb4⟩
  have HO := Lib.hid (ownsRow_mono hown hq3.size)
  clear hown
  go_wp2
  go_ret2
  exact ⟨v, rfl, HO.out, hq3.trans (hb4.mono hq3.size)⟩

set_option maxHeartbeats 2000000 in
set_option maxRecDepth 100000 in
theorem netMeet (A A' : Option Addr) (c c' : Nat) (l l' : List Ck.Bar) (w : World) (hl : l.length ≤ 4096) (hl' : l'.length ≤ 4096) (hc : l.length ≤ c) (hcm : c ≤ maxLen) (hc' : l'.length ≤ c') (hcm' : c' ≤ maxLen) (hN : Ck.Net l) (hN' : Ck.Net l') (h : RB w w.heap.size A l) (h' : RB w w.heap.size A' l') :
    Calls Tryz.prog 59 #[.slice A l.length c, .slice A' l'.length c'] w (MitPost l l' w) := by
  have ex0 : ∀ (a b : Value) (w : World), (Instr.extract (.tuple #[a, b]) 0).run Tryz.prog w = .ok a w := fun _ _ _ => by kernel_rfl
  have ex1 : ∀ (a b : Value) (w : World), (Instr.extract (.tuple #[a, b]) 1).run Tryz.prog w = .ok b w := fun _ _ _ => by kernel_rfl
  go_enter Tryz.func59, Tryz.ntmps59
  go_wp2_with fail
  refine (netMergedI A A' c c' l l' _ hl hl' hc hcm hc' hcm' hN hN' h h').mono ?_
  rintro e w1 ⟨v, rfl, hown, hb1⟩
  obtain ⟨a, cv, rfl, _, _⟩ := own_slice hown
  have HO := Lib.hid hown
  clear hown
  generalize hn : (mergeI l l').length = n
  have HN := Lib.hid hn
  clear hn
  go_wp2
  go_ret2
  exact ⟨.slice a n cv, rfl, by have h9 := HO.out; rw [HN.out] at h9 ⊢; exact h9, hb1⟩

end Go.Proofs.YtdeplhihcifmeaaGreatDoor

/- Slices that the call owns, or that read so; Union. -/
namespace Go.Proofs.YtdeplhihcifmeaaGreatDoor
open Go.RowKit Ck

theorem unionS (A A' : Option Addr) (c c' : Nat) (l l' u : List Bar) (w : World) (hu : mergeU l l' = u) (hl : l.length ≤ 2000) (hl' : l'.length ≤ 2000) (hN : Net l) (hN' : Net l') (h : OKS w A c l) (h' : OKS w A' c' l') :
    Calls Tryz.prog 57 #[.slice A l.length c, .slice A' l'.length c'] w (PairPost u w) :=
  (netUnion A A' c c' l l' w (by omega) (by omega) h.1 h.2.1 h'.1 h'.2.1 hN hN' h.2.2.2 h'.2.2.2 (by have := mergeU_length l l'; omega)).mono fun e w' ⟨v, he, hrow, hb⟩ => by
    subst hu
    obtain ⟨a, c', rfl, hok⟩ := own_oks hrow
    exact ⟨a, c', he, hok, hb⟩
end Go.Proofs.YtdeplhihcifmeaaGreatDoor

/- Minus, of slices that the call owns or that read so. -/
namespace Go.Proofs.YtdeplhihcifmeaaGreatDoor
open Go.RowKit Ck

theorem minusS (A A' : Option Addr) (c c' : Nat) (l l' u : List Bar) (w : World) (hu : mergeM l l' = u) (hl : l.length ≤ 2000) (hl' : l'.length ≤ 2000) (hN : Net l) (hN' : Net l') (h : OKS w A c l) (h' : OKS w A' c' l') :
    Calls Tryz.prog 58 #[.slice A l.length c, .slice A' l'.length c'] w (PairPost u w) :=
  (netMinus A A' c c' l l' w (by omega) (by omega) h.1 h.2.1 h'.1 h'.2.1 hN hN' h.2.2.2 h'.2.2.2).mono fun e w' ⟨v, he, hrow, hb⟩ => by
    subst hu
    obtain ⟨a, c', rfl, hok⟩ := own_oks hrow
    exact ⟨a, c', he, hok, hb⟩
end Go.Proofs.YtdeplhihcifmeaaGreatDoor

/- Union, Minus, Meet of the program with an error; what they return of valid nets, in the reference's words. -/
namespace Go.Proofs.YtdeplhihcifmeaaGreatDoor
open Go.RowKit Go.Shelf Ck

set_option maxHeartbeats 2000000 in
set_option maxRecDepth 100000 in
theorem netMergedBad (K : Value) (A A' : Option Addr) (c c' : Nat) (l l' : List Ck.Bar) (N M E : Int) (w : World) (h : OKS w A c l) (h' : OKS w A' c' l') (hN : netE l = N) (hM : netE l' = M) (hE : firstE [N, M] = E) (hne : E ≠ 0) :
    Calls Tryz.prog 107 #[.slice A l.length c, .slice A' l'.length c', K] w (BadPost E w) := by
  have HO := Lib.hid h
  have HO' := Lib.hid h'
  have HN := Lib.hid hN
  have HM := Lib.hid hM
  have HE := Lib.hid hE
  have hn0 : (E != 0) = true := by rw [bne_iff_ne]; exact hne
  clear h h' hN hM hE hne
  go_enter Tryz.func107, Tryz.ntmps107
  go_wp2_with fail
  refine (netCheckNetA A c l _ HO.out).mono ?_
  rintro e w1 ⟨rfl, hb1⟩
  rw [HN.out]
  go_wp2_with fail
  refine (netCheckNetA A' c' l' _ (HO'.out.below hb1)).mono ?_
  rintro e w2 ⟨rfl, hb2⟩
  rw [HM.out]
  have hq2 := hb1.trans (hb2.mono hb1.size)
  go_wp2_with fail
  refine (netFirst2 _ _ N M 32 _ (by exact heap_alloc_new _ _)).mono ?_
  rintro e w3 ⟨rfl, rfl⟩
  rw [HE.out]
  have hq3 := hq2.alloc hq2.size (.cells #[.int .i64 N, .int .i64 M] 32)
  go_wp2
  go_ret2
  exact ⟨rfl, hq3⟩
set_option maxHeartbeats 2000000 in
set_option maxRecDepth 100000 in
theorem netUnionBad (A A' : Option Addr) (c c' : Nat) (l l' : List Ck.Bar) (N M E : Int) (w : World) (h : OKS w A c l) (h' : OKS w A' c' l') (hN : netE l = N) (hM : netE l' = M) (hE : firstE [N, M] = E) (hne : E ≠ 0) :
    Calls Tryz.prog 57 #[.slice A l.length c, .slice A' l'.length c'] w (BadPost E w) := by
  have ex0 : ∀ (a b : Value) (w : World), (Instr.extract (.tuple #[a, b]) 0).run Tryz.prog w = .ok a w := fun _ _ _ => by kernel_rfl
  have ex1 : ∀ (a b : Value) (w : World), (Instr.extract (.tuple #[a, b]) 1).run Tryz.prog w = .ok b w := fun _ _ _ => by kernel_rfl
  have HB := Lib.hid (fun K => netMergedBad K A A' c c' l l' N M E w h h' hN hM hE hne)
  clear h h' hN hM hE hne
  go_enter Tryz.func57, Tryz.ntmps57
  go_wp2_with fail
  refine (HB.out _).mono ?_
  rintro e w1 ⟨rfl, hb1⟩
  go_wp2
  go_ret2
  exact ⟨rfl, hb1⟩
set_option maxHeartbeats 2000000 in
set_option maxRecDepth 100000 in
theorem netMinusBad (A A' : Option Addr) (c c' : Nat) (l l' : List Ck.Bar) (N M E : Int) (w : World) (h : OKS w A c l) (h' : OKS w A' c' l') (hN : netE l = N) (hM : netE l' = M) (hE : firstE [N, M] = E) (hne : E ≠ 0) :
    Calls Tryz.prog 58 #[.slice A l.length c, .slice A' l'.length c'] w (BadPost E w) := by
  have ex0 : ∀ (a b : Value) (w : World), (Instr.extract (.tuple #[a, b]) 0).run Tryz.prog w = .ok a w := fun _ _ _ => by kernel_rfl
  have ex1 : ∀ (a b : Value) (w : World), (Instr.extract (.tuple #[a, b]) 1).run Tryz.prog w = .ok b w := fun _ _ _ => by kernel_rfl
  have HB := Lib.hid (fun K => netMergedBad K A A' c c' l l' N M E w h h' hN hM hE hne)
  clear h h' hN hM hE hne
  go_enter Tryz.func58, Tryz.ntmps58
  go_wp2_with fail
  refine (HB.out _).mono ?_
  rintro e w1 ⟨rfl, hb1⟩
  go_wp2
  go_ret2
  exact ⟨rfl, hb1⟩
set_option maxHeartbeats 2000000 in
set_option maxRecDepth 100000 in
theorem netMeetBad (A A' : Option Addr) (c c' : Nat) (l l' : List Ck.Bar) (N M E : Int) (w : World) (h : OKS w A c l) (h' : OKS w A' c' l') (hN : netE l = N) (hM : netE l' = M) (hE : firstE [N, M] = E) (hne : E ≠ 0) :
    Calls Tryz.prog 59 #[.slice A l.length c, .slice A' l'.length c'] w (BadPost E w) := by
  have ex0 : ∀ (a b : Value) (w : World), (Instr.extract (.tuple #[a, b]) 0).run Tryz.prog w = .ok a w := fun _ _ _ => by kernel_rfl
  have ex1 : ∀ (a b : Value) (w : World), (Instr.extract (.tuple #[a, b]) 1).run Tryz.prog w = .ok b w := fun _ _ _ => by kernel_rfl
  have HB := Lib.hid (fun K => netMergedBad K A A' c c' l l' N M E w h h' hN hM hE hne)
  clear h h' hN hM hE hne
  go_enter Tryz.func59, Tryz.ntmps59
  go_wp2_with fail
  refine (HB.out _).mono ?_
  rintro e w1 ⟨rfl, hb1⟩
  go_wp2
  go_ret2
  exact ⟨rfl, hb1⟩
theorem mergeM_eq : ∀ (l l' : List Bar), l.Pairwise Blt → l'.Pairwise Blt → mergeM l l' = l.filter (fun b => !(decide (b ∈ l')))
  | [], l', _, _ => by simp [mergeM]
  | a :: r, [], _, _ => by rw [mergeM, List.filter_eq_self.2 (by simp)]
  | a :: r, b :: r', h, h' => by
    obtain ⟨h1, h2⟩ := List.pairwise_cons.1 h
    obtain ⟨k1, k2⟩ := List.pairwise_cons.1 h'
    rw [mergeM]
    split
    · rename_i hc
      have hab := (cmpB_lt_iff a b).1 hc
      have ha : a ∉ b :: r' := fun hm => by
        rcases List.mem_cons.1 hm with e | e
        · subst e; exact hab.irrefl
        · exact (hab.trans (k1 a e)).irrefl
      rw [mergeM_eq r (b :: r') h2 h', List.filter_cons_of_pos (by simpa using ha)]
    · rename_i hc
      split
      · rename_i hd
        have hba : Blt b a := by
          rcases Blt.tri a b with h | h | h
          · exact absurd ((cmpB_lt_iff a b).2 h) hc
          · rw [(cmpB_zero a b).2 h] at hd; omega
          · exact h
        rw [mergeM_eq (a :: r) r' h k2]
        refine List.filter_congr fun x hx => ?_
        have hxb : x ≠ b := by
          rintro rfl
          rcases List.mem_cons.1 hx with e | e
          · subst e; exact hba.irrefl
          · exact (hba.trans (h1 x e)).irrefl
        simp [hxb]
      · have e : a = b := (cmpB_zero a b).1 (by omega)
        subst e
        rw [mergeM_eq r r' h2 k2, List.filter_cons_of_neg (by simp)]
        refine List.filter_congr fun x hx => ?_
        have hxb : x ≠ a := by
          rintro rfl
          exact (h1 x hx).irrefl
        simp [hxb]
termination_by l l' => l.length + l'.length
theorem mergeI_eq : ∀ (l l' : List Bar), l.Pairwise Blt → l'.Pairwise Blt → mergeI l l' = l.filter (fun b => decide (b ∈ l'))
  | [], l', _, _ => by simp [mergeI]
  | a :: r, [], _, _ => by simp [mergeI]
  | a :: r, b :: r', h, h' => by
    obtain ⟨h1, h2⟩ := List.pairwise_cons.1 h
    obtain ⟨k1, k2⟩ := List.pairwise_cons.1 h'
    rw [mergeI]
    split
    · rename_i hc
      have hab := (cmpB_lt_iff a b).1 hc
      have ha : a ∉ b :: r' := fun hm => by
        rcases List.mem_cons.1 hm with e | e
        · subst e; exact hab.irrefl
        · exact (hab.trans (k1 a e)).irrefl
      rw [mergeI_eq r (b :: r') h2 h', List.filter_cons_of_neg (by simpa using ha)]
    · rename_i hc
      split
      · rename_i hd
        have hba : Blt b a := by
          rcases Blt.tri a b with h | h | h
          · exact absurd ((cmpB_lt_iff a b).2 h) hc
          · rw [(cmpB_zero a b).2 h] at hd; omega
          · exact h
        rw [mergeI_eq (a :: r) r' h k2]
        refine List.filter_congr fun x hx => ?_
        have hxb : x ≠ b := by
          rintro rfl
          rcases List.mem_cons.1 hx with e | e
          · subst e; exact hba.irrefl
          · exact (hba.trans (h1 x e)).irrefl
        simp [hxb]
      · have e : a = b := (cmpB_zero a b).1 (by omega)
        subst e
        rw [mergeI_eq r r' h2 k2, List.filter_cons_of_pos (by simp)]
        congr 1
        refine List.filter_congr fun x hx => ?_
        have hxb : x ≠ a := by
          rintro rfl
          exact (h1 x hx).irrefl
        simp [hxb]
termination_by l l' => l.length + l'.length
theorem meetS (A A' : Option Addr) (c c' : Nat) (l l' u : List Bar) (w : World) (hu : mergeI l l' = u) (hl : l.length ≤ 2000) (hl' : l'.length ≤ 2000) (hN : Net l) (hN' : Net l') (h : OKS w A c l) (h' : OKS w A' c' l') :
    Calls Tryz.prog 59 #[.slice A l.length c, .slice A' l'.length c'] w (PairPost u w) :=
  (netMeet A A' c c' l l' w (by omega) (by omega) h.1 h.2.1 h'.1 h'.2.1 hN hN' h.2.2.2 h'.2.2.2).mono fun e w' ⟨v, he, hrow, hb⟩ => by
    subst hu
    obtain ⟨a, c', rfl, hok⟩ := own_oks hrow
    exact ⟨a, c', he, hok, hb⟩
theorem refUnionR (A A' : Option Addr) (c c' : Nat) (l m u : List Bar) (w : World) (hu : srtL (l ++ m) = u) (hl : l.length ≤ 2000) (hm : m.length ≤ 2000) (h : OKS w A c l) (h' : OKS w A' c' m) :
    Calls Tryz.prog 60 #[.slice A l.length c, .slice A' m.length c'] w (SlicePost u w) := by
  subst hu; exact refUnion A A' c c' l m w hl hm h h'
theorem refMinusR (A A' : Option Addr) (c c' : Nat) (l m u : List Bar) (w : World) (hu : l.filter (fun b => !(decide (b ∈ m))) = u) (hl : l.length ≤ 2000) (hm : m.length ≤ 2000) (h : OKS w A c l) (h' : OKS w A' c' m) :
    Calls Tryz.prog 61 #[.slice A l.length c, .slice A' m.length c'] w (SlicePost u w) := by
  subst hu; exact refMinus A A' c c' l m w (by omega) (by omega) h h'
theorem refMeetR (A A' : Option Addr) (c c' : Nat) (l m u : List Bar) (w : World) (hu : l.filter (fun b => decide (b ∈ m)) = u) (hl : l.length ≤ 2000) (hm : m.length ≤ 2000) (h : OKS w A c l) (h' : OKS w A' c' m) :
    Calls Tryz.prog 62 #[.slice A l.length c, .slice A' m.length c'] w (SlicePost u w) := by
  subst hu; exact refMeet A A' c c' l m w (by omega) (by omega) h h'
theorem union_eq {l m : List Bar} (h : Net l) (h' : Net m) : mergeU l m = srtL (l ++ m) :=
  (srtL_eq (mergeU_sorted l m h.2 h'.2) fun b => by rw [mergeU_mem, List.mem_append]).symm
end Go.Proofs.YtdeplhihcifmeaaGreatDoor

/- The law of NettingSets. -/
namespace Go.Proofs.YtdeplhihcifmeaaGreatDoor
open Go.RowKit Go.Shelf Ck

set_option maxHeartbeats 8000000 in
set_option maxRecDepth 100000 in
theorem lawSetsL1 (A A' : Option Addr) (c c' : Nat) (l m : List Bar) (w : World) (hL : LaidLen w)
    (hS1 : ∀ W : World, Calls Tryz.prog 16 #[.slice A l.length c, .int .i64 40] W fun e w' => e = .returned (.bool false) ∧ W = w') :
    Calls Tryz.prog 8 #[.slice A l.length c, .slice A' m.length c'] w fun e w' => e = .returned (.bool true) ∧ Below w.heap.size w w' := by
  have ex0 : ∀ (a b : Value) (w : World), (Instr.extract (.tuple #[a, b]) 0).run Tryz.prog w = .ok a w := fun _ _ _ => by kernel_rfl
  have ex1 : ∀ (a b : Value) (w : World), (Instr.extract (.tuple #[a, b]) 1).run Tryz.prog w = .ok b w := fun _ _ _ => by kernel_rfl
  have HLL := Lib.hid hL
  have HS1 := Lib.hid hS1
  have BW := Below.refl w.heap.size w
  clear hL hS1
  go_enter Tryz.func8, Tryz.ntmps8
  go_wp2_with fail
  refine (awake1 _ (HLL.out.below BW HLL.out.lt)).mono ?_
  rintro e w1 ⟨rfl, hb1⟩
  replace BW := hbT BW hb1
  clear hb1
  go_wp2_with fail
  refine (HS1.out _).mono ?_
  rintro e w2 ⟨rfl, rfl⟩
  go_wp2_with fail
  refine (awake1 _ (HLL.out.below BW HLL.out.lt)).mono ?_
  rintro e w3 ⟨rfl, hb3⟩
  replace BW := hbT BW hb3
  clear hb3
  go_wp2
  go_ret
  exact ⟨rfl, BW⟩
set_option maxHeartbeats 8000000 in
set_option maxRecDepth 100000 in
theorem lawSetsL2 (A A' : Option Addr) (c c' : Nat) (l m : List Bar) (w : World) (hL : LaidLen w)
    (hS1 : ∀ W : World, Calls Tryz.prog 16 #[.slice A l.length c, .int .i64 40] W fun e w' => e = .returned (.bool true) ∧ W = w')
    (hS2 : ∀ W : World, Calls Tryz.prog 16 #[.slice A' m.length c', .int .i64 40] W fun e w' => e = .returned (.bool false) ∧ W = w') :
    Calls Tryz.prog 8 #[.slice A l.length c, .slice A' m.length c'] w fun e w' => e = .returned (.bool true) ∧ Below w.heap.size w w' := by
  have ex0 : ∀ (a b : Value) (w : World), (Instr.extract (.tuple #[a, b]) 0).run Tryz.prog w = .ok a w := fun _ _ _ => by kernel_rfl
  have ex1 : ∀ (a b : Value) (w : World), (Instr.extract (.tuple #[a, b]) 1).run Tryz.prog w = .ok b w := fun _ _ _ => by kernel_rfl
  have HLL := Lib.hid hL
  have HS1 := Lib.hid hS1
  have HS2 := Lib.hid hS2
  have BW := Below.refl w.heap.size w
  clear hL hS1 hS2
  go_enter Tryz.func8, Tryz.ntmps8
  go_wp2_with fail
  refine (awake1 _ (HLL.out.below BW HLL.out.lt)).mono ?_
  rintro e w1 ⟨rfl, hb1⟩
  replace BW := hbT BW hb1
  clear hb1
  go_wp2_with fail
  refine (HS1.out _).mono ?_
  rintro e w2 ⟨rfl, rfl⟩
  go_wp2_with fail
  refine (HS2.out _).mono ?_
  rintro e w3 ⟨rfl, rfl⟩
  go_wp2_with fail
  refine (awake1 _ (HLL.out.below BW HLL.out.lt)).mono ?_
  rintro e w4 ⟨rfl, hb4⟩
  replace BW := hbT BW hb4
  clear hb4
  go_wp2
  go_ret
  exact ⟨rfl, BW⟩
set_option maxHeartbeats 8000000 in
set_option maxRecDepth 100000 in
theorem lawSetsG (A A' : Option Addr) (c c' : Nat) (l m : List Bar) (w : World) (hL : LaidLen w) (hO : OKS w A c l) (hO' : OKS w A' c' m)
    (hS1 : ∀ W : World, Calls Tryz.prog 16 #[.slice A l.length c, .int .i64 40] W fun e w' => e = .returned (.bool true) ∧ W = w')
    (hS2 : ∀ W : World, Calls Tryz.prog 16 #[.slice A' m.length c', .int .i64 40] W fun e w' => e = .returned (.bool true) ∧ W = w') (hl : l.length ≤ 40) (hm : m.length ≤ 40) (hN : Net l) (hM : Net m) (u v t : List Bar) (hu1 : mergeU l m = u) (hu2 : srtL (l ++ m) = u) (hv1 : mergeM l m = v) (hv2 : l.filter (fun b => !(decide (b ∈ m))) = v) (ht1 : mergeI l m = t) (ht2 : l.filter (fun b => decide (b ∈ m)) = t) (ul : u.length ≤ 4096) (vl : v.length ≤ 4096) (tl : t.length ≤ 4096) :
    Calls Tryz.prog 8 #[.slice A l.length c, .slice A' m.length c'] w fun e w' => e = .returned (.bool true) ∧ Below w.heap.size w w' := by
  have ex0 : ∀ (a b : Value) (w : World), (Instr.extract (.tuple #[a, b]) 0).run Tryz.prog w = .ok a w := fun _ _ _ => by kernel_rfl
  have ex1 : ∀ (a b : Value) (w : World), (Instr.extract (.tuple #[a, b]) 1).run Tryz.prog w = .ok b w := fun _ _ _ => by kernel_rfl
  have HLL := Lib.hid hL
  have HS1 := Lib.hid hS1
  have HS2 := Lib.hid hS2
  have HO := Lib.hid hO
  have HO' := Lib.hid hO'
  have HN := Lib.hid hN
  have HM := Lib.hid hM
  have HU1 := Lib.hid hu1
  have HU2 := Lib.hid hu2
  have HV1 := Lib.hid hv1
  have HV2 := Lib.hid hv2
  have HT1 := Lib.hid ht1
  have HT2 := Lib.hid ht2
  have HZ1 := Lib.hid ((netE_zero l).2 ⟨by omega, hN⟩)
  have HZ2 := Lib.hid ((netE_zero m).2 ⟨by omega, hM⟩)
  have HUL := Lib.hid ul
  have HVL := Lib.hid vl
  have HTL := Lib.hid tl
  clear hu1 hu2 hv1 hv2 ht1 ht2 ul vl tl
  have BW := Below.refl w.heap.size w
  clear hL hS1 hS2 hO hO' hN hM
  go_enter Tryz.func8, Tryz.ntmps8
  go_wp2_with fail
  refine (awake1 _ (HLL.out.below BW HLL.out.lt)).mono ?_
  rintro e w1 ⟨rfl, hb1⟩
  replace BW := hbT BW hb1
  clear hb1
  go_wp2_with fail
  refine (HS1.out _).mono ?_
  rintro e w2 ⟨rfl, rfl⟩
  go_wp2_with fail
  refine (HS2.out _).mono ?_
  rintro e w3 ⟨rfl, rfl⟩
  go_wp2_with fail
  refine (lwCopied A c l _ (by omega) (HO.out.below BW)).mono ?_
  rintro e w4 ⟨a4, c4, rfl, o4, hb4⟩
  replace BW := hbT BW hb4
  have O4 := Lib.hid o4
  clear o4 hb4
  go_wp2_with fail
  refine (lwCopied A' c' m _ (by omega) (HO'.out.below BW)).mono ?_
  rintro e w5 ⟨a5, c5, rfl, o5, hb5⟩
  replace BW := hbT BW hb5
  replace O4 := Lib.hid (O4.out.below hb5)
  have O5 := Lib.hid o5
  clear o5 hb5
  go_wp2_with fail
  refine (unionS a4 a5 c4 c5 l m _ _ HU1.out (by omega) (by omega) HN.out HM.out O4.out O5.out).mono ?_
  rintro e w6 ⟨a6, c6, rfl, o6, hb6⟩
  replace BW := hbT BW hb6
  replace O4 := Lib.hid (O4.out.below hb6)
  replace O5 := Lib.hid (O5.out.below hb6)
  have O6 := Lib.hid o6
  clear o6 hb6
  clear O4
  clear O5
  go_wp2_with fail
  refine (lwCopied A c l _ (by omega) (HO.out.below BW)).mono ?_
  rintro e w7 ⟨a7, c7, rfl, o7, hb7⟩
  replace BW := hbT BW hb7
  replace O6 := Lib.hid (O6.out.below hb7)
  have O7 := Lib.hid o7
  clear o7 hb7
  go_wp2_with fail
  refine (lwCopied A' c' m _ (by omega) (HO'.out.below BW)).mono ?_
  rintro e w8 ⟨a8, c8, rfl, o8, hb8⟩
  replace BW := hbT BW hb8
  replace O6 := Lib.hid (O6.out.below hb8)
  replace O7 := Lib.hid (O7.out.below hb8)
  have O8 := Lib.hid o8
  clear o8 hb8
  go_wp2_with fail
  refine (minusS a7 a8 c7 c8 l m _ _ HV1.out (by omega) (by omega) HN.out HM.out O7.out O8.out).mono ?_
  rintro e w9 ⟨a9, c9, rfl, o9, hb9⟩
  replace BW := hbT BW hb9
  replace O6 := Lib.hid (O6.out.below hb9)
  replace O7 := Lib.hid (O7.out.below hb9)
  replace O8 := Lib.hid (O8.out.below hb9)
  have O9 := Lib.hid o9
  clear o9 hb9
  clear O7
  clear O8
  go_wp2_with fail
  refine (lwCopied A c l _ (by omega) (HO.out.below BW)).mono ?_
  rintro e w10 ⟨a10, c10, rfl, o10, hb10⟩
  replace BW := hbT BW hb10
  replace O6 := Lib.hid (O6.out.below hb10)
  replace O9 := Lib.hid (O9.out.below hb10)
  have O10 := Lib.hid o10
  clear o10 hb10
  go_wp2_with fail
  refine (lwCopied A' c' m _ (by omega) (HO'.out.below BW)).mono ?_
  rintro e w11 ⟨a11, c11, rfl, o11, hb11⟩
  replace BW := hbT BW hb11
  replace O6 := Lib.hid (O6.out.below hb11)
  replace O9 := Lib.hid (O9.out.below hb11)
  replace O10 := Lib.hid (O10.out.below hb11)
  have O11 := Lib.hid o11
  clear o11 hb11
  go_wp2_with fail
  refine (meetS a10 a11 c10 c11 l m _ _ HT1.out (by omega) (by omega) HN.out HM.out O10.out O11.out).mono ?_
  rintro e w12 ⟨a12, c12, rfl, o12, hb12⟩
  replace BW := hbT BW hb12
  replace O6 := Lib.hid (O6.out.below hb12)
  replace O9 := Lib.hid (O9.out.below hb12)
  replace O10 := Lib.hid (O10.out.below hb12)
  replace O11 := Lib.hid (O11.out.below hb12)
  have O12 := Lib.hid o12
  clear o12 hb12
  clear O10
  clear O11
  go_wp2_with fail
  refine (refCheckNetA A c l _ (HO.out.below BW)).mono ?_
  rintro e w13 ⟨rfl, hb13⟩
  rw [HZ1.out]
  replace BW := hbT BW hb13
  replace O6 := Lib.hid (O6.out.below hb13)
  replace O9 := Lib.hid (O9.out.below hb13)
  replace O12 := Lib.hid (O12.out.below hb13)
  clear hb13
  go_wp2_with fail
  refine (refCheckNetA A' c' m _ (HO'.out.below BW)).mono ?_
  rintro e w14 ⟨rfl, hb14⟩
  rw [HZ2.out]
  replace BW := hbT BW hb14
  replace O6 := Lib.hid (O6.out.below hb14)
  replace O9 := Lib.hid (O9.out.below hb14)
  replace O12 := Lib.hid (O12.out.below hb14)
  clear hb14
  go_wp2_with fail
  refine (lwFirst 0 0 _ _ 3 _ (by exact heap_alloc_new _ _)).mono ?_
  rintro e w15 ⟨rfl, rfl⟩
  rw [show firstE [0, 0] = 0 from rfl]
  have hbn := bel_new w14 (.cells #[.int .i64 0, .int .i64 0] 3)
  replace BW := hbT BW hbn
  replace O6 := Lib.hid (O6.out.below hbn)
  replace O9 := Lib.hid (O9.out.below hbn)
  replace O12 := Lib.hid (O12.out.below hbn)
  clear hbn
  go_wp2_with fail
  refine (refUnionR A A' c c' l m u _ HU2.out (by omega) (by omega) (HO.out.below BW) (HO'.out.below BW)).mono ?_
  rintro e w16 ⟨a16, c16, rfl, o16, hb16⟩
  replace BW := hbT BW hb16
  replace O6 := Lib.hid (O6.out.below hb16)
  replace O9 := Lib.hid (O9.out.below hb16)
  replace O12 := Lib.hid (O12.out.below hb16)
  have O16 := Lib.hid o16
  clear o16 hb16
  go_wp2_with fail
  refine (lwNetOk a6 a16 c6 c16 u _ HUL.out O6.out O16.out).mono ?_
  rintro e w17 ⟨rfl, hb17⟩
  replace BW := hbT BW hb17
  replace O6 := Lib.hid (O6.out.below hb17)
  replace O9 := Lib.hid (O9.out.below hb17)
  replace O12 := Lib.hid (O12.out.below hb17)
  replace O16 := Lib.hid (O16.out.below hb17)
  clear hb17
  clear O16
  clear O6
  go_wp2_with fail
  refine (refMinusR A A' c c' l m v _ HV2.out (by omega) (by omega) (HO.out.below BW) (HO'.out.below BW)).mono ?_
  rintro e w18 ⟨a18, c18, rfl, o18, hb18⟩
  replace BW := hbT BW hb18
  replace O9 := Lib.hid (O9.out.below hb18)
  replace O12 := Lib.hid (O12.out.below hb18)
  have O18 := Lib.hid o18
  clear o18 hb18
  go_wp2_with fail
  refine (lwNetOk a9 a18 c9 c18 v _ HVL.out O9.out O18.out).mono ?_
  rintro e w19 ⟨rfl, hb19⟩
  replace BW := hbT BW hb19
  replace O9 := Lib.hid (O9.out.below hb19)
  replace O12 := Lib.hid (O12.out.below hb19)
  replace O18 := Lib.hid (O18.out.below hb19)
  clear hb19
  clear O18
  clear O9
  go_wp2_with fail
  refine (refMeetR A A' c c' l m t _ HT2.out (by omega) (by omega) (HO.out.below BW) (HO'.out.below BW)).mono ?_
  rintro e w20 ⟨a20, c20, rfl, o20, hb20⟩
  replace BW := hbT BW hb20
  replace O12 := Lib.hid (O12.out.below hb20)
  have O20 := Lib.hid o20
  clear o20 hb20
  go_wp2_with fail
  refine (lwNetOk a12 a20 c12 c20 t _ HTL.out O12.out O20.out).mono ?_
  rintro e w21 ⟨rfl, hb21⟩
  replace BW := hbT BW hb21
  replace O12 := Lib.hid (O12.out.below hb21)
  replace O20 := Lib.hid (O20.out.below hb21)
  clear hb21
  clear O20
  clear O12
  go_wp2
  go_ret
  exact ⟨rfl, BW⟩
set_option maxHeartbeats 8000000 in
set_option maxRecDepth 100000 in
theorem lawSetsB (A A' : Option Addr) (c c' : Nat) (l m : List Bar) (w : World) (hL : LaidLen w) (hO : OKS w A c l) (hO' : OKS w A' c' m)
    (hS1 : ∀ W : World, Calls Tryz.prog 16 #[.slice A l.length c, .int .i64 40] W fun e w' => e = .returned (.bool true) ∧ W = w')
    (hS2 : ∀ W : World, Calls Tryz.prog 16 #[.slice A' m.length c', .int .i64 40] W fun e w' => e = .returned (.bool true) ∧ W = w') (hl : l.length ≤ 4098) (hm : m.length ≤ 4098) (N M E : Int) (hN : netE l = N) (hM : netE m = M) (hE : firstE [N, M] = E) (hne : E ≠ 0) :
    Calls Tryz.prog 8 #[.slice A l.length c, .slice A' m.length c'] w fun e w' => e = .returned (.bool true) ∧ Below w.heap.size w w' := by
  have ex0 : ∀ (a b : Value) (w : World), (Instr.extract (.tuple #[a, b]) 0).run Tryz.prog w = .ok a w := fun _ _ _ => by kernel_rfl
  have ex1 : ∀ (a b : Value) (w : World), (Instr.extract (.tuple #[a, b]) 1).run Tryz.prog w = .ok b w := fun _ _ _ => by kernel_rfl
  have HLL := Lib.hid hL
  have HS1 := Lib.hid hS1
  have HS2 := Lib.hid hS2
  have HO := Lib.hid hO
  have HO' := Lib.hid hO'
  have HN := Lib.hid hN
  have HM := Lib.hid hM
  have HE := Lib.hid hE
  have HNE := Lib.hid hne
  have hn0 : (E != 0) = true := by rw [bne_iff_ne]; exact hne
  clear hE hne
  have BW := Below.refl w.heap.size w
  clear hL hS1 hS2 hO hO' hN hM
  go_enter Tryz.func8, Tryz.ntmps8
  go_wp2_with fail
  refine (awake1 _ (HLL.out.below BW HLL.out.lt)).mono ?_
  rintro e w1 ⟨rfl, hb1⟩
  replace BW := hbT BW hb1
  clear hb1
  go_wp2_with fail
  refine (HS1.out _).mono ?_
  rintro e w2 ⟨rfl, rfl⟩
  go_wp2_with fail
  refine (HS2.out _).mono ?_
  rintro e w3 ⟨rfl, rfl⟩
  go_wp2_with fail
  refine (lwCopied A c l _ (by omega) (HO.out.below BW)).mono ?_
  rintro e w4 ⟨a4, c4, rfl, o4, hb4⟩
  replace BW := hbT BW hb4
  have O4 := Lib.hid o4
  clear o4 hb4
  go_wp2_with fail
  refine (lwCopied A' c' m _ (by omega) (HO'.out.below BW)).mono ?_
  rintro e w5 ⟨a5, c5, rfl, o5, hb5⟩
  replace BW := hbT BW hb5
  replace O4 := Lib.hid (O4.out.below hb5)
  have O5 := Lib.hid o5
  clear o5 hb5
  go_wp2_with fail
  refine (netUnionBad a4 a5 c4 c5 l m N M E _ O4.out O5.out HN.out HM.out HE.out HNE.out).mono ?_
  rintro e w6 ⟨rfl, hb6⟩
  replace BW := hbT BW hb6
  replace O4 := Lib.hid (O4.out.below hb6)
  replace O5 := Lib.hid (O5.out.below hb6)
  clear hb6
  clear O4
  clear O5
  go_wp2_with fail
  refine (lwCopied A c l _ (by omega) (HO.out.below BW)).mono ?_
  rintro e w7 ⟨a7, c7, rfl, o7, hb7⟩
  replace BW := hbT BW hb7
  have O7 := Lib.hid o7
  clear o7 hb7
  go_wp2_with fail
  refine (lwCopied A' c' m _ (by omega) (HO'.out.below BW)).mono ?_
  rintro e w8 ⟨a8, c8, rfl, o8, hb8⟩
  replace BW := hbT BW hb8
  replace O7 := Lib.hid (O7.out.below hb8)
  have O8 := Lib.hid o8
  clear o8 hb8
  go_wp2_with fail
  refine (netMinusBad a7 a8 c7 c8 l m N M E _ O7.out O8.out HN.out HM.out HE.out HNE.out).mono ?_
  rintro e w9 ⟨rfl, hb9⟩
  replace BW := hbT BW hb9
  replace O7 := Lib.hid (O7.out.below hb9)
  replace O8 := Lib.hid (O8.out.below hb9)
  clear hb9
  clear O7
  clear O8
  go_wp2_with fail
  refine (lwCopied A c l _ (by omega) (HO.out.below BW)).mono ?_
  rintro e w10 ⟨a10, c10, rfl, o10, hb10⟩
  replace BW := hbT BW hb10
  have O10 := Lib.hid o10
  clear o10 hb10
  go_wp2_with fail
  refine (lwCopied A' c' m _ (by omega) (HO'.out.below BW)).mono ?_
  rintro e w11 ⟨a11, c11, rfl, o11, hb11⟩
  replace BW := hbT BW hb11
  replace O10 := Lib.hid (O10.out.below hb11)
  have O11 := Lib.hid o11
  clear o11 hb11
  go_wp2_with fail
  refine (netMeetBad a10 a11 c10 c11 l m N M E _ O10.out O11.out HN.out HM.out HE.out HNE.out).mono ?_
  rintro e w12 ⟨rfl, hb12⟩
  replace BW := hbT BW hb12
  replace O10 := Lib.hid (O10.out.below hb12)
  replace O11 := Lib.hid (O11.out.below hb12)
  clear hb12
  clear O10
  clear O11
  go_wp2_with fail
  refine (refCheckNetA A c l _ (HO.out.below BW)).mono ?_
  rintro e w13 ⟨rfl, hb13⟩
  rw [HN.out]
  replace BW := hbT BW hb13
  clear hb13
  go_wp2_with fail
  refine (refCheckNetA A' c' m _ (HO'.out.below BW)).mono ?_
  rintro e w14 ⟨rfl, hb14⟩
  rw [HM.out]
  replace BW := hbT BW hb14
  clear hb14
  go_wp2_with fail
  refine (lwFirst N M _ _ 3 _ (by exact heap_alloc_new _ _)).mono ?_
  rintro e w15 ⟨rfl, rfl⟩
  rw [HE.out]
  have hbn := bel_new w14 (.cells #[.int .i64 N, .int .i64 M] 3)
  replace BW := hbT BW hbn
  clear hbn
  go_wp2_with fail
  refine (lwNetBad E _ HNE.out).mono ?_
  rintro e w16 ⟨rfl, hb16⟩
  replace BW := hbT BW hb16
  clear hb16
  go_wp2_with fail
  refine (lwNetBad E _ HNE.out).mono ?_
  rintro e w17 ⟨rfl, hb17⟩
  replace BW := hbT BW hb17
  clear hb17
  go_wp2_with fail
  refine (lwNetBad E _ HNE.out).mono ?_
  rintro e w18 ⟨rfl, hb18⟩
  replace BW := hbT BW hb18
  clear hb18
  go_wp2
  go_ret
  exact ⟨rfl, BW⟩
theorem lawSets (A : Option Addr) (c : Nat) (l : List Bar) (A' : Option Addr) (c' : Nat) (m : List Bar) (w : World) (hL : LaidLen w) (hO : OKS w A c l) (hO' : OKS w A' c' m) :
    Calls Tryz.prog 8 #[.slice A l.length c, .slice A' m.length c'] w fun e w' => e = .returned (.bool true) ∧ Below w.heap.size w w' := by
  have hk : l.length ≤ maxLen := Nat.le_trans hO.1 hO.2.1
  have hk' : m.length ≤ maxLen := Nat.le_trans hO'.1 hO'.2.1
  by_cases hs : (l.length : Int) ≤ 40 ∨ (4096 < (l.length : Int) ∧ (l.length : Int) ≤ 4098)
  · by_cases hs' : (m.length : Int) ≤ 40 ∨ (4096 < (m.length : Int) ∧ (m.length : Int) ≤ 4098)
    · by_cases hf : firstE [netE l, netE m] = 0
      · obtain ⟨h1, h2⟩ := firstE_both hf
        obtain ⟨hl, hN⟩ := (netE_zero l).1 h1
        obtain ⟨hm, hM⟩ := (netE_zero m).1 h2
        have k1 : l.length ≤ 40 := by omega
        have k2 : m.length ≤ 40 := by omega
        exact lawSetsG A A' c c' l m w hL hO hO' (fun W => refShortOk A c _ 40 W hk hs) (fun W => refShortOk A' c' _ 40 W hk' hs') k1 k2 hN hM _ _ _ rfl (union_eq hN hM).symm rfl (mergeM_eq l m hN.2 hM.2).symm rfl (mergeI_eq l m hN.2 hM.2).symm
          (by have := mergeU_length l m; omega) (by rw [mergeM_eq l m hN.2 hM.2]; have := List.length_filter_le (fun b => !(decide (b ∈ m))) l; omega) (by rw [mergeI_eq l m hN.2 hM.2]; have := List.length_filter_le (fun b => decide (b ∈ m)) l; omega)
      · exact lawSetsB A A' c c' l m w hL hO hO' (fun W => refShortOk A c _ 40 W hk hs) (fun W => refShortOk A' c' _ 40 W hk' hs') (by omega) (by omega) _ _ _ rfl rfl rfl hf
    · exact lawSetsL2 A A' c c' l m w hL (fun W => refShortOk A c _ 40 W hk hs) (fun W => refShortNo A' c' _ 40 W hk' hs')
  · exact lawSetsL1 A A' c c' l m w hL (fun W => refShortNo A c _ 40 W hk hs)
end Go.Proofs.YtdeplhihcifmeaaGreatDoor

/- A knot as an argument. -/
namespace Go.Proofs.YtdeplhihcifmeaaGreatDoor
open Go.ChangeShapes Go.WideShapes Go.ChangeAt Go.WideMaps Go.WideElems Go.RowKit

set_option maxRecDepth 100000 in
theorem open_knot {w : World} {r : Reach} {b0 : Nat} {v : Value} (h : Value.okWide Tryz.prog w r b0 26 v) : ∃ x y, v = .agg #[.int .i64 x, .int .i64 y] := by
  have hS : Tryz.prog.underlying 26 = some (.struct (Tryz.prog.fieldsOf 26)) := by kernel_rfl
  have hC : Tryz.prog.cellsOf 26 = 2 := by kernel_rfl
  simp only [Value.okWide, hS] at h
  obtain ⟨cs, rfl, hsz, hr⟩ := h
  rw [hC] at hsz
  obtain ⟨ts, hts, -, hrow⟩ := hr
  have ht : Tryz.prog.cellTypes Tryz.prog.depth 26 = some [3, 3] := by kernel_rfl
  rw [ht] at hts
  cases hts
  obtain ⟨l⟩ := cs
  match l, hsz with
  | [c0, c1], _ =>
    obtain ⟨u0, hu0, h0⟩ := hrow 0 c0 rfl
    obtain ⟨u1, hu1, h1⟩ := hrow 1 c1 rfl
    simp at hu0 hu1
    subst hu0 hu1
    obtain ⟨a, rfl, -⟩ := cell_intT Tryz.underlying3 h0
    obtain ⟨b, rfl, -⟩ := cell_intT Tryz.underlying3 h1
    exact ⟨a, b, rfl⟩
end Go.Proofs.YtdeplhihcifmeaaGreatDoor

/- An argument that is a list of bars, opened. -/
namespace Go.Proofs.YtdeplhihcifmeaaGreatDoor
open Go.ChangeShapes Go.WideShapes Go.ChangeAt Go.RowKit Go.Deep

variable {H : Type} {enc : TypeId × Value → H} {w : World} {spare : Nat → Bool} {held : Bool}
set_option maxRecDepth 100000 in
theorem bar_cells {n : Nat} {cs : List Value} {x : DataW H × List MemPlace} (h : DataW.trod enc Tryz.prog w 0 spare held n 24 cs = some x) : ∃ b : Ck.Bar, cs = bcells b := by
  obtain ⟨xs, m, _, _, hl, hx, hf⟩ := DataW.trod_struct Tryz.underlying24 h
  have hC : Tryz.prog.cellsOf 24 = 3 := by kernel_rfl
  have c3 : Tryz.prog.cellsOf 3 = 1 := by kernel_rfl
  rw [hC] at hl
  match cs, hl, xs, hx with
  | [c0, c1, c2], _, [x0, x1, x2], _ =>
    have h0 := hf 0 _ rfl
    have h1 := hf 1 _ rfl
    have h2 := hf 2 _ rfl
    simp [c3] at h0 h1 h2
    obtain ⟨n0, e0, _⟩ := DataW.trod_int Tryz.underlying3 h0
    obtain ⟨n1, e1, _⟩ := DataW.trod_int Tryz.underlying3 h1
    obtain ⟨n2, e2, _⟩ := DataW.trod_int Tryz.underlying3 h2
    simp only [List.cons.injEq, and_true] at e0 e1 e2
    exact ⟨⟨n0, n1, n2⟩, by rw [e0, e1, e2]; rfl⟩
set_option maxRecDepth 100000 in
/-- The argument is nil, or a slice that reads as bars. -/
theorem open_bars {v : Value} {d : DataW H} {p : List MemPlace} {r : Reach} {b0 : Nat} (hv : Value.okWide Tryz.prog w r b0 22 v) (h : DataW.Trod enc Tryz.prog w 0 spare held 22 v d p) (_ : ∀ x ∈ p, x.block < w.heap.size) :
    ∃ (A : Option Addr) (c : Nat) (l : List Ck.Bar), v = .slice A l.length c ∧ (A = none → c = 0) ∧ l.length ≤ c ∧ c ≤ maxLen ∧ RB w w.heap.size A l := by
  obtain ⟨a, len, cap, rfl⟩ := okWide_slice Tryz.underlying22 hv
  obtain ⟨fuel, hf⟩ := h
  have hC : Tryz.prog.cellsOf 24 = 3 := by kernel_rfl
  rcases open_slice Tryz.underlying22 hf with ⟨hcs, _⟩ | ⟨a', len', cap', m, n, D, Pl, hcs, hb, hl, hm, hmm, hx, hi⟩
  · simp [Value.cells] at hcs
    obtain ⟨rfl, rfl, rfl⟩ := hcs
    exact ⟨none, 0, [], rfl, fun _ => rfl, Nat.zero_le _, by unfold maxLen; omega, fun h => by simp at h⟩
  · simp [Value.cells] at hcs
    obtain ⟨rfl, rfl, rfl⟩ := hcs
    rw [hC] at hi hx
    have hle : len ≤ m := by rw [hmm]; split <;> omega
    have each : ∀ i, ∃ b : Ck.Bar, i < len → w.cell? (a'.add (i * 3)) = some (.int .i64 b.x) ∧ w.cell? ((a'.add (i * 3)).add 1) = some (.int .i64 b.y) ∧ w.cell? ((a'.add (i * 3)).add 2) = some (.int .i64 b.s) := fun i => by
      by_cases hi' : i < len
      · obtain ⟨cs', h1, h2⟩ := hi i (by omega)
        obtain ⟨b, rfl⟩ := bar_cells h2
        obtain ⟨_, _, h3⟩ := World.cells?_some h1
        exact ⟨b, fun _ => ⟨h3 0 (by omega), h3 1 (by omega), h3 2 (by omega)⟩⟩
      · exact ⟨⟨0, 0, 0⟩, fun h => absurd h hi'⟩
    obtain ⟨f, hf'⟩ := Classical.axiomOfChoice each
    have hlen : ((List.range len).map f).length = len := by simp
    refine ⟨some a', cap, (List.range len).map f, by rw [hlen], (fun h => by cases h), by rw [hlen]; exact hl, hm, fun hpos => ?_⟩
    rw [hlen] at hpos
    obtain ⟨blk, off, spot⟩ := a'
    have h0 := (hf' 0 hpos).1
    have hspot : spot = none := by
      cases spot with
      | none => rfl
      | some s =>
        simp [Addr.add, World.cell?] at h0
        split at h0 <;> simp at h0
    subst hspot
    have hadd : ∀ k, (⟨blk, off, none⟩ : Addr).add k = ⟨blk, off + k, none⟩ := fun k => by
      unfold Addr.add
      split
      · simp
      · rfl
    have hblk : blk < w.heap.size := by
      rw [hadd] at h0
      unfold World.cell? at h0
      cases hh : w.heap[blk]? with
      | none => simp [hh] at h0
      | some o => exact (Array.getElem?_eq_some_iff.1 hh).1
    refine ⟨blk, off, rfl, hblk, fun i hi' => ?_⟩
    rw [hlen] at hi'
    obtain ⟨k0, k1, k2⟩ := hf' i hi'
    rw [hadd] at k0 k1 k2
    have hadd2 : ∀ k j, (⟨blk, k, none⟩ : Addr).add j = ⟨blk, k + j, none⟩ := fun k j => by
      unfold Addr.add
      split
      · simp
      · rfl
    rw [hadd2] at k1 k2
    have hg : ((List.range len).map f)[i]'(by simpa using hi') = f i := by simp
    rw [hg]
    exact ⟨k0, k1, k2⟩
end Go.Proofs.YtdeplhihcifmeaaGreatDoor

/- A bar, an int8, two bytes as arguments. -/
namespace Go.Proofs.YtdeplhihcifmeaaGreatDoor
open Go.ChangeShapes Go.WideShapes Go.ChangeAt Go.WideMaps Go.WideElems Go.RowKit

set_option maxRecDepth 100000 in
theorem open_bar {w : World} {r : Reach} {b0 : Nat} {v : Value} (h : Value.okWide Tryz.prog w r b0 24 v) : ∃ x y s, v = .agg #[.int .i64 x, .int .i64 y, .int .i64 s] := by
  have hS : Tryz.prog.underlying 24 = some (.struct (Tryz.prog.fieldsOf 24)) := by kernel_rfl
  have hC : Tryz.prog.cellsOf 24 = 3 := by kernel_rfl
  simp only [Value.okWide, hS] at h
  obtain ⟨cs, rfl, hsz, hr⟩ := h
  rw [hC] at hsz
  obtain ⟨ts, hts, -, hrow⟩ := hr
  have ht : Tryz.prog.cellTypes Tryz.prog.depth 24 = some [3, 3, 3] := by kernel_rfl
  rw [ht] at hts
  cases hts
  obtain ⟨l⟩ := cs
  match l, hsz with
  | [c0, c1, c2], _ =>
    obtain ⟨u0, hu0, h0⟩ := hrow 0 c0 rfl
    obtain ⟨u1, hu1, h1⟩ := hrow 1 c1 rfl
    obtain ⟨u2, hu2, h2⟩ := hrow 2 c2 rfl
    simp at hu0 hu1 hu2
    subst hu0 hu1 hu2
    obtain ⟨a, rfl, -⟩ := cell_intT Tryz.underlying3 h0
    obtain ⟨b, rfl, -⟩ := cell_intT Tryz.underlying3 h1
    obtain ⟨c, rfl, -⟩ := cell_intT Tryz.underlying3 h2
    exact ⟨a, b, c, rfl⟩
end Go.Proofs.YtdeplhihcifmeaaGreatDoor

namespace Go.Proofs.YtdeplhihcifmeaaGreatDoor
open Go.ChangeShapes Go.WideShapes Go.ChangeAt Go.WideMaps Go.WideElems Go.RowKit

set_option maxRecDepth 100000 in
theorem sets_lifted (os : Os) (started : os.Started) (H : Type) (enc : TypeId × Value → H) :
    ReturnsInHanded {} Tryz.checked os 8 .any (fun w args => (Rows.nettingSetsSpec.pre enc Tryz.prog Tryz.f8 [] false w args ∧ laidMetH Tryz.prog naLaid w) ∧ sizedMet enc Tryz.prog Tryz.f8 (OpenSpec.ofChange Rows.nettingSetsSpec) false w args)
      (Rows.nettingSetsSpec.post enc Tryz.prog Tryz.f8 false true false false) := by
  refine returns_and_shaped (C := Tryz.checked) (X := fun w _ => laidMetH Tryz.prog naLaid w) (fun _ _ _ hh h => h.of_heap hh) Tryz.ownT started (by kernel_rfl) Tryz.func8
    (ChangeSpec.witness_shaped (enc := enc) (C := Tryz.checked) (os := os) (X := fun w _ => laidMetH Tryz.prog naLaid w) false (World.laidAll Tryz.prog os naLaid) #[.slice none 0 0, .slice none 0 0] 8 (World.laidAll_os _ _ _) (World.shaped_of_ZipB (by kernel_rfl) (by kernel_rfl)) (by kernel_rfl) (by kernel_rfl) (by kernel_rfl) (door_met os _)) ?_
  intro W base args ds gs before hval0 hW _ hSh
  have hval : ∀ (j : Nat) t v, Tryz.f8.params[j]? = some t → args[j]? = some v → Value.okWide Tryz.prog W .any base t v := hval0
  have hW' := hW
  obtain ⟨p, q, hA0, hV, rfl, hfz, hnd⟩ := hW
  have hA : DataW.TrodAll enc Tryz.prog W 0 (fun _ => true) true Tryz.f8.params.toList args.toList ds p := hA0
  rw [Tryz.params8] at hA hval
  obtain ⟨v0, v1, d0, d1, p0, p1, rfl, rfl, rfl, h0, h1⟩ := trodAll_two hA
  obtain ⟨rfl, rfl⟩ := trodVars_none hV
  clear hA0 hval0
  simp only [List.append_nil] at hW'
  have hlt : ∀ x ∈ p0 ++ p1, x.block < W.heap.size := fun x hx => by simpa using hW'.lt x hx
  obtain ⟨A0, c0, l0, rfl, hAn0, hlc0, hcm0, hR0⟩ := open_bars (hval 0 22 v0 rfl rfl) h0 (fun x hx => hlt x (List.mem_append_left _ hx))
  have hO0 : OKS W A0 c0 l0 := ⟨hlc0, hcm0, hAn0, hR0⟩
  obtain ⟨A1, c1, l1, rfl, hAn1, hlc1, hcm1, hR1⟩ := open_bars (hval 1 22 v1 rfl rfl) h1 (fun x hx => hlt x (List.mem_append_right _ hx))
  have hO1 : OKS W A1 c1 l1 := ⟨hlc1, hcm1, hAn1, hR1⟩
  have harg0 : ∀ (W' : World), Below W.heap.size W W' → DataW.Trod enc Tryz.prog W' 0 (fun b => decide (b < W.heap.size)) true 22 (.slice A0 l0.length c0) d0 p0 :=
    fun W' hn => Below.trod Tryz.laidOutT (by kernel_rfl) (of_decide_eq_true (by kernel_rfl)) h0 hn (fun x hx => hlt x (List.mem_append_left _ hx))
  have harg1 : ∀ (W' : World), Below W.heap.size W W' → DataW.Trod enc Tryz.prog W' 0 (fun b => decide (b < W.heap.size)) true 22 (.slice A1 l1.length c1) d1 p1 :=
    fun W' hn => Below.trod Tryz.laidOutT (by kernel_rfl) (of_decide_eq_true (by kernel_rfl)) h1 hn (fun x hx => hlt x (List.mem_append_right _ hx))
  refine (lawSets A0 c0 l0 A1 c1 l1 W (laidLen_shaped hSh) hO0 hO1).mono fun e W' ⟨he, hb⟩ => ?_
  subst he
  refine ⟨_, rfl, _, _, _, [], p0 ++ p1, [], hW', ?_, trodAll_mk2 (harg0 W' hb) (harg1 W' hb), rfl, hb.frame _, fun h => by cases h⟩
  exact trodAll_mk1 (shut_bool Tryz.underlying4 true)
set_option maxHeartbeats 8000000 in
theorem sets_joined : joinedFacts Tryz.prog 8 Tryz.f8 Rows.nettingSetsSpec Rows.nettingSetsRow = true := by
  unfold joinedFacts
  simp only [Bool.and_eq_true]
  and_intros
  all_goals (as_aux_lemma => kernel_rfl)
theorem sets_holds : Rows.NettingSetsSaid :=
  OpenClaim.holds_of_wide 8 Tryz.f8 rfl rfl rfl rfl rfl rfl rfl ⟨rfl, rfl, rfl, rfl, rfl⟩ rfl rfl rfl rfl rfl (by kernel_rfl) Tryz.func8 sets_joined
    (of_decide_eq_true (by kernel_rfl)) (by unfold Func.isWrapper; first | (rw [if_pos (by decide +kernel)]; kernel_rfl) | (rw [if_neg (by decide +kernel)]; exact ⟨rfl, rfl⟩))
    (fun os started H enc _ => sets_lifted os started H enc)
theorem sets_card : Rows.NettingSetsCardSaid :=
  Claim7.holds_tied_plain_at .later [] [.data, .data, .data, .data, .sentinel, .sentinel, .pinned] true (true, "8055ad82f2fead5959431584a245c07a74ff17383831b3ab52567481a6c8d3f9") true
    sets_holds (fun _ h => by cases h) (by kernel_rfl) (fun _ h => by cases h) nettingSets_row_tie rfl ⟨rfl, rfl⟩ (by kernel_rfl) rfl
    (fun f fn hf hfn => by
      obtain rfl : f = 8 := Option.some.inj ((show Tryz.prog.funcNamed "codend/codendlaw01.NettingSets" = some 8 by kernel_rfl).symm.trans hf) |>.symm
      obtain rfl : fn = Tryz.f8 := (Option.some.inj (Tryz.func8.symm.trans hfn)).symm
      exact ⟨by kernel_rfl, fun j t ht => by
        rw [Tryz.params8] at ht
        have hm : t ∈ [22, 22] := by simpa using Array.mem_of_getElem? ht
        have hall : ([22, 22].all fun u => !Tryz.prog.wantsStandIn u) = true := by kernel_rfl
        exact (show Tryz.prog.wantsStandIn t = false by simpa using List.all_eq_true.1 hall t hm)⟩)
    (by kernel_rfl)
#print axioms sets_card
end Go.Proofs.YtdeplhihcifmeaaGreatDoor
