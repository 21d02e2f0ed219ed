/- Helpers: D6. -/
import Derived.Test.YtdeplhihcifmeaaGreatDoorD5
import Derived.Test.YtdeplhihcifmeaaGreatDoorRows
import Derived.Shelf.SlGeneric
import Derived.Shelf.SlLaysF0
import Derived.RangeFuncNested
import Derived.RangeFuncBound
import Derived.RangeFuncCalls
import Derived.RangeFuncLeaves
import Derived.Shelf.Abstract
import Derived.OwnWalkIn
import Derived.TacticsInMore
import Derived.LoopNIn
import Derived.LoopIn
import Derived.Shelf.AbstractIn
import Derived.Deep.RegionHeld3
import Derived.Deep.AppendLies
import Derived.Shelf.Strconv.Itoa4
import Derived.BigQuiet
/- The contract of merge where what the second list lacks is kept. -/
namespace Go.Proofs.YtdeplhihcifmeaaGreatDoor
open Go.RowKit

def mergeM : List Ck.Bar → List Ck.Bar → List Ck.Bar
  | [], _ => []
  | a :: r, [] => a :: r
  | a :: r, b :: r' => if cmpB a b < 0 then a :: mergeM r (b :: r') else if 0 < cmpB a b then mergeM (a :: r) r' else mergeM r r'
termination_by l l' => l.length + l'.length
theorem mergeM_nil (l : List Ck.Bar) : mergeM l [] = l := by cases l <;> simp [mergeM]
theorem headsM_neg {ra rb : List Ck.Bar} (h : headsE ra rb < 0) : ∃ a r, ra = a :: r ∧ mergeM ra rb = a :: mergeM r rb := by
  match ra, rb, h with
  | [], _, h => simp [headsE] at h
  | a :: r, [], _ => exact ⟨a, r, rfl, by rw [mergeM_nil, mergeM_nil]⟩
  | a :: r, b :: r', h =>
    have h' : cmpB a b < 0 := h
    exact ⟨a, r, rfl, by rw [mergeM, if_pos h']⟩
theorem headsM_pos {ra rb : List Ck.Bar} (h : 0 < headsE ra rb) (hne : 0 < ra.length + rb.length) : ∃ b r', rb = b :: r' ∧ mergeM ra rb = mergeM ra r' := by
  match ra, rb, h with
  | [], [], _ => simp at hne
  | [], b :: r', _ => exact ⟨b, r', rfl, by simp [mergeM]⟩
  | a :: r, [], h => simp [headsE] at h
  | a :: r, b :: r', h =>
    have h' : 0 < cmpB a b := h
    exact ⟨b, r', rfl, by rw [mergeM, if_neg (by omega), if_pos h']⟩
theorem headsM_zero {ra rb : List Ck.Bar} (h : headsE ra rb = 0) : ∃ a r r', ra = a :: r ∧ rb = a :: r' ∧ mergeM ra rb = mergeM r r' := by
  match ra, rb, h with
  | [], _, h => simp [headsE] at h
  | a :: r, [], h => simp [headsE] at h
  | a :: r, b :: r', h =>
    have h' : cmpB a b = 0 := h
    have e := (cmpB_zero _ _).1 h'
    subst e
    exact ⟨a, r, r', rfl, rfl, by rw [mergeM, if_neg (by omega), if_neg (by omega)]⟩

set_option maxHeartbeats 400000 in
theorem keepMinus (x y : Bool) (w : World) : Calls Tryz.prog 109 #[.bool x, .bool y] w fun e w' => e = .returned (.bool (x && !y)) ∧ w = w' := by
  cases x
  all_goals
    go_enter Tryz.func109, Tryz.ntmps109
    go_wp2
    go_ret
    exact ⟨rfl, rfl⟩
theorem keepM10 (w : World) : Calls Tryz.prog 109 #[.bool true, .bool false] w fun e w' => e = .returned (.bool true) ∧ w = w' := keepMinus true false w
theorem keepM11 (w : World) : Calls Tryz.prog 109 #[.bool true, .bool true] w fun e w' => e = .returned (.bool false) ∧ w = w' := keepMinus true true w
theorem keepM01 (w : World) : Calls Tryz.prog 109 #[.bool false, .bool true] w fun e w' => e = .returned (.bool false) ∧ w = w' := keepMinus false true w

def MrgMPost (l l' : List Ck.Bar) (w : World) (e : Ending) (w' : World) : Prop :=
  ∃ v, e = .returned v ∧ w'.ownsRow w.heap.size 24 3 v (mergeM l l').length (bcellsL (mergeM l l')) ∧ Below w.heap.size w w'
def mrgMRel (l0 l0' : List Ck.Bar) (w : World) (g : Nat) (va vb vo : Value) (wi : World) : Prop :=
  ∃ A A' c c' ra rb out, g = ra.length + rb.length ∧ va = .slice A ra.length c ∧ vb = .slice A' rb.length c' ∧ ra.length ≤ c ∧ c ≤ 9223372036854775807 ∧ rb.length ≤ c' ∧ c' ≤ 9223372036854775807 ∧ RB wi w.heap.size A ra ∧ RB wi w.heap.size A' rb ∧
    mergeM l0 l0' = out ++ mergeM ra rb ∧ out.length + ra.length + rb.length ≤ l0.length + l0'.length ∧ wi.ownsRow w.heap.size 24 3 vo out.length (bcellsL out) ∧ Below w.heap.size w wi

set_option maxHeartbeats 4000000 in
set_option maxRecDepth 100000 in
theorem netMergeM (A A' : Option Addr) (c c' : Nat) (l l' : List Ck.Bar) (w : World) (hl : l.length ≤ 4096) (hl' : l'.length ≤ 4096) (hc : l.length ≤ c) (hcm : c ≤ maxLen) (hc' : l'.length ≤ c') (hcm' : c' ≤ maxLen) (h : RB w w.heap.size A l) (h' : RB w w.heap.size A' l') :
    Calls Tryz.prog 144 #[.slice A l.length c, .slice A' l'.length c', .func (.func 131) #[] #[], .func (.func 109) #[] #[]] w (MrgMPost l l' w) := by
  obtain ⟨ib, hib, hb0, hb01, hb02⟩ := info_parts Tryz.info24
  have HIB := Lib.hid hib
  have HB0 := Lib.hid hb0
  have HB1 := Lib.hid hb01
  have HB2 := Lib.hid hb02
  have HR := Lib.hid h
  have HR' := Lib.hid h'
  clear hib hb0 hb01 hb02 h h'
  unfold maxLen at hcm hcm'
  go_enter Tryz.func144, Tryz.ntmps144
  go_wp2_with fail
  go_loopg [0, 1, 9, 10, 11] (l.length + l'.length) (fun g va vb vo _ _ wi => mrgMRel l l' w g va vb vo wi)
  case atStart => exact ⟨A, A', c, c', l, l', [], rfl, rfl, rfl, hc, hcm, hc', hcm', HR.out, HR'.out, rfl, by simp, World.ownsRow_nil _ _ _ _, Below.refl _ _⟩
  case round =>
    obtain ⟨A1, A2, c1, c2, ra, rb, out, hg, rfl, rfl, k1, k2, k3, k4, r1, r2, hm, hlen, hown, hb⟩ := hrel
    have HG := Lib.hid hg
    have HM := Lib.hid hm
    have HO := Lib.hid hown
    have HA := Lib.hid r1
    have HB := Lib.hid r2
    have hbz := hb.size
    clear hg hm hown r1 r2
    by_cases hne : 0 < ra.length + rb.length
    · rcases Int.lt_trichotomy (headsE ra rb) 0 with ho | ho | ho
      · obtain ⟨a, r, rfl, hmu⟩ := headsM_neg ho
        have HMU := Lib.hid hmu
        have ho1 : (headsE (a :: r) rb ≤ 0) := by omega
        have ho2 : ¬ (0 ≤ headsE (a :: r) rb) := by omega
        have HRA := HA.out.head
        clear hmu
        obtain ⟨b, off, rfl, hbb, d0, d1, d2, ht⟩ := HRA
        have HT := Lib.hid ht
        clear ht
        generalize hoe : headsE (a :: r) rb = o at ho ho1 ho2
        have hd1 : decide (0 ≤ o) = false := decide_eq_false (by omega)
        have HOE := Lib.hid hoe
        clear hoe
        go_wp2_with fail
        refine (netHeads (some ⟨b, off, none⟩) A2 c1 c2 (a :: r) rb _ (by simp at hlen ⊢; omega) (by simp at hlen; omega) (HA.out.more hbz) (HB.out.more hbz)).mono ?_
        rintro e w2 ⟨rfl, hb2⟩
        rw [HOE.out]
        have hz2 := hb2.size
        have e0 := (hb2.cell (p := ⟨b, off, none⟩) (by show b < _; omega)).trans d0
        have e1 := (hb2.cell (p := ⟨b, off + 1, none⟩) (by show b < _; omega)).trans d1
        have e2 := (hb2.cell (p := ⟨b, off + 2, none⟩) (by show b < _; omega)).trans d2
        clear d0 d1 d2
        obtain ⟨w3, hw3⟩ : ∃ w3, w3 = w2.alloc (.cells #[.int .i64 0, .int .i64 0, .int .i64 0] 24) := ⟨_, rfl⟩
        have hx : w3.heap[w2.heap.size]? = some (.cells #[.int .i64 0, .int .i64 0, .int .i64 0] 24 (0, 0)) := by rw [hw3]; exact heap_alloc_new _ _
        have hb3 : Below w2.heap.size w2 w3 := by rw [hw3]; exact (Below.refl _ _).alloc (Nat.le_refl _) _
        have hz3 : w2.heap.size < w3.heap.size := by rw [hw3]; simp
        obtain ⟨W, hW, hxW, hbW, hzW⟩ := put3 hx (.int .i64 a.x) (.int .i64 a.y) (.int .i64 a.s)
        obtain ⟨f0, f1, f2, ff⟩ := three_of_block hx
        obtain ⟨g0, g1, g2, _⟩ := three_of_block hxW
        have HW3 := Lib.hid hw3
        have HWW := Lib.hid hW
        have HZW := Lib.hid hzW
        clear hzW
        replace e0 := (hb3.cell (p := ⟨b, off, none⟩) (by show b < _; omega)).trans e0
        replace e1 := (hb3.cell (p := ⟨b, off + 1, none⟩) (by show b < _; omega)).trans e1
        replace e2 := (hb3.cell (p := ⟨b, off + 2, none⟩) (by show b < _; omega)).trans e2
        have hq : Below wr.heap.size wr W := (hb2.trans (hb3.mono hz2)).trans (hbW.mono hz2)
        have HOW := Lib.hid (ownsRow_below HO.out hq)
        have hbw := hb.trans (hq.mono hbz)
        have HTW := Lib.hid ((HT.out.below (hq.mono hbz)))
        have HBW := Lib.hid ((HB.out.below (hq.mono hbz)))
        have hi1 : (0 : Int) < (r.length : Int) + 1 := by omega
        have hi2 : (1 : Int) ≤ (r.length : Int) + 1 := by omega
        have hi3 : (r.length : Int) + 1 ≤ (c1 : Int) := by simp at k1; omega
        clear hw3 hW hx hxW
        go_wp2_with fail
        rw [← HW3.out]
        go_region
        rw [← HWW.out]
        generalize hA1 : (if c1 = 1 then some (⟨b, off, none⟩ : Addr) else some ⟨b, off + 3, none⟩) = A1
        have HRA1 := Lib.hid (HTW.out.cut1 (c := c1) (by simp at k1; omega) A1 (fun hne => by rw [← hA1, if_neg hne]))
        clear hA1 e0 e1 e2
        go_wp2_with (first
          | (go_at_call 109; refine (keepM10 _).mono ?_; rintro e w' ⟨rfl, rfl⟩)
          | (at_builtin; refine wpList_append_own _ rfl _ _ 22 rfl w.heap.size 24 ib (.agg #[.int .i64 0, .int .i64 0, .int .i64 0]) 3 24 Tryz.underlying22 HIB.out HB0.out HB1.out HB2.out rfl (by decide) _ _ _ rfl (by exact HOW.out.alloc _) ⟨W.heap.size, 0, none⟩ 1 1 [.int .i64 a.x, .int .i64 a.y, .int .i64 a.s] rfl rfl ?c1 ?c2 ?c3 ?c4 ?c5 ?_))
        case c1 => exact three_new _ _ _ _ _
        case c2 => intro u hu; simp at hu; rcases hu with rfl | rfl | rfl <;> rfl
        case c3 => unfold maxLen; simp at hlen; omega
        case c4 => simp at hlen; omega
        case c5 => have := hbw.size; simp; omega
        intro v' w4 hown4 hgrow4 _
        have hq4 : Below w.heap.size w w4 := (below_drew (hbw.alloc hbw.size (.cells #[.int .i64 a.x, .int .i64 a.y, .int .i64 a.s] 24))).grown hgrow4 (by have := hbw.size; simp; omega) (ownsRow_base HOW.out)
        have hsame : ∀ {X : Option Addr} {q : List Ck.Bar}, RB W w.heap.size X q → RB w4 w.heap.size X q := fun hX => by
          intro hl
          obtain ⟨b', off', e', hb', hc'⟩ := hX hl
          have hk : ∀ o, w4.cell? ⟨b', o, none⟩ = W.cell? ⟨b', o, none⟩ := fun o => (hq4.cell (p := ⟨b', o, none⟩) hb').trans (hbw.cell (p := ⟨b', o, none⟩) hb').symm
          exact ⟨b', off', e', hb', fun i hi => ⟨(hk _).trans (hc' i hi).1, (hk _).trans (hc' i hi).2.1, (hk _).trans (hc' i hi).2.2⟩⟩
        have HRA4 := Lib.hid (hsame HRA1.out)
        have HRB4 := Lib.hid (hsame HBW.out)
        have HO4 := Lib.hid hown4
        clear hown4 hgrow4 hsame
        go_wp2
        go_roundg (r.length + rb.length)
        case measure => rw [HG.out]; simp only [List.length_cons]; omega
        case rel => exact ⟨A1, A2, c1 - 1, c2, r, rb, out ++ [a], rfl, rfl, rfl, by simp at k1; omega, by omega, k3, k4, HRA4.out, HRB4.out, by rw [HM.out, HMU.out]; simp, by simp at hlen ⊢; omega, by rw [bcellsL_snoc, List.length_append]; exact HO4.out, hq4⟩
      · obtain ⟨a, r, r', rfl, rfl, hmu⟩ := headsM_zero ho
        have HMU := Lib.hid hmu
        have ho1 : (headsE (a :: r) (a :: r') ≤ 0) := by omega
        have ho2 : (0 ≤ headsE (a :: r) (a :: r')) := by omega
        have HRA := HA.out.head
        have HRB := HB.out.head
        clear hmu
        obtain ⟨b, off, rfl, hbb, d0, d1, d2, ht⟩ := HRA
        have HT := Lib.hid ht
        clear ht
        obtain ⟨b', off', rfl, hbb', d0', d1', d2', ht'⟩ := HRB
        have HT' := Lib.hid ht'
        clear ht'
        generalize hoe : headsE (a :: r) (a :: r') = o at ho ho1 ho2
        have HOE := Lib.hid hoe
        clear hoe
        go_wp2_with fail
        refine (netHeads (some ⟨b, off, none⟩) (some ⟨b', off', none⟩) c1 c2 (a :: r) (a :: r') _ (by simp at hlen ⊢; omega) (by simp at hlen ⊢; omega) (HA.out.more hbz) (HB.out.more hbz)).mono ?_
        rintro e w2 ⟨rfl, hb2⟩
        rw [HOE.out]
        have hz2 := hb2.size
        have e0 := (hb2.cell (p := ⟨b, off, none⟩) (by show b < _; omega)).trans d0
        have e0' := (hb2.cell (p := ⟨b', off', none⟩) (by show b' < _; omega)).trans d0'
        have e1 := (hb2.cell (p := ⟨b, off + 1, none⟩) (by show b < _; omega)).trans d1
        have e1' := (hb2.cell (p := ⟨b', off' + 1, none⟩) (by show b' < _; omega)).trans d1'
        have e2 := (hb2.cell (p := ⟨b, off + 2, none⟩) (by show b < _; omega)).trans d2
        have e2' := (hb2.cell (p := ⟨b', off' + 2, none⟩) (by show b' < _; omega)).trans d2'
        clear d0 d1 d2 d0' d1' d2'
        obtain ⟨w3, hw3⟩ : ∃ w3, w3 = w2.alloc (.cells #[.int .i64 0, .int .i64 0, .int .i64 0] 24) := ⟨_, rfl⟩
        have hx : w3.heap[w2.heap.size]? = some (.cells #[.int .i64 0, .int .i64 0, .int .i64 0] 24 (0, 0)) := by rw [hw3]; exact heap_alloc_new _ _
        have hb3 : Below w2.heap.size w2 w3 := by rw [hw3]; exact (Below.refl _ _).alloc (Nat.le_refl _) _
        have hz3 : w2.heap.size < w3.heap.size := by rw [hw3]; simp
        obtain ⟨W, hW, hxW, hbW, hzW⟩ := put3 hx (.int .i64 a.x) (.int .i64 a.y) (.int .i64 a.s)
        obtain ⟨f0, f1, f2, ff⟩ := three_of_block hx
        obtain ⟨g0, g1, g2, gf⟩ := three_of_block hxW
        obtain ⟨V, hV, hxV, hbV, hzV⟩ := put3 hxW (.int .i64 a.x) (.int .i64 a.y) (.int .i64 a.s)
        obtain ⟨q0, q1, q2, _⟩ := three_of_block hxV
        have HVV := Lib.hid hV
        clear hV hzV
        have HW3 := Lib.hid hw3
        have HWW := Lib.hid hW
        have HZW := Lib.hid hzW
        clear hzW
        replace e0 := (hb3.cell (p := ⟨b, off, none⟩) (by show b < _; omega)).trans e0
        replace e0' := (hbW.cell (p := ⟨b', off', none⟩) (by show b' < _; omega)).trans ((hb3.cell (p := ⟨b', off', none⟩) (by show b' < _; omega)).trans e0')
        replace e1 := (hb3.cell (p := ⟨b, off + 1, none⟩) (by show b < _; omega)).trans e1
        replace e1' := (hbW.cell (p := ⟨b', off' + 1, none⟩) (by show b' < _; omega)).trans ((hb3.cell (p := ⟨b', off' + 1, none⟩) (by show b' < _; omega)).trans e1')
        replace e2 := (hb3.cell (p := ⟨b, off + 2, none⟩) (by show b < _; omega)).trans e2
        replace e2' := (hbW.cell (p := ⟨b', off' + 2, none⟩) (by show b' < _; omega)).trans ((hb3.cell (p := ⟨b', off' + 2, none⟩) (by show b' < _; omega)).trans e2')
        have hq : Below wr.heap.size wr W := (hb2.trans (hb3.mono hz2)).trans (hbW.mono hz2)
        have hqv : Below wr.heap.size wr V := hq.trans (hbV.mono hz2)
        have HOW := Lib.hid (ownsRow_below HO.out hqv)
        have hbw := hb.trans (hqv.mono hbz)
        have HTW := Lib.hid ((HT.out.below (hqv.mono hbz)))
        have HBW := Lib.hid ((HT'.out.below (hqv.mono hbz)))
        have hi4 : (0 : Int) < (r'.length : Int) + 1 := by omega
        have hi5 : (1 : Int) ≤ (r'.length : Int) + 1 := by omega
        have hi6 : (r'.length : Int) + 1 ≤ (c2 : Int) := by simp at k3; omega
        have hi1 : (0 : Int) < (r.length : Int) + 1 := by omega
        have hi2 : (1 : Int) ≤ (r.length : Int) + 1 := by omega
        have hi3 : (r.length : Int) + 1 ≤ (c1 : Int) := by simp at k1; omega
        clear hw3 hW hx hxW
        go_wp2_with fail
        rw [← HW3.out]
        go_region
        rw [← HWW.out]
        generalize hA1 : (if c1 = 1 then some (⟨b, off, none⟩ : Addr) else some ⟨b, off + 3, none⟩) = A1
        have HRA1 := Lib.hid (HTW.out.cut1 (c := c1) (by simp at k1; omega) A1 (fun hne => by rw [← hA1, if_neg hne]))
        clear hA1 e0 e1 e2
        go_wp2_with fail
        go_region
        rw [← HVV.out]
        generalize hA3 : (if c2 = 1 then some (⟨b', off', none⟩ : Addr) else some ⟨b', off' + 3, none⟩) = A3
        have HRA3 := Lib.hid (HBW.out.cut1 (c := c2) (by simp at k3; omega) A3 (fun hne => by rw [← hA3, if_neg hne]))
        clear hA3 e0' e1' e2'
        go_wp2_with (go_at_call 109; refine (keepM11 _).mono ?_; rintro e w' ⟨rfl, rfl⟩)
        go_roundg (r.length + r'.length)
        case measure => rw [HG.out]; simp only [List.length_cons]; omega
        case rel => exact ⟨A1, A3, c1 - 1, c2 - 1, r, r', out, rfl, rfl, rfl, by simp at k1; omega, by omega, by simp at k3; omega, by omega, HRA1.out, HRA3.out, by rw [HM.out, HMU.out], by simp at hlen ⊢; omega, HOW.out, by first | exact hbw | exact below_drew hbw | exact below_drew (below_drew hbw)⟩
      · obtain ⟨a, r, rfl, hmu⟩ := headsM_pos ho hne
        rcases ra with _ | ⟨x, rx⟩
        · skip
          have HMU := Lib.hid hmu
          have ho1 : ¬ (headsE ([] : List Ck.Bar) (a :: r) ≤ 0) := by omega
          have ho2 : (0 ≤ headsE ([] : List Ck.Bar) (a :: r)) := by omega
          have HRA := HB.out.head
          clear hmu
          obtain ⟨b, off, rfl, hbb, d0, d1, d2, ht⟩ := HRA
          have HT := Lib.hid ht
          clear ht
          generalize hoe : headsE ([] : List Ck.Bar) (a :: r) = o at ho ho1 ho2
          have hd1 : decide (o ≤ 0) = false := decide_eq_false (by omega)
          have HOE := Lib.hid hoe
          clear hoe
          go_wp2_with fail
          refine (netHeads A1 (some ⟨b, off, none⟩) c1 c2 ([] : List Ck.Bar) (a :: r) _ (by simp only [List.length_cons, List.length_nil] at hlen ⊢; omega) (by simp only [List.length_cons, List.length_nil] at hlen ⊢; omega) (HA.out.more hbz) (HB.out.more hbz)).mono ?_
          rintro e w2 ⟨rfl, hb2⟩
          rw [HOE.out]
          have hz2 := hb2.size
          have e0 := (hb2.cell (p := ⟨b, off, none⟩) (by show b < _; omega)).trans d0
          have e1 := (hb2.cell (p := ⟨b, off + 1, none⟩) (by show b < _; omega)).trans d1
          have e2 := (hb2.cell (p := ⟨b, off + 2, none⟩) (by show b < _; omega)).trans d2
          clear d0 d1 d2
          obtain ⟨w3, hw3⟩ : ∃ w3, w3 = w2.alloc (.cells #[.int .i64 0, .int .i64 0, .int .i64 0] 24) := ⟨_, rfl⟩
          have hx : w3.heap[w2.heap.size]? = some (.cells #[.int .i64 0, .int .i64 0, .int .i64 0] 24 (0, 0)) := by rw [hw3]; exact heap_alloc_new _ _
          have hb3 : Below w2.heap.size w2 w3 := by rw [hw3]; exact (Below.refl _ _).alloc (Nat.le_refl _) _
          have hz3 : w2.heap.size < w3.heap.size := by rw [hw3]; simp
          obtain ⟨W, hW, hxW, hbW, hzW⟩ := put3 hx (.int .i64 a.x) (.int .i64 a.y) (.int .i64 a.s)
          obtain ⟨f0, f1, f2, ff⟩ := three_of_block hx
          obtain ⟨g0, g1, g2, _⟩ := three_of_block hxW
          have HW3 := Lib.hid hw3
          have HWW := Lib.hid hW
          have HZW := Lib.hid hzW
          clear hzW
          replace e0 := (hb3.cell (p := ⟨b, off, none⟩) (by show b < _; omega)).trans e0
          replace e1 := (hb3.cell (p := ⟨b, off + 1, none⟩) (by show b < _; omega)).trans e1
          replace e2 := (hb3.cell (p := ⟨b, off + 2, none⟩) (by show b < _; omega)).trans e2
          have hq : Below wr.heap.size wr W := (hb2.trans (hb3.mono hz2)).trans (hbW.mono hz2)
          have HOW := Lib.hid (ownsRow_below HO.out hq)
          have hbw := hb.trans (hq.mono hbz)
          have HTW := Lib.hid ((HT.out.below (hq.mono hbz)))
          have HBW := Lib.hid ((HA.out.below (hq.mono hbz)))
          have hi1 : (0 : Int) < (r.length : Int) + 1 := by omega
          have hi2 : (1 : Int) ≤ (r.length : Int) + 1 := by omega
          have hi3 : (r.length : Int) + 1 ≤ (c2 : Int) := by simp at k3; omega
          clear hw3 hW hx hxW
          go_wp2_with fail
          rw [← HW3.out]
          go_region
          rw [← HWW.out]
          generalize hA1 : (if c2 = 1 then some (⟨b, off, none⟩ : Addr) else some ⟨b, off + 3, none⟩) = A3
          have HRA1 := Lib.hid (HTW.out.cut1 (c := c2) (by simp at k3; omega) A3 (fun hne => by rw [← hA1, if_neg hne]))
          clear hA1 e0 e1 e2
          go_wp2_with (go_at_call 109; refine (keepM01 _).mono ?_; rintro e w' ⟨rfl, rfl⟩)
          go_roundg (([] : List Ck.Bar).length + r.length)
          case measure => rw [HG.out]; simp only [List.length_cons, List.length_nil]; omega
          case rel => exact ⟨A1, A3, c1, c2 - 1, ([] : List Ck.Bar), r, out, rfl, rfl, rfl, k1, k2, by simp at k3; omega, by omega, HBW.out, HRA1.out, by rw [HM.out, HMU.out], by simp at hlen ⊢; omega, HOW.out, by first | exact hbw | exact below_drew hbw | exact below_drew (below_drew hbw)⟩
        · skip
          have HMU := Lib.hid hmu
          have ho1 : ¬ (headsE (x :: rx) (a :: r) ≤ 0) := by omega
          have ho2 : (0 ≤ headsE (x :: rx) (a :: r)) := by omega
          have HRA := HB.out.head
          clear hmu
          obtain ⟨b, off, rfl, hbb, d0, d1, d2, ht⟩ := HRA
          have HT := Lib.hid ht
          clear ht
          generalize hoe : headsE (x :: rx) (a :: r) = o at ho ho1 ho2
          have hd1 : decide (o ≤ 0) = false := decide_eq_false (by omega)
          have HOE := Lib.hid hoe
          clear hoe
          go_wp2_with fail
          refine (netHeads A1 (some ⟨b, off, none⟩) c1 c2 (x :: rx) (a :: r) _ (by simp only [List.length_cons] at hlen ⊢; omega) (by simp only [List.length_cons] at hlen ⊢; omega) (HA.out.more hbz) (HB.out.more hbz)).mono ?_
          rintro e w2 ⟨rfl, hb2⟩
          rw [HOE.out]
          have hz2 := hb2.size
          have e0 := (hb2.cell (p := ⟨b, off, none⟩) (by show b < _; omega)).trans d0
          have e1 := (hb2.cell (p := ⟨b, off + 1, none⟩) (by show b < _; omega)).trans d1
          have e2 := (hb2.cell (p := ⟨b, off + 2, none⟩) (by show b < _; omega)).trans d2
          clear d0 d1 d2
          obtain ⟨w3, hw3⟩ : ∃ w3, w3 = w2.alloc (.cells #[.int .i64 0, .int .i64 0, .int .i64 0] 24) := ⟨_, rfl⟩
          have hx : w3.heap[w2.heap.size]? = some (.cells #[.int .i64 0, .int .i64 0, .int .i64 0] 24 (0, 0)) := by rw [hw3]; exact heap_alloc_new _ _
          have hb3 : Below w2.heap.size w2 w3 := by rw [hw3]; exact (Below.refl _ _).alloc (Nat.le_refl _) _
          have hz3 : w2.heap.size < w3.heap.size := by rw [hw3]; simp
          obtain ⟨W, hW, hxW, hbW, hzW⟩ := put3 hx (.int .i64 a.x) (.int .i64 a.y) (.int .i64 a.s)
          obtain ⟨f0, f1, f2, ff⟩ := three_of_block hx
          obtain ⟨g0, g1, g2, _⟩ := three_of_block hxW
          have HW3 := Lib.hid hw3
          have HWW := Lib.hid hW
          have HZW := Lib.hid hzW
          clear hzW
          replace e0 := (hb3.cell (p := ⟨b, off, none⟩) (by show b < _; omega)).trans e0
          replace e1 := (hb3.cell (p := ⟨b, off + 1, none⟩) (by show b < _; omega)).trans e1
          replace e2 := (hb3.cell (p := ⟨b, off + 2, none⟩) (by show b < _; omega)).trans e2
          have hq : Below wr.heap.size wr W := (hb2.trans (hb3.mono hz2)).trans (hbW.mono hz2)
          have HOW := Lib.hid (ownsRow_below HO.out hq)
          have hbw := hb.trans (hq.mono hbz)
          have HTW := Lib.hid ((HT.out.below (hq.mono hbz)))
          have HBW := Lib.hid ((HA.out.below (hq.mono hbz)))
          have hi1 : (0 : Int) < (r.length : Int) + 1 := by omega
          have hi2 : (1 : Int) ≤ (r.length : Int) + 1 := by omega
          have hi3 : (r.length : Int) + 1 ≤ (c2 : Int) := by simp at k3; omega
          clear hw3 hW hx hxW
          go_wp2_with fail
          rw [← HW3.out]
          go_region
          rw [← HWW.out]
          generalize hA1 : (if c2 = 1 then some (⟨b, off, none⟩ : Addr) else some ⟨b, off + 3, none⟩) = A3
          have HRA1 := Lib.hid (HTW.out.cut1 (c := c2) (by simp at k3; omega) A3 (fun hne => by rw [← hA1, if_neg hne]))
          clear hA1 e0 e1 e2
          go_wp2_with (go_at_call 109; refine (keepM01 _).mono ?_; rintro e w' ⟨rfl, rfl⟩)
          go_roundg ((x :: rx).length + r.length)
          case measure => rw [HG.out]; simp only [List.length_cons]; omega
          case rel => exact ⟨A1, A3, c1, c2 - 1, (x :: rx), r, out, rfl, rfl, rfl, k1, k2, by simp at k3; omega, by omega, HBW.out, HRA1.out, by rw [HM.out, HMU.out], by simp at hlen ⊢; omega, HOW.out, by first | exact hbw | exact below_drew hbw | exact below_drew (below_drew hbw)⟩
    · have h1 : ra = [] := List.eq_nil_of_length_eq_zero (by omega)
      have h2 : rb = [] := List.eq_nil_of_length_eq_zero (by omega)
      subst h1
      subst h2
      go_wp2
      go_ret
      have hfin := HM.out
      simp only [mergeM, List.append_nil] at hfin
      exact ⟨_, rfl, by rw [hfin]; exact HO.out, hb⟩
end Go.Proofs.YtdeplhihcifmeaaGreatDoor

/- Minus at valid nets; plain mathematics of what is left. -/
namespace Go.Proofs.YtdeplhihcifmeaaGreatDoor
open Go.RowKit

def MinPost (l l' : List Ck.Bar) (w : World) (e : Ending) (w' : World) : Prop :=
  ∃ v, e = .returned (.tuple #[v, .int .i64 0]) ∧ w'.ownsRow w.heap.size 24 3 v (mergeM l l').length (bcellsL (mergeM l l')) ∧ Below w.heap.size w w'

set_option maxHeartbeats 2000000 in
set_option maxRecDepth 100000 in
theorem netMergedM (A A' : Option Addr) (c c' : Nat) (l l' : List Ck.Bar) (w : World) (hl : l.length ≤ 4096) (hl' : l'.length ≤ 4096) (hc : l.length ≤ c) (hcm : c ≤ maxLen) (hc' : l'.length ≤ c') (hcm' : c' ≤ maxLen) (hN : Ck.Net l) (hN' : Ck.Net l') (h : RB w w.heap.size A l) (h' : RB w w.heap.size A' l') :
    Calls Tryz.prog 107 #[.slice A l.length c, .slice A' l'.length c', .func (.func 109) #[] #[]] w (MinPost l l' w) := by
  have HR := Lib.hid h
  have HR' := Lib.hid h'
  have HE := Lib.hid ((netE_zero l).2 ⟨hl, hN⟩)
  have HE' := Lib.hid ((netE_zero l').2 ⟨hl', hN'⟩)
  clear h h' hN hN'
  go_enter Tryz.func107, Tryz.ntmps107
  go_wp2_with fail
  refine (netCheckNet A c l _ hl hc hcm HR.out).mono ?_
  rintro e w1 ⟨rfl, hb1⟩
  rw [HE.out]
  go_wp2_with fail
  refine (netCheckNet A' c' l' _ hl' hc' hcm' ((HR'.out.below hb1).more hb1.size)).mono ?_
  rintro e w2 ⟨rfl, hb2⟩
  rw [HE'.out]
  have hq2 := hb1.trans (hb2.mono hb1.size)
  go_wp2_with fail
  refine (netFirst2 _ _ 0 0 32 _ (by exact heap_alloc_new _ _)).mono ?_
  rintro e w3 ⟨rfl, rfl⟩
  rw [show firstE [0, 0] = 0 from rfl]
  have hq3 := hq2.alloc hq2.size (.cells #[.int .i64 0, .int .i64 0] 32)
  go_wp2_with fail
  refine (netMergeM A A' c c' l l' _ hl hl' hc hcm hc' hcm' ((HR.out.below hq3).more hq3.size) ((HR'.out.below hq3).more hq3.size)).mono ?_
  rintro e w4 ⟨v, rfl, hown, hb4⟩
  have HO := Lib.hid (ownsRow_mono hown hq3.size)
  clear hown
  go_wp2
  go_ret2
  exact ⟨v, rfl, HO.out, hq3.trans (hb4.mono hq3.size)⟩

set_option maxHeartbeats 2000000 in
set_option maxRecDepth 100000 in
theorem netMinus (A A' : Option Addr) (c c' : Nat) (l l' : List Ck.Bar) (w : World) (hl : l.length ≤ 4096) (hl' : l'.length ≤ 4096) (hc : l.length ≤ c) (hcm : c ≤ maxLen) (hc' : l'.length ≤ c') (hcm' : c' ≤ maxLen) (hN : Ck.Net l) (hN' : Ck.Net l') (h : RB w w.heap.size A l) (h' : RB w w.heap.size A' l') :
    Calls Tryz.prog 58 #[.slice A l.length c, .slice A' l'.length c'] w (MinPost l l' w) := by
  have ex0 : ∀ (a b : Value) (w : World), (Instr.extract (.tuple #[a, b]) 0).run Tryz.prog w = .ok a w := fun _ _ _ => by kernel_rfl
  have ex1 : ∀ (a b : Value) (w : World), (Instr.extract (.tuple #[a, b]) 1).run Tryz.prog w = .ok b w := fun _ _ _ => by kernel_rfl
  go_enter Tryz.func58, Tryz.ntmps58
  go_wp2_with fail
  refine (netMergedM A A' c c' l l' _ hl hl' hc hcm hc' hcm' hN hN' h h').mono ?_
  rintro e w1 ⟨v, rfl, hown, hb1⟩
  obtain ⟨a, cv, rfl, _, _⟩ := own_slice hown
  have HO := Lib.hid hown
  clear hown
  generalize hn : (mergeM l l').length = n
  have HN := Lib.hid hn
  clear hn
  go_wp2
  go_ret2
  exact ⟨.slice a n cv, rfl, by have h9 := HO.out; rw [HN.out] at h9 ⊢; exact h9, hb1⟩


open Ck
theorem mergeM_one_lt {x : Bar} {l : List Bar} (h : ∀ b ∈ l, Blt x b) : mergeM l [x] = l := by
  cases l with
  | nil => simp [mergeM]
  | cons b r =>
    have hb := h b (by simp)
    have h1 : ¬ cmpB b x < 0 := fun hh => (hb.trans ((cmpB_lt_iff b x).1 hh)).irrefl
    have h2 : 0 < cmpB b x := by
      have h0 : cmpB b x ≠ 0 := fun e => by have := (cmpB_zero b x).1 e; subst this; exact hb.irrefl
      omega
    rw [mergeM, if_neg h1, if_pos h2, mergeM_nil]
/-- One bar less: the bar is taken out of the list. -/
theorem mergeM_one {x : Bar} : ∀ {l : List Bar}, l.Pairwise Blt → mergeM l [x] = l.filter (fun b => decide (b ≠ x))
  | [], _ => by simp [mergeM]
  | b :: r, h => by
    obtain ⟨h1, h2⟩ := List.pairwise_cons.1 h
    rcases Blt.tri b x with hb | hb | hb
    · rw [mergeM, if_pos ((cmpB_lt_iff b x).2 hb), mergeM_one h2, List.filter_cons_of_pos]
      have : b ≠ x := fun e => by subst e; exact hb.irrefl
      simpa using this
    · subst hb
      have e0 := (cmpB_zero b b).2 rfl
      rw [mergeM, if_neg (by omega), if_neg (by omega), mergeM_nil]
      rw [List.filter_cons_of_neg (by simp), List.filter_eq_self.2]
      intro c hc
      have : c ≠ b := fun e => by subst e; exact (h1 c hc).irrefl
      simpa using this
    · rw [mergeM_one_lt (fun c hc => by rcases List.mem_cons.1 hc with rfl | hc; exact hb; exact hb.trans (h1 c hc)), List.filter_eq_self.2]
      intro c hc
      have : c ≠ x := by
        rintro rfl
        rcases List.mem_cons.1 hc with e | hc
        · subst e; exact hb.irrefl
        · exact (hb.trans (h1 c hc)).irrefl
      simpa using this
theorem sorted_unique : ∀ {l l' : List Bar}, l.Pairwise Blt → l'.Pairwise Blt → (∀ b, b ∈ l ↔ b ∈ l') → l = l'
  | [], [], _, _, _ => rfl
  | [], b :: r', _, _, h => absurd ((h b).2 (by simp)) (by simp)
  | a :: r, [], _, _, h => absurd ((h a).1 (by simp)) (by simp)
  | a :: r, b :: r', h1, h2, h => by
    obtain ⟨k1, k2⟩ := List.pairwise_cons.1 h1
    obtain ⟨m1, m2⟩ := List.pairwise_cons.1 h2
    have e : a = b := by
      rcases List.mem_cons.1 ((h a).1 (by simp)) with e | e
      · exact e
      · rcases List.mem_cons.1 ((h b).2 (by simp)) with e' | e'
        · exact e'.symm
        · exact ((m1 a e).trans (k1 b e')).irrefl.elim
    subst e
    rw [sorted_unique k2 m2 fun c => ?_]
    constructor
    · intro hc
      rcases List.mem_cons.1 ((h c).1 (by simp [hc])) with e | e
      · subst e; exact (k1 c hc).irrefl.elim
      · exact e
    · intro hc
      rcases List.mem_cons.1 ((h c).2 (by simp [hc])) with e | e
      · subst e; exact (m1 c hc).irrefl.elim
      · exact e
/-- Put back, the bar stands where it stood. -/
theorem mergeU_one {x : Bar} {l : List Bar} (h : l.Pairwise Blt) (hx : x ∈ l) : mergeU (l.filter (fun b => decide (b ≠ x))) [x] = l := by
  refine sorted_unique (mergeU_sorted _ _ (h.filter _) (by simp)) h fun b => ?_
  rw [mergeU_mem, List.mem_filter]
  constructor
  · rintro (⟨h1, _⟩ | h1)
    · exact h1
    · simp at h1; subst h1; exact hx
  · intro hb
    by_cases e : b = x
    · exact .inr (by simp [e])
    · exact .inl ⟨hb, by simpa using e⟩
theorem filter_length {x : Bar} {l : List Bar} (h : l.Pairwise Blt) (hx : x ∈ l) : (l.filter (fun b => decide (b ≠ x))).length + 1 = l.length := by
  induction l with
  | nil => simp at hx
  | cons b r ih =>
    obtain ⟨h1, h2⟩ := List.pairwise_cons.1 h
    by_cases e : b = x
    · subst e
      rw [List.filter_cons_of_neg (by simp), List.filter_eq_self.2]
      · rfl
      · intro c hc
        have : c ≠ b := fun e => by subst e; exact (h1 c hc).irrefl
        simpa using this
    · rw [List.filter_cons_of_pos (by simpa using e)]
      have := ih h2 (by rcases List.mem_cons.1 hx with rfl | hx; exact absurd rfl e; exact hx)
      simp only [List.length_cons]; omega
end Go.Proofs.YtdeplhihcifmeaaGreatDoor

/- A sheet is a net: plain mathematics. -/
namespace Go.Proofs.YtdeplhihcifmeaaGreatDoor
open Ck

theorem cell_mem {x y : Int} {r c : Nat} {b : Bar} (h : b ∈ cellL x y r c) :
    (b.y = y + (r : Int)) ∧ ((r % 2 = 1 ∧ b.x = x + 2 * (c : Int) + 1 ∧ (b.s = -1 ∨ b.s = 1)) ∨ (r % 2 = 0 ∧ (b.x = x + 2 * (c : Int) ∧ b.s = 1 ∨ b.x = x + 2 * (c : Int) + 2 ∧ b.s = -1))) := by
  unfold cellL cel0 cel1 oddB at h
  by_cases ho : r % 2 = 1
  · simp [ho] at h
    rcases h with rfl | rfl
    · exact ⟨rfl, .inl ⟨ho, rfl, .inl rfl⟩⟩
    · exact ⟨rfl, .inl ⟨ho, rfl, .inr rfl⟩⟩
  · have h0 : r % 2 = 0 := by omega
    simp [h0] at h
    rcases h with rfl | rfl
    · exact ⟨rfl, .inr ⟨h0, .inl ⟨rfl, rfl⟩⟩⟩
    · exact ⟨rfl, .inr ⟨h0, .inr ⟨rfl, rfl⟩⟩⟩
theorem cell_pair (x y : Int) (r c : Nat) : (cellL x y r c).Pairwise Blt := by
  unfold cellL cel0 cel1
  cases oddB r <;> simp [Blt] <;> omega
theorem row_mem {x y : Int} {r k : Nat} {b : Bar} (h : b ∈ rowL x y r k) : ∃ c, c < k ∧ b ∈ cellL x y r c := by
  obtain ⟨c, hc, hb⟩ := List.mem_flatMap.1 h
  exact ⟨c, List.mem_range.1 hc, hb⟩
theorem row_pair (x y : Int) (r : Nat) : ∀ k, (rowL x y r k).Pairwise Blt
  | 0 => by simp [rowL]
  | k + 1 => by
    rw [rowL_succ]
    refine List.pairwise_append.2 ⟨row_pair x y r k, cell_pair x y r k, fun a ha b hb => ?_⟩
    obtain ⟨c, hc, ha⟩ := row_mem ha
    obtain ⟨h1, h2⟩ := cell_mem ha
    obtain ⟨k1, k2⟩ := cell_mem hb
    unfold Blt
    omega
theorem sheet_mem {x y : Int} {cols r : Nat} {b : Bar} (h : b ∈ sheetP x y cols r) : ∃ q, q < r ∧ ∃ c, c < cols ∧ b ∈ cellL x y q c := by
  obtain ⟨q, hq, hb⟩ := List.mem_flatMap.1 h
  exact ⟨q, List.mem_range.1 hq, row_mem hb⟩
theorem sheet_pair (x y : Int) (cols : Nat) : ∀ r, (sheetP x y cols r).Pairwise Blt
  | 0 => by simp [sheetP]
  | r + 1 => by
    rw [sheetP_succ]
    refine List.pairwise_append.2 ⟨sheet_pair x y cols r, row_pair x y r cols, fun a ha b hb => ?_⟩
    obtain ⟨q, hq, c, hc, ha⟩ := sheet_mem ha
    obtain ⟨c', hc', hb⟩ := row_mem hb
    have h1 := (cell_mem ha).1
    have h2 := (cell_mem hb).1
    unfold Blt
    omega
theorem sheet_net {x y : Int} {cols rows : Nat} (hk : okKnot ⟨x, y⟩) (hx : inPlace (x + 2 * (cols : Int))) (hy : inPlace (y + (rows : Int))) : Net (sheetP x y cols rows) := by
  refine ⟨fun b hb => ?_, sheet_pair x y cols rows⟩
  obtain ⟨q, hq, c, hc, hb⟩ := sheet_mem hb
  obtain ⟨h1, h2⟩ := cell_mem hb
  obtain ⟨⟨k1, k2⟩, ⟨k3, k4⟩, k5⟩ := hk
  unfold inPlace at hx hy
  simp only [okBar, okKnot, Bar.lo, Bar.hi, inPlace]
  simp only at k1 k2 k3 k4 k5
  omega
end Go.Proofs.YtdeplhihcifmeaaGreatDoor

/- The sort of the library laid (knots) at this program, at bars and at knots. -/
namespace Go.Proofs.YtdeplhihcifmeaaGreatDoor
open Go.Shelf
def Tryz.sortK_ren : Go.Shelf.Ren := ⟨fun | 6 => 136 | 15 => 165 | 14 => 164 | 28 => 186 | 29 => 187 | 20 => 178 | 21 => 179 | 22 => 180 | 23 => 181 | 24 => 182 | 25 => 183 | 26 => 184 | 27 => 185 | 46 => 208 | 47 => 209 | 48 => 210 | 49 => 211 | 50 => 212 | 57 => 231 | n => n, fun | 22 => 62 | 24 => 26 | 25 => 141 | 3 => 3 | 39 => 202 | 0 => 0 | 53 => 222 | 55 => 224 | 4 => 4 | 46 => 216 | 45 => 215 | 50 => 175 | 5 => 5 | 9 => 9 | 66 => 238 | 70 => 242 | 76 => 259 | 77 => 260 | n => n, fun | n => n⟩
theorem Tryz.sortK : Go.Proofs.SlLaysF0.n6 Tryz.prog Tryz.sortK_ren := {
  mixed := by kernel_rfl,
  f6 := ⟨Tryz.f136.name, by decide, Tryz.func136.trans (congrArg some (by kernel_rfl))⟩,
  f14 := ⟨Tryz.f164.name, by decide, Tryz.func164.trans (congrArg some (by kernel_rfl))⟩,
  f15 := Tryz.func165.trans (congrArg some (by kernel_rfl)),
  f20 := ⟨Tryz.f178.name, by decide, Tryz.func178.trans (congrArg some (by kernel_rfl))⟩,
  f21 := ⟨Tryz.f179.name, by decide, Tryz.func179.trans (congrArg some (by kernel_rfl))⟩,
  f22 := ⟨Tryz.f180.name, by decide, Tryz.func180.trans (congrArg some (by kernel_rfl))⟩,
  f23 := ⟨Tryz.f181.name, by decide, Tryz.func181.trans (congrArg some (by kernel_rfl))⟩,
  f24 := ⟨Tryz.f182.name, by decide, Tryz.func182.trans (congrArg some (by kernel_rfl))⟩,
  f25 := ⟨Tryz.f183.name, by decide, Tryz.func183.trans (congrArg some (by kernel_rfl))⟩,
  f26 := ⟨Tryz.f184.name, by decide, Tryz.func184.trans (congrArg some (by kernel_rfl))⟩,
  f27 := ⟨Tryz.f185.name, by decide, Tryz.func185.trans (congrArg some (by kernel_rfl))⟩,
  f28 := Tryz.func186.trans (congrArg some (by kernel_rfl)),
  f29 := Tryz.func187.trans (congrArg some (by kernel_rfl)),
  f46 := ⟨Tryz.f208.name, by decide, Tryz.func208.trans (congrArg some (by kernel_rfl))⟩,
  f47 := Tryz.func209.trans (congrArg some (by kernel_rfl)),
  f48 := Tryz.func210.trans (congrArg some (by kernel_rfl)),
  f49 := ⟨Tryz.f211.name, by decide, Tryz.func211.trans (congrArg some (by kernel_rfl))⟩,
  f50 := ⟨Tryz.f212.name, by decide, Tryz.func212.trans (congrArg some (by kernel_rfl))⟩,
  f57 := ⟨Tryz.f231.name, by decide, Tryz.func231.trans (congrArg some (by kernel_rfl))⟩,
  t0 := Tryz.underlying0,
  a0 := Tryz.isAgg0,
  z0 := Tryz.sizeOf0,
  v0 := Tryz.zeroValue0,
  t3 := Tryz.underlying3,
  a3 := Tryz.isAgg3,
  z3 := Tryz.sizeOf3,
  v3 := Tryz.zeroValue3,
  t4 := Tryz.underlying4,
  a4 := Tryz.isAgg4,
  z4 := Tryz.sizeOf4,
  v4 := Tryz.zeroValue4,
  t5 := Tryz.underlying5,
  a5 := Tryz.isAgg5,
  z5 := Tryz.sizeOf5,
  v5 := Tryz.zeroValue5,
  t9 := Tryz.underlying9,
  a9 := Tryz.isAgg9,
  z9 := Tryz.sizeOf9,
  v9 := Tryz.zeroValue9,
  t22 := Tryz.underlying62,
  a22 := Tryz.isAgg62,
  z22 := Tryz.sizeOf62,
  v22 := Tryz.zeroValue62,
  t25 := Tryz.underlying141,
  a25 := Tryz.isAgg141,
  z25 := Tryz.sizeOf141,
  v25 := Tryz.zeroValue141,
  t39 := Tryz.underlying202,
  a39 := Tryz.isAgg202,
  z39 := Tryz.sizeOf202,
  v39 := Tryz.zeroValue202,
  t45 := Tryz.underlying215,
  a45 := Tryz.isAgg215,
  z45 := Tryz.sizeOf215,
  v45 := Tryz.zeroValue215,
  t46 := Tryz.underlying216,
  a46 := Tryz.isAgg216,
  z46 := Tryz.sizeOf216,
  v46 := Tryz.zeroValue216,
  t50 := Tryz.underlying175,
  a50 := Tryz.isAgg175,
  z50 := Tryz.sizeOf175,
  v50 := Tryz.zeroValue175,
  t53 := Tryz.underlying222,
  a53 := Tryz.isAgg222,
  z53 := Tryz.sizeOf222,
  v53 := Tryz.zeroValue222,
  t55 := Tryz.underlying224,
  a55 := Tryz.isAgg224,
  z55 := Tryz.sizeOf224,
  v55 := Tryz.zeroValue224,
  t66 := Tryz.underlying238,
  a66 := Tryz.isAgg238,
  z66 := Tryz.sizeOf238,
  v66 := Tryz.zeroValue238,
  t70 := Tryz.underlying242,
  a70 := Tryz.isAgg242,
  z70 := Tryz.sizeOf242,
  v70 := Tryz.zeroValue242,
  t76 := Tryz.underlying259,
  a76 := Tryz.isAgg259,
  z76 := Tryz.sizeOf259,
  v76 := Tryz.zeroValue259,
  t77 := Tryz.underlying260,
  a77 := Tryz.isAgg260,
  z77 := Tryz.sizeOf260,
  v77 := Tryz.zeroValue260 }
end Go.Proofs.YtdeplhihcifmeaaGreatDoor

/- The iterator of a map's keys, for knots. -/
namespace Go.Proofs.YtdeplhihcifmeaaGreatDoor
open Go.RowKit Go.ChangeMaps Go.MapKept Go.Shelf

def knotArr (k : Ck.Knot) : Array Value := #[.agg #[.int .i64 k.x, .int .i64 k.y]]

set_option maxRecDepth 100000 in
set_option maxHeartbeats 1000000 in
theorem keys1_in (F : Fence) (n : Nat) (h54 : F.fn 137) (hro : F.round = none) (hn : 1 ≤ n) (l Bm b : Nat) (m : List (Ck.Knot × Int)) (J Jx : List Ck.Knot → World → Prop)
    (hY : ∀ pre x W, J pre W → pre.length < m.length → YieldAt F (n - 1) Tryz.prog l (knotArr x) W fun e W' =>
      (e = .returned (.bool true) ∧ J (pre ++ [x]) W' ∧ KeepsWalks W W') ∨ (e = .returned (.bool false) ∧ Jx (pre ++ [x]) W'))
    (W : World) (hJ : AbidesFrom W.heap.size J) (hm : W.cell? ⟨Bm, 0, none⟩ = some (.map (some b))) (hown : MIs W b m) (h0 : J [] W) :
    CallsIn F n Tryz.prog 137 #[.func (.yield l) #[] #[], .pointer (some ⟨Bm, 0, none⟩)] W fun e W' => (∃ v, e = .returned v) ∧
      ((∃ ss : List Ck.Knot, (ss.Nodup ∧ ∀ k, k ∈ ss ↔ k ∈ m.map (·.1)) ∧ J ss W') ∨ (∃ pre : List Ck.Knot, True ∧ Jx pre W')) := by
  refine callsIn_of_wp Tryz.func137 rfl h54 ?_ hro
  simp only [Tryz.ntmps137, List.size_toArray, List.length_cons, List.length_nil, Nat.reduceAdd, Nat.reduceSub, Array.replicate_succ, Array.replicate_zero, List.push_toArray, List.append_toArray, List.nil_append, List.cons_append]
  gi_wp2_with (first
    | (gi_at_range; refine wpListIn_range_knots _ rfl _ rfl b m rfl hown ?_; intro w0 hrg0 hg0 hs0)
    | gi_in)
  go_frame
  gi_loopw [3] (fun _ wr => ∃ ss : List Ck.Knot, KRange wr b W.heap.size m ss ∧ J ss wr)
    (fun _ wr => wr.rangeLeft b W.heap.size)
  case atStart =>
    exact ⟨[], hrg0, hJ [] W w0 none h0 hg0 (fun r e => by cases e)⟩
  case round =>
    obtain ⟨ss, hrg, hJs⟩ := hrel
    gi_wp2_with (first
      | (gi_at_next; refine wpListIn_next_knots _ rfl _ rfl b W.heap.size m ss rfl hrg ?_ ?_)
      | gi_in)
    · intro hl0
      gi_wp2
      go_end0
      exact ⟨⟨_, rfl⟩, .inl ⟨ss, ⟨hrg.nodup, hl0⟩, hJs⟩⟩
    · intro k c w2 hk hnk hrg2 hlt hg2 hs2 hen
      have hJ2 : J ss w2 := hJ ss wr w2 (some W.heap.size) hJs hg2 (fun r e => by cases e; exact ⟨Nat.le_refl _, hrg.iter_walk⟩)
      have hJ3 : J ss (w2.alloc (.cells #[.int .i64 k.x, .int .i64 k.y] 26)) := hJ ss w2 _ none hJ2 (World.grownBy_alloc w2 _ none) (fun r e => by cases e)
      have hlen : ss.length < m.length := hrg.lt_of_new hk hnk
      obtain ⟨fn, tmps, assign, body, hy, hR⟩ := hY ss k _ hJ3 hlen
      have HG2 := Lib.hid hg2
      have HL := Lib.hid hlt
      have HR2 := Lib.hid hrg2
      clear hs2 hg2 hlt hrg2
      dsimp only [knotArr] at hy
      gi_wp2
      refine hR.mono ?_
      rintro e W3 (⟨rfl, hJ4, hk3⟩ | ⟨rfl, hJx3⟩)
      · gi_wp2
        have hk4 := (KeepsWalks.alloc w2 (.cells #[.int .i64 k.x, .int .i64 k.y] 26)).trans hk3
        go_roundw
        case rel => exact ⟨ss ++ [k], HR2.out.of_walks hk4, hJ4⟩
        case measure => rw [HR2.out.left_eq hk4]; exact HL.out
      · gi_wp2
        refine bodyPost_ret (results_none rfl _ _ _) rfl ?_
        exact ⟨⟨_, rfl⟩, .inr ⟨ss ++ [k], trivial, hJx3⟩⟩

theorem keys_stops (F : Fence) (n : Nat) (h54 : F.fn 137) (hro : F.round = none) (hn : 1 ≤ n) (Bm b : Nat) (m : List (Ck.Knot × Int)) (w : World) (hBm : Bm < w.heap.size)
    (hm : w.cell? ⟨Bm, 0, none⟩ = some (.map (some b))) (hown : MIs w b m) :
    SeqStopsK F n Tryz.prog 137 #[.pointer (some ⟨Bm, 0, none⟩)] knotArr KeepsWalks (fun ss => ss.Nodup ∧ ∀ k, k ∈ ss ↔ k ∈ m.map (·.1)) (fun _ => True) m.length w := fun l J Jx W hW hJ _ hY h0 =>
  keys1_in F n h54 hro hn l Bm b m J Jx hY W hJ ((hW.cell (p := ⟨Bm, 0, none⟩) hBm).trans hm) (hown.below hW hown.lt) h0

theorem keys_any (mb : Option Nat) (w : World) :
    Calls Tryz.prog 100 #[.map mb] w fun e w' => e = .returned (.func (.func 137) #[] #[.pointer (some ⟨w.heap.size, 0, none⟩)]) ∧ w' = w.alloc (.cells #[.map mb] 139) := by
  go_enter Tryz.func100, Tryz.ntmps100
  go_wp2
  go_ret
  exact ⟨rfl, rfl⟩
end Go.Proofs.YtdeplhihcifmeaaGreatDoor

/- AppendSeq, Collect at knots, of whatever iterator. -/
namespace Go.Proofs.YtdeplhihcifmeaaGreatDoor
open Go.RowKit Go.ChangeMaps Go.MapKept Go.Shelf
attribute [local go_sem] Oper.semAt_some

/-- A box of two cells. -/
def Box2 (W : World) (B : Nat) (t : TypeId) (a b : Value) : Prop := W.heap[B]? = some (.cells #[a, b] t (0, 0))
theorem Box2.cells {W : World} {B : Nat} {t : TypeId} {a b : Value} (h : Box2 W B t a b) : W.cell? ⟨B, 0, none⟩ = some a ∧ W.cell? ⟨B, 1, none⟩ = some b ∧ B < W.heap.size := by
  refine ⟨?_, ?_, (Array.getElem?_eq_some_iff.1 h).1⟩ <;> simp [World.cell?, show W.heap[B]? = _ from h]
theorem Box2.new (W : World) (t : TypeId) (a b : Value) : Box2 (W.alloc (.cells #[a, b] t)) W.heap.size t a b := World.alloc_heap_new W _
theorem box2_own (B : Nat) (t : TypeId) (a b : Value) : Own (fun (_ : Unit) W => Box2 W B t a b) := fun s X Y row hs hg hrow =>
  (hg.block B (Array.getElem?_eq_some_iff.1 hs).1 (fun e' => by obtain ⟨o, ho, hc⟩ := hrow B e'.symm; rw [show X.heap[B]? = _ from hs] at ho; cases ho; cases hc)).trans hs

set_option maxRecDepth 100000 in
set_option maxHeartbeats 2000000 in
theorem appendSeq_in (F : Fence) (n : Nat) (h71 : F.fn 163) (hro : F.round = none) (hn : 2 ≤ n) (g : Nat) (lb : Array Value) (hFg : F.fn g) (eg : ∀ args w, (callFunc g args).run Tryz.prog w = .ok (.enter g args) w)
    (S Sp : List Ck.Knot → Prop) (N : Nat) (hN : N ≤ 100000) (w : World) (hseq : SeqStopsK F (n - 1) Tryz.prog g lb knotArr KeepsWalks S Sp N w) :
    CallsIn F n Tryz.prog 163 #[.slice none 0 0, .func (.func g) #[] lb] w fun e w' => ∃ (v : Value) (ss : List Ck.Knot), e = .returned v ∧ S ss ∧ w'.ownsRow w.heap.size 26 2 v ss.length (kcellsL ss) ∧ Below w.heap.size w w' := by
  have h1 : 1 ≤ n := by omega
  obtain ⟨i0, hi, hz0, hz1, hz2⟩ := info_parts Tryz.info26
  refine callsIn_of_wp_marks Tryz.func163 rfl h71 ?_ hro
  simp only [Tryz.ntmps163, List.size_toArray, List.length_cons, List.length_nil, Nat.reduceAdd, Nat.reduceSub, Array.replicate_succ, Array.replicate_zero, List.push_toArray, List.append_toArray, List.nil_append, List.cons_append]
  gi_wp2
  have bO := Boxed.new w 62 (.slice none 0 0)
  have hB0 : Below w.heap.size w (w.alloc (.cells #[.slice none 0 0] 62)) := (Below.refl _ w).alloc (Nat.le_refl _) _
  have hsz : (w.alloc (.cells #[.slice none 0 0] 62)).heap.size = w.heap.size + 1 := by simp
  obtain ⟨W0, hW0⟩ : ∃ W0, w.alloc (.cells #[.slice none 0 0] 62) = W0 := ⟨_, rfl⟩
  rw [hW0] at bO hB0 hsz ⊢
  clear hW0
  refine wpIn_rangeFunc_ownH hro h1 (gf := g) (lb := lb) rfl hFg eg hseq walksK_t (walksK_b (w := W0)) hB0 (fun _ => rfl)
    (fun pre W => (∃ v, Boxed W w.heap.size 62 v ∧ W.ownsRow w.heap.size 26 2 v pre.length (kcellsL pre) ∧ True) ∧ Below w.heap.size w W)
    (fun _ _ _ => False)
    (OwnFrom.and (Own.from (holdsRow_own w.heap.size w.heap.size 62 26 2 (fun pre : List Ck.Knot => pre.length) (fun pre => kcellsL pre) (fun _ _ => True)) _) (ownFrom_below (Nat.le_refl _) (by omega)))
    (fun _ _ _ _ _ hs _ _ => hs)
    ⟨⟨_, bO, World.ownsRow_nil _ _ _ _, trivial⟩, hB0⟩
    (fun x a' W => ∃ Bx, w.heap.size < Bx ∧ Box2 W Bx 26 (.int .i64 x.x) (.int .i64 x.y) ∧ a' = { tmps := #[.slice none 0 0, .func (.func g) #[] lb, .pointer (some ⟨w.heap.size, 0, none⟩), undef, .slice none 0 0, .pointer (some ⟨Bx, 0, none⟩), .func (.func g) #[] lb, .agg #[.int .i64 x.x, .int .i64 x.y], undef, undef, undef, undef, undef], defers := [] })
    (fun x a' _ X Y row hs hg hr => by obtain ⟨Bx, h1, h2, h3⟩ := hs; exact ⟨Bx, h1, box2_own Bx _ _ _ () X Y row h2 hg (fun r e => (hr r e).2), h3⟩)
    ?assign ?body ?done ?stop
  case assign =>
    rintro l pre x W K ⟨⟨v, hv, hrow, -⟩, hB1⟩ hK
    dsimp only [knotArr]
    gi_wp2
    exact hK _ _ ((KeepsOthers.alloc _ _).from _) (KeepsWalks.alloc _ _) ⟨⟨v, hv.alloc _, hrow.alloc _, trivial⟩, hB1.alloc hB1.size _⟩ ⟨W.heap.size, hv.lt, Box2.new W _ _ _, rfl⟩
  case body =>
    rintro l pre x a' W hl ⟨r, hr⟩ ⟨⟨v, hv, hrow, -⟩, hB⟩ ⟨Bx, hBx, bX, rfl⟩ hlt
    have hc := hv.cell
    obtain ⟨x0, x1, xl⟩ := bX.cells
    gi_wp2_with (gi_at_builtin; refine wpListIn_append_own _ rfl _ _ 62 rfl w.heap.size 26 i0 (.agg #[.int .i64 0, .int .i64 0]) 2 16 Tryz.underlying62 hi hz0 hz1 hz2 rfl (by decide) _ _ _ rfl (hrow.alloc _) ⟨W.heap.size, 0, none⟩ 1 1 [.int .i64 x.x, .int .i64 x.y] rfl rfl (two_new _ _ _ _) (by intro u hu; simp at hu; rcases hu with rfl | rfl <;> rfl) (by unfold maxLen; omega) (by omega) (by have := hB.size; simp; omega) ?_; intro v' w1 hown' hgrow _; obtain ⟨g', cap', rfl⟩ := ownsRow_succ hown'; obtain ⟨hv1, hv2, hr2, hk2, hb2⟩ := hv.appended (by decide) hrow hB.size (Nat.le_refl _) hown' hgrow; have hc1 := hv1.cell; have hf1 := hv1.frozen)
    exact ⟨hk2.from _, hk2.walks, ⟨_, hv2, by rw [kcellsL_snoc]; simpa using hr2, trivial⟩, hB.trans hb2⟩
  case done =>
    rintro D ys W hD hS ⟨⟨v, hv, hrow, -⟩, hB⟩ hK
    have hc := hv.cell
    gi_wp2
    refine ⟨by simp, .inl ⟨_, _, rfl, run_takeDeferred hK, ?_⟩⟩
    exact ⟨_, results_tmp rfl _ _ _, v, ys, rfl, hS, ownsRow_putObj hrow _ hK rfl, hB.trans (belowK_b (w := w) (Nat.le_refl _) W D _ _ (by omega) hK rfl rfl)⟩
  case stop =>
    rintro D c pre W _ _ h _
    exact h.elim

set_option maxHeartbeats 1000000 in
theorem collect_in (F : Fence) (n : Nat) (h52 : F.fn 135) (h71 : F.fn 163) (hro : F.round = none) (hn : 3 ≤ n) (g : Nat) (lb : Array Value) (hFg : F.fn g) (eg : ∀ args w, (callFunc g args).run Tryz.prog w = .ok (.enter g args) w)
    (S Sp : List Ck.Knot → Prop) (N : Nat) (hN : N ≤ 100000) (w : World) (hseq : SeqStopsK F (n - 1 - 1) Tryz.prog g lb knotArr KeepsWalks S Sp N w) :
    CallsIn F n Tryz.prog 135 #[.func (.func g) #[] lb] w fun e w' => ∃ (v : Value) (ss : List Ck.Knot), e = .returned v ∧ S ss ∧ w'.ownsRow w.heap.size 26 2 v ss.length (kcellsL ss) ∧ Below w.heap.size w w' := by
  have h1 : 1 ≤ n := by omega
  refine callsIn_of_wp Tryz.func135 rfl h52 ?_ hro
  simp only [Tryz.ntmps135, List.size_toArray, List.length_cons, List.length_nil, Nat.reduceAdd, Nat.reduceSub, Array.replicate_succ, Array.replicate_zero, List.push_toArray, List.append_toArray, List.nil_append, List.cons_append]
  gi_wp2_with (gi_at_call 163; refine (appendSeq_in F (n - 1) h71 hro (by omega) g lb hFg eg S Sp N hN _ hseq).mono ?_; rintro e w' ⟨v, ss, rfl, hS, hrow, hb⟩)
  go_ret
  exact ⟨v, ss, rfl, hS, hrow, hb⟩
end Go.Proofs.YtdeplhihcifmeaaGreatDoor

/- compareKnots, the library's sort at knots, SortedFunc, Knots. -/
namespace Go.Proofs.YtdeplhihcifmeaaGreatDoor
open Go.RowKit Go.Sort Go.Shelf

theorem box22' (w : World) (a b c d : Value) (t t' : TypeId) : ∃ w1, w1 = (w.alloc (.cells #[a, b] t)).alloc (.cells #[c, d] t') ∧ w1.cell? ⟨w.heap.size, 0, none⟩ = some a ∧ w1.cell? ⟨w.heap.size, 1, none⟩ = some b ∧
    w1.cell? ⟨w.heap.size + 1, 0, none⟩ = some c ∧ w1.cell? ⟨w.heap.size + 1, 1, none⟩ = some d := by
  obtain ⟨w0, rfl, h0, h1, _, hz⟩ := box2 w a b t
  have hs : (w.alloc (.cells #[a, b] t)).heap.size = w.heap.size + 1 := by simp
  obtain ⟨w1, rfl, k0, k1, hb, _⟩ := box2 (w.alloc (.cells #[a, b] t)) c d t'
  rw [hs] at k0 k1
  exact ⟨_, rfl, (hb.cell (p := ⟨_, _, none⟩) hz).trans h0, (hb.cell (p := ⟨_, _, none⟩) hz).trans h1, k0, k1⟩
def cmpK (a b : Ck.Knot) : Int := firstE [cmpE a.y b.y, cmpE a.x b.x]
set_option maxHeartbeats 1000000 in
set_option maxRecDepth 100000 in
theorem netCompareKnots (x y x' y' : Int) (w : World) :
    Calls Tryz.prog 102 #[.agg #[.int .i64 x, .int .i64 y], .agg #[.int .i64 x', .int .i64 y']] w fun e w' => e = .returned (.int .i64 (cmpK ⟨x, y⟩ ⟨x', y'⟩)) ∧
      w' = (((w.alloc (.cells #[.int .i64 x, .int .i64 y] 26)).alloc (.cells #[.int .i64 x', .int .i64 y'] 26)).alloc (.cells #[.int .i64 (cmpE y y'), .int .i64 (cmpE x x')] 3)).drew := by
  obtain ⟨w1, hw1, c0, c1, d0, d1⟩ := box22' w (.int .i64 x) (.int .i64 y) (.int .i64 x') (.int .i64 y') 26 26
  rw [← hw1]
  have HW := Lib.hid hw1
  clear hw1
  go_enter Tryz.func102, Tryz.ntmps102
  go_wp2_with fail
  rw [← HW.out]
  refine wp_region_still_tail 10 (by kernel_rfl) (by kernel_rfl) ?_
  simp only [List.take_succ_cons, List.take_zero, List.drop_succ_cons, List.drop_zero]
  repeat (first | still_step | still_call (Calls.mono (cmpCompare _ _ _) fun _ _ h => ⟨h.1, h.2.symm⟩))
  refine wpStill_nil ?_
  change wpList _ _ _ _ _ w1.drew
  go_wp2_with fail
  refine (cmpOr2 _ _ (cmpE y y') (cmpE x x') 3 _ (by exact heap_alloc_new _ _)).mono ?_
  rintro e w2 ⟨rfl, rfl⟩
  go_wp2
  go_ret
  exact ⟨rfl, rfl⟩

def Klt (a b : Ck.Knot) : Prop := a.y < b.y ∨ a.y = b.y ∧ a.x < b.x
instance (a b : Ck.Knot) : Decidable (Klt a b) := by unfold Klt; infer_instance
theorem ltKnots (a b : Ck.Knot) : ltOf cmpK a b = decide (Klt a b) := by
  unfold ltOf
  rw [decide_eq_decide]
  unfold cmpK Klt firstE cmpE
  simp only [firstE]
  repeat' split
  all_goals omega
theorem Klt.tri (a b : Ck.Knot) : Klt a b ∨ a = b ∨ Klt b a := by
  obtain ⟨x, y⟩ := a
  obtain ⟨x', y'⟩ := b
  simp only [Klt, Ck.Knot.mk.injEq]
  omega
theorem swoKnots : SWO (ltOf cmpK) where
  irrefl x := by rw [ltKnots, decide_eq_false_iff_not]; unfold Klt; omega
  trans x y z h1 h2 := by
    rw [ltKnots, decide_eq_true_eq] at *
    unfold Klt at *; omega
  ntrans x y z h1 h2 := by
    rw [ltKnots, decide_eq_false_iff_not] at *
    unfold Klt at *; omega
theorem totKnots (x y : Ck.Knot) (h1 : ltOf cmpK x y = false) (h2 : ltOf cmpK y x = false) : x = y := by
  rw [ltKnots, decide_eq_false_iff_not] at *
  rcases Klt.tri x y with h | h | h
  · exact absurd h h1
  · exact h
  · exact absurd h h2
theorem layKnots (blk off size : Nat) (w : World) : CmpLays Tryz.prog 102 #[] kcells 2 cmpK blk off size w := fun _ _ _ _ x y =>
  (netCompareKnots x.x x.y y.x y.y _).mono fun e w' h => by
    obtain ⟨he, rfl⟩ := h
    exact ⟨he, 1, _, by rw [alloc_eq_grow, alloc_eq_grow, alloc_eq_grow, grow_grow, grow_grow]; rfl⟩
def sortKnots (l : List Ck.Knot) : List Ck.Knot := l.mergeSort fun x y => !(ltOf cmpK) y x
theorem sortKnots_perm (l : List Ck.Knot) : (sortKnots l).Perm l := List.mergeSort_perm l _

theorem netSortKnots (base : Nat) (v : Value) (l : List Ck.Knot) (w : World) (hl : l.length ≤ 100000) (hB : base ≤ w.heap.size) (h : w.ownsRow base 26 2 v l.length (kcellsL l)) :
    Calls Tryz.prog 136 #[v, .func (.func 102) #[] #[]] w fun e w' => e = .returned (.tuple #[]) ∧ w'.ownsRow base 26 2 v l.length (kcellsL (sortKnots l)) ∧ Below base w w' := by
  have eg : ∀ args w, (callFunc 102 args).run Tryz.prog w = .ok (.enter 102 args) w := enters_of Tryz.func102 (by kernel_rfl) rfl
  rcases h.2 with ⟨rfl, hz⟩ | ⟨g, cap, cur, rfl, hbase, hgb, r1, r2, r3, r4⟩
  · have hl0 : l = [] := List.eq_nil_of_length_eq_zero hz
    subst hl0
    have hc := AnyF.slices_SortFunc_none Tryz.sortK none 0 (.func (.func 102) #[] #[]) w
    change Calls Tryz.prog 136 _ _ _ at hc
    exact hc.mono fun e w' ⟨he, hw⟩ => ⟨he, by rw [hw]; exact ⟨by simp [sortKnots, kcellsL], .inl ⟨rfl, rfl⟩⟩, by rw [hw]; exact Below.refl _ _⟩
  · have hH := holdsK_of_row kcells 2 (fun _ => rfl) l hgb (r4.trans rfl)
    have hgl : g < w.heap.size := (Array.getElem?_eq_some_iff.1 hgb).1
    have hc := AnyQ.slices_SortFunc_total Tryz.sortK 2 Tryz.isAgg26 Tryz.sizeOf26 kcells (fun _ => rfl) (fun x v hv => by simp [kcells] at hv; rcases hv with rfl | rfl <;> rfl) cmpK swoKnots 102 #[] g 0 cap l.toArray w eg (layKnots g 0 _ w) hH hgl (by simp; omega) totKnots
    change Calls Tryz.prog 136 _ _ _ at hc
    rw [List.size_toArray] at hc
    refine hc.mono fun e w' ⟨he, n, os, hw⟩ => ?_
    have hs : (l.toArray.toList.mergeSort fun x y => !(ltOf cmpK) y x) = sortKnots l := rfl
    rw [hs] at hw
    have hp := (sortKnots_perm l).length_eq
    obtain ⟨q1, q2⟩ := sorted_owns kcells 2 (fun _ => rfl) (m := n) (os := os) (sortKnots l) hbase hgb (by rw [hp]; exact r1) r2 r3
    rw [hp] at q1
    rw [hw]
    exact ⟨he, q1, q2 hB⟩

/-- SortedFunc of whatever iterator. -/
theorem netSortedFunc (g : Nat) (lb : Array Value) (eg : ∀ args w, (callFunc g args).run Tryz.prog w = .ok (.enter g args) w) (S Sp : List Ck.Knot → Prop) (N : Nat) (hN : N ≤ 100000) (hS : ∀ ss, S ss → ss.length ≤ 100000) (w : World) (hseq : SeqStopsK Fence.wide 1 Tryz.prog g lb knotArr KeepsWalks S Sp N w) :
    Calls Tryz.prog 99 #[.func (.func g) #[] lb, .func (.func 102) #[] #[]] w fun e w' => ∃ (v : Value) (ss : List Ck.Knot), e = .returned v ∧ S ss ∧ w'.ownsRow w.heap.size 26 2 v ss.length (kcellsL (sortKnots ss)) ∧ Below w.heap.size w w' := by
  have hcol := callsIn_wide.1 (collect_in Fence.wide 3 trivial trivial rfl (by omega) g lb trivial eg S Sp N hN w hseq)
  go_enter Tryz.func99, Tryz.ntmps99
  go_wp2_with fail
  refine hcol.mono ?_
  rintro e w1 ⟨v, ss, rfl, hSs, hrow, hb1⟩
  go_wp2_with fail
  refine (netSortKnots w.heap.size v ss _ (hS ss hSs) hb1.size hrow).mono ?_
  rintro e w2 ⟨rfl, hrow2, hb2⟩
  go_wp2
  go_ret
  exact ⟨v, ss, rfl, hSs, hrow2, hb1.trans hb2⟩
end Go.Proofs.YtdeplhihcifmeaaGreatDoor

/- The contract of corkCopy at a list that is not empty. -/
namespace Go.Proofs.YtdeplhihcifmeaaGreatDoor
open Go.RowKit

end Go.Proofs.YtdeplhihcifmeaaGreatDoor

/- The statements' copy and count of the empty list. -/
namespace Go.Proofs.YtdeplhihcifmeaaGreatDoor
open Go.RowKit

end Go.Proofs.YtdeplhihcifmeaaGreatDoor

/- Contracts of the statements' count of a copy, and of HasKnot. -/
namespace Go.Proofs.YtdeplhihcifmeaaGreatDoor
open Go.RowKit

def CorkPost (l : List Ck.Bar) (w : World) (e : Ending) (w' : World) : Prop :=
  ∃ p : Nat, Ck.PartsIs l p ∧ e = .returned (.tuple #[.agg #[.int .i64 (Ck.nK l : Nat), .int .i64 (l.length : Nat), .int .i64 (Ck.nM l : Nat), .int .i64 p, .int .i64 ((l.length : Int) - (Ck.nK l : Nat) + p - (Ck.nM l : Nat))], .bool true]) ∧ Below w.heap.size w w'

end Go.Proofs.YtdeplhihcifmeaaGreatDoor

/- The contract of the reference's HasKnot. -/
namespace Go.Proofs.YtdeplhihcifmeaaGreatDoor
open Go.RowKit

end Go.Proofs.YtdeplhihcifmeaaGreatDoor

/- The contract of corkNet: a valid net with at most 20 bars within 200 units. -/
namespace Go.Proofs.YtdeplhihcifmeaaGreatDoor
open Go.RowKit

def nearB (b : Ck.Bar) : Bool := decide (-200 ≤ b.x ∧ b.x ≤ 200 ∧ -200 ≤ b.y ∧ b.y ≤ 200)
def corkB (l : List Ck.Bar) : Bool := decide (netE l = 0) && l.all nearB

end Go.Proofs.YtdeplhihcifmeaaGreatDoor

/- The contract of Knots at a valid net. -/
namespace Go.Proofs.YtdeplhihcifmeaaGreatDoor
open Go.RowKit Go.Sort Go.Shelf

def KnotsPost (l : List Ck.Bar) (w : World) (e : Ending) (w' : World) : Prop :=
  ∃ (v : Value) (ks : List Ck.Knot), e = .returned (.tuple #[v, .int .i64 0]) ∧ ks.Nodup ∧ (∀ k, k ∈ ks ↔ k ∈ Ck.ends l) ∧ w'.ownsRow w.heap.size 26 2 v ks.length (kcellsL ks) ∧ Below w.heap.size w w'
theorem degs_mem (l : List Ck.Bar) (k : Ck.Knot) : k ∈ (degsL (Ck.ends l)).map (·.1) ↔ k ∈ Ck.ends l := by rw [degsL, degs_keys]; simp

set_option maxHeartbeats 2000000 in
set_option maxRecDepth 100000 in
theorem netKnots (A : Option Addr) (c : Nat) (l : List Ck.Bar) (w : World) (hl : l.length ≤ 4096) (hcap : l.length ≤ c) (hcm : c ≤ maxLen) (hN : Ck.Net l) (h : RB w w.heap.size A l) :
    Calls Tryz.prog 41 #[.slice A l.length c] w (KnotsPost l w) := by
  have HR := Lib.hid h
  have HN := Lib.hid hN
  have HE := Lib.hid ((netE_zero l).2 ⟨hl, hN⟩)
  have hnk := nK_le l
  clear h hN
  go_enter Tryz.func41, Tryz.ntmps41
  go_wp2_with fail
  refine (netCheckNet A c l _ hl hcap hcm HR.out).mono ?_
  rintro e w1 ⟨rfl, hb1⟩
  rw [HE.out]
  go_wp2_with fail
  refine (netDegrees A c l _ hl HN.out.1 ((HR.out.below hb1).more hb1.size)).mono ?_
  rintro e w2 ⟨b, rfl, hbz, hm2, hb2⟩
  have hc2 := hb1.trans (hb2.mono hb1.size)
  have hdl := degs_length hm2
  have hbl := hm2.lt
  have HM := Lib.hid hm2
  clear hm2
  go_wp2_with fail
  refine (keys_any (some b) _).mono ?_
  rintro e w3 ⟨rfl, rfl⟩
  have bM := Boxed.new w2 139 (.map (some b))
  have hb3 : Below w2.heap.size w2 (w2.alloc (.cells #[.map (some b)] 139)) := (Below.refl _ _).alloc (Nat.le_refl _) _
  have hM3 : MIs (w2.alloc (.cells #[.map (some b)] 139)) b (degsL (Ck.ends l)) := HM.out.below hb3 hbl
  have hc3 := hc2.trans (hb3.mono hc2.size)
  have hsz3 : w2.heap.size < (w2.alloc (.cells #[.map (some b)] 139)).heap.size := by simp
  obtain ⟨W3, hW3⟩ : ∃ W3, W3 = w2.alloc (.cells #[.map (some b)] 139) := ⟨_, rfl⟩
  rw [← hW3] at bM hM3 hc3 hsz3
  have HW3 := Lib.hid hW3
  clear hW3 hb3
  have hseq := keys_stops Fence.wide 1 trivial rfl (Nat.le_refl _) w2.heap.size b (degsL (Ck.ends l)) W3 hsz3 bM.cell hM3
  have HDL := Lib.hid hdl
  clear hdl hM3
  go_wp2_with fail
  rw [← HW3.out]
  refine (netSortedFunc _ _ (enters_of Tryz.func137 (by kernel_rfl) rfl) _ _ _ (by rw [HDL.out]; omega) (fun ss hs => by
    have h1 : ss.length ≤ (degsL (Ck.ends l)).length := by
      have := hs.1.length_le_of_subset (l₂ := (degsL (Ck.ends l)).map (·.1)) (fun x hx => (hs.2 x).1 hx)
      rwa [List.length_map] at this
    rw [HDL.out] at h1; omega) _ hseq).mono ?_
  rintro e w4 ⟨v, ss, rfl, hS, hrow, hb4⟩
  have HO := Lib.hid (ownsRow_mono hrow hc3.size)
  have HS := Lib.hid hS
  clear hrow hS hseq
  go_wp2
  go_ret2
  refine ⟨v, sortKnots ss, rfl, (sortKnots_perm ss).nodup_iff.2 HS.out.1, fun k => ?_, ?_, hc3.trans (hb4.mono hc3.size)⟩
  · rw [(sortKnots_perm ss).mem_iff, HS.out.2 k, degs_mem]
  · rw [(sortKnots_perm ss).length_eq]; exact HO.out
end Go.Proofs.YtdeplhihcifmeaaGreatDoor

/- Appending nothing, at a step of a region that draws its order. -/
namespace Go.Proofs.YtdeplhihcifmeaaGreatDoor
open Go.RowKit

variable {P : Program} {w : World} {ops : Array Oper} {o : Oper} {a : Act} {K : Act → World → Prop} {Q : Exit → Act → World → Prop} {E : Prop}
theorem run_append_zero (base : Nat) (t ty e : TypeId) (i : TypeInfo) (size : Nat) (ht : P.underlying t = some (.slice e)) (hi : P.info? e = some i) (v : Value) (n : Nat) (xs : List Value) (hown : w.ownsRow base e size v n xs) (ad : Addr) (c : Nat) :
    (Builtin.append_ #[t, t] ty #[v, .slice (some ad) 0 c]).run P w = .ok v w := by
  rcases hown.2 with ⟨rfl, rfl⟩ | ⟨g, cap, cur, rfl, _, _, hnc, _⟩
  · simp [Builtin.append_, run_underlying ht, sizeOf, typeInfo, hi, Builtin.lenOf, Builtin.firstCells, loadCells, loadCellsFrom, Result.andThen]
  · simp [Builtin.append_, run_underlying ht, sizeOf, typeInfo, hi, Builtin.lenOf, Builtin.firstCells, hnc, storeCells, loadCells, loadCellsFrom, Result.andThen]
theorem step_append_zero (hgd : o.guard = none) (s x : Operand) (t : TypeId) (ho : o.op = .call { callee := .builtin .append, args := #[s, x], argTypes := #[t, t] })
    (base : Nat) (e : TypeId) (i : TypeInfo) (size : Nat) (ht : P.underlying t = some (.slice e)) (hi : P.info? e = some i) (v : Value) (n : Nat) (xs : List Value) (hs : a.eval s = v) (hown : w.ownsRow base e size v n xs)
    (ad : Addr) (c : Nat) (hx : a.eval x = .slice (some ad) 0 c) (h : K (a.put o.dst v) w) :
    if Region.wanted o (yielded ops a.tmps) = true then Oper.wp P o a w K Q else E := by
  have hw : Region.wanted o (yielded ops a.tmps) = true := by simp [Region.wanted, hgd]
  rw [if_pos hw]
  have hr := run_append_zero (P := P) base t o.type e i size ht hi v n xs hown ad c
  unfold Oper.wp execOp
  simp only [ho, resolve, invoke, builtin, Sem.run_bind, Sem.run_pure, Result.andThen_ok, List.map_toArray, List.map_cons, List.map_nil, hs, hx, hr]
  exact h
theorem step_append_zeroA (hgd : o.guard = none) (s x : Operand) (t : TypeId) (ho : o.op = .call { callee := .builtin .append, args := #[s, x], argTypes := #[t, t] })
    (base : Nat) (e : TypeId) (i : TypeInfo) (size : Nat) (ht : P.underlying t = some (.slice e)) (hi : P.info? e = some i) (v : Value) (n : Nat) (xs : List Value) (hs : a.eval s = v) (hown : w.ownsRow base e size v n xs)
    (A : Option Addr) (c : Nat) (hx : a.eval x = .slice A 0 c) (hA : ∃ ad, A = some ad) (h : K (a.put o.dst v) w) :
    if Region.wanted o (yielded ops a.tmps) = true then Oper.wp P o a w K Q else E := by
  obtain ⟨ad, rfl⟩ := hA
  exact step_append_zero hgd s x t ho base e i size ht hi v n xs hs hown ad c hx h
theorem step_append_none (hgd : o.guard = none) (s x : Operand) (t : TypeId) (ho : o.op = .call { callee := .builtin .append, args := #[s, x], argTypes := #[t, t] })
    (base : Nat) (e : TypeId) (i : TypeInfo) (size : Nat) (ht : P.underlying t = some (.slice e)) (hi : P.info? e = some i) (v : Value) (n : Nat) (xs : List Value) (hs : a.eval s = v) (hown : w.ownsRow base e size v n xs)
    (hx : a.eval x = .slice none 0 0) (h : K (a.put o.dst v) w) :
    if Region.wanted o (yielded ops a.tmps) = true then Oper.wp P o a w K Q else E := by
  have hw : Region.wanted o (yielded ops a.tmps) = true := by simp [Region.wanted, hgd]
  rw [if_pos hw]
  have hr := run_append_owned_none (P := P) (w := w) base t o.type e i size ht hi v n xs hown
  unfold Oper.wp execOp
  simp only [ho, resolve, invoke, builtin, Sem.run_bind, Sem.run_pure, Result.andThen_ok, List.map_toArray, List.map_cons, List.map_nil, hs, hx, hr]
  exact h
end Go.Proofs.YtdeplhihcifmeaaGreatDoor

/- The contract of the reference's SameNet at two slices with the same bars, and of CheckSheet. -/
namespace Go.Proofs.YtdeplhihcifmeaaGreatDoor
open Go.RowKit

set_option maxHeartbeats 1000000 in
set_option maxRecDepth 100000 in
theorem refSameNet (A A' : Option Addr) (c c' : Nat) (l : List Ck.Bar) (w : World) (hl : l.length ≤ 4096) (h : RB w w.heap.size A l) (h' : RB w w.heap.size A' l) :
    Calls Tryz.prog 73 #[.slice A l.length c, .slice A' l.length c'] w fun e w' => e = .returned (.bool true) ∧ Below w.heap.size w w' := by
  have HR := Lib.hid h
  have HR' := Lib.hid h'
  clear h h'
  have hne : ((l.length : Int) != (l.length : Int)) = false := by simp
  go_enter Tryz.func73, Tryz.ntmps73
  go_wp2_with fail
  go_loopw [5] (fun i wr => ∃ k : Nat, k ≤ l.length ∧ i = .int .i64 k ∧ Below w.heap.size w wr) (fun i _ => l.length - (intOf i).toNat)
  case atStart => exact ⟨0, Nat.zero_le _, rfl, Below.refl _ _⟩
  case round =>
    obtain ⟨k, hk, rfl, hb⟩ := hrel
    by_cases hlt : k < l.length
    · have h := HR.out.below hb
      have h' := HR'.out.below hb
      obtain ⟨b, off, rfl, hB, hc⟩ := h (by omega)
      obtain ⟨b', off', rfl, hB', hc'⟩ := h' (by omega)
      obtain ⟨c0, c1, c2⟩ := hc k hlt
      obtain ⟨d0, d1, d2⟩ := hc' k hlt
      clear hc hc' h h'
      have b1 : (0 : Int) ≤ (k : Int) := by omega
      have b2 : (k : Int) < (l.length : Int) := by omega
      generalize l[k] = x at c0 c1 c2 d0 d1 d2
      go_wp2_with fail
      go_region
      go_wp2_with fail
      go_roundw
      case rel => exact ⟨k + 1, by omega, by go_num, below_drew hb⟩
      case measure => simp [intOf]; omega
    · have e : k = l.length := by omega
      subst e
      go_wp2_with fail
      go_ret
      exact ⟨rfl, hb⟩
end Go.Proofs.YtdeplhihcifmeaaGreatDoor

/- The calls of awake of chapter 1. -/
namespace Go.Proofs.YtdeplhihcifmeaaGreatDoor
open Go.RowKit Go.Shelf Ck

theorem net_of {l : List Bar} (h : netE l = 0) : Net l := ((netE_zero l).1 h).2
theorem S8_net : Net S8 := net_of (by decide +kernel)
theorem R12_net : Net R12 := net_of (by decide +kernel)
theorem U2_net : Net U2 := net_of (by decide +kernel)
def P16 : List Bar := sheetP 0 0 2 4
def A4 : List Bar := aroundL 2 2
theorem S8_sheet : sheetP 0 0 2 2 = S8 := by decide +kernel
theorem P16_net : Net P16 := net_of (by decide +kernel)
theorem A4_net : Net A4 := net_of (by decide +kernel)
theorem P16_len : P16.length = 16 := by decide +kernel
theorem A4_len : A4.length = 4 := by decide +kernel
theorem R12_minus : mergeM P16 A4 = R12 := by decide +kernel
theorem aw_turn : turnN 1 [⟨1, 1, -1⟩] = [⟨-2, 0, 1⟩] := by decide +kernel
theorem aw_mir : [(⟨2, 0, 1⟩ : Bar)].map mirB = [⟨-2, 0, -1⟩] := by decide +kernel
theorem aw_canon : canonL [⟨5, 3, 1⟩] = [⟨0, 0, -1⟩] := by decide +kernel
theorem aw_forms : ∀ j, j < 2 → ∀ q, q < 4 → Net (normL (turnN q (pickL [⟨5, 3, 1⟩] j))) := by
  have h : ∀ j, j < 2 → ∀ q, q < 4 → netE (normL (turnN q (pickL [⟨5, 3, 1⟩] j))) = 0 := by decide +kernel
  exact fun j hj q hq => net_of (h j hj q hq)
theorem aw_draw : drawL 1 3 = [0, 2, 1] := by decide +kernel
theorem mget_four {m : List (Knot × Int)} (h : ∀ p ∈ m, p.2 ≤ 4) (k : Knot) : mget m k ≤ 4 := by
  induction m with
  | nil => simp [mget]
  | cons p r ih =>
    rw [mget]
    split
    · exact h p List.mem_cons_self
    · exact ih fun q hq => h q (List.mem_cons_of_mem _ hq)
theorem row_new (w : World) (base : Nat) (hb : base ≤ w.heap.size) (l : List Bar) (hl : l.length ≤ 4096) : (w.alloc (.cells (bcellsL l).toArray 24)).ownsRow base 24 3 (.slice (some ⟨w.heap.size, 0, none⟩) l.length l.length) l.length (bcellsL l) :=
  ⟨bcellsL_length l, .inr ⟨w.heap.size, l.length, _, rfl, hb, heap_alloc_new _ _, Nat.le_refl _, by unfold maxLen; omega, by simp [bcellsL_length], by simp only; rw [List.take_of_length_le (by rw [bcellsL_length]; exact Nat.le_refl _)]⟩⟩
theorem oks_new (w : World) (l : List Bar) (hl : l.length ≤ 4096) (cs : Array Value) (hcs : cs = (bcellsL l).toArray) : OKS (w.alloc (.cells cs 24)) (some ⟨w.heap.size, 0, none⟩) l.length l := by
  subst hcs
  exact ⟨Nat.le_refl _, by unfold maxLen; omega, (fun h => by cases h), RB.of_own (row_new w w.heap.size (Nat.le_refl _) l hl)⟩
/-- The example's small sheet. -/
theorem awSmall (w : World) : Calls Tryz.prog 76 #[] w fun e w' => ∃ a c, e = .returned (.slice a S8.length c) ∧ OKS w' a c S8 ∧ Below w.heap.size w w' := by
  go_enter Tryz.func76, Tryz.ntmps76
  go_wp2
  go_ret
  exact ⟨_, _, rfl, oks_new w S8 (by decide) _ rfl, (Below.refl _ _).alloc (Nat.le_refl _) _⟩
theorem awSheet (c r : Nat) (l : List Bar) (hl : sheetP 0 0 c r = l) (hE : sheetE 0 0 c r = 0) (w : World) :
    Calls Tryz.prog 39 #[.agg #[.int .i64 0, .int .i64 0], .int .i64 c, .int .i64 r] w (PairPost l w) := by
  subst hl
  exact (netSheet 0 0 c r w hE).mono fun e w' ⟨v, he, hrow, hb⟩ => by
    obtain ⟨a, c', rfl, ho⟩ := own_oks hrow
    exact ⟨a, c', he, ho, hb⟩
theorem awKnots (a : Option Addr) (c : Nat) (w : World) (h : OKS w a c S8) : Calls Tryz.prog 41 #[.slice a S8.length c] w fun e w' => ∃ a' c', e = .returned (.tuple #[.slice a' 8 c', .int .i64 0]) ∧ Below w.heap.size w w' :=
  (netKnots a c S8 w (by decide) h.1 h.2.1 S8_net h.2.2.2).mono fun e w' ⟨v, ks, he, hn, hm, hrow, hb⟩ => by
    have hl : ks.length = 8 := (nK_eq hn hm).trans S8_nK
    obtain ⟨a', c', rfl, -⟩ := own_slice hrow
    rw [hl] at he
    exact ⟨a', c', he, hb⟩
theorem awLegs (a : Option Addr) (c : Nat) (w : World) (h : OKS w a c S8) : Calls Tryz.prog 43 #[.slice a S8.length c] w fun e w' => e = .returned (.tuple #[.agg #[.int .i64 0, .int .i64 4, .int .i64 2, .int .i64 0, .int .i64 2], .int .i64 0]) ∧ Below w.heap.size w w' :=
  (netLegs a c S8 w (by decide) h.1 h.2.1 S8_net (mget_four (by decide +kernel)) h.2.2.2).mono fun e w' ⟨⟨he, _⟩, hb⟩ => by
    have h0 : legN S8 0 = 0 := by decide +kernel
    have h1 : legN S8 1 = 4 := by decide +kernel
    have h2 : legN S8 2 = 2 := by decide +kernel
    have h3 : legN S8 3 = 0 := by decide +kernel
    have h4 : legN S8 4 = 2 := by decide +kernel
    rw [h0, h1, h2, h3, h4] at he
    exact ⟨he, hb⟩
theorem awMeshes (a : Option Addr) (c : Nat) (w : World) (h : OKS w a c S8) : Calls Tryz.prog 44 #[.slice a S8.length c] w fun e w' => ∃ g cap, e = .returned (.tuple #[.slice (some ⟨g, 0, none⟩) 1 cap, .int .i64 0]) ∧ g < w'.heap.size ∧ w'.cell? ⟨g, 0, none⟩ = some (.int .i64 2) ∧ w'.cell? ⟨g, 1, none⟩ = some (.int .i64 1) ∧ Below w.heap.size w w' :=
  (netMeshesAll a c S8 w (by decide) h.1 h.2.1 S8_net h.2.2.2).mono fun e w' ⟨v, he, hrow, hb⟩ => by
    have hm : meshCells (meshL S8 S8) = [.int .i64 2, .int .i64 1] := by kernel_rfl
    have hl : (meshL S8 S8).length = 1 := by decide +kernel
    rw [hm, hl] at hrow
    obtain ⟨g, cap, rfl, -, -, -, hg⟩ := own_form hrow (by decide)
    refine ⟨g, cap, he, hg, ?_, ?_, hb⟩
    · rw [hrow.cellAt 0 (by decide)]; rfl
    · rw [hrow.cellAt 1 (by decide)]; rfl
theorem awCount (l : List Bar) (k m p : Nat) (hN : Net l) (hl : l.length ≤ 4096) (hk : nK l = k) (hm : nM l = m) (hp : ∀ q, PartsIs l q → q = p) (a : Option Addr) (c : Nat) (w : World) (h : OKS w a c l) :
    Calls Tryz.prog 53 #[.slice a l.length c] w fun e w' => e = .returned (.tuple #[.agg #[.int .i64 (k : Int), .int .i64 (l.length : Int), .int .i64 (m : Int), .int .i64 (p : Int), .int .i64 ((l.length : Int) - (k : Int) + p - (m : Int))], .int .i64 0]) ∧ Below w.heap.size w w' :=
  (netCount a c l w hl h.1 h.2.1 hN h.2.2.2).mono fun e w' ⟨q, hq, he, hb⟩ => by
    rw [hk, hm, hp q hq] at he
    exact ⟨he, hb⟩
theorem awAround (w : World) : Calls Tryz.prog 25 #[.agg #[.int .i64 2, .int .i64 2]] w (PairPost A4 w) :=
  (netAround 2 2 w ((knotE_ok 2 2).1 (by decide +kernel))).mono fun e w' ⟨v, he, hrow, hb⟩ => by
    obtain ⟨a, c', rfl, ho⟩ := own_oks (l := A4) hrow
    exact ⟨a, c', he, ho, hb⟩
theorem awMinus (a a' : Option Addr) (c c' : Nat) (w : World) (h : OKS w a c P16) (h' : OKS w a' c' A4) : Calls Tryz.prog 58 #[.slice a P16.length c, .slice a' A4.length c'] w (PairPost R12 w) :=
  (netMinus a a' c c' P16 A4 w (by rw [P16_len]; decide) (by rw [A4_len]; decide) h.1 h.2.1 h'.1 h'.2.1 P16_net A4_net h.2.2.2 h'.2.2.2).mono fun e w' ⟨v, he, hrow, hb⟩ => by
    rw [R12_minus] at hrow
    obtain ⟨a, c', rfl, ho⟩ := own_oks hrow
    exact ⟨a, c', he, ho, hb⟩
theorem awTurn (a : Option Addr) (c : Nat) (w : World) (h : OKS w a c [⟨1, 1, -1⟩]) : Calls Tryz.prog 65 #[.slice a 1 c, .int .i64 1] w (PairPost [⟨-2, 0, 1⟩] w) :=
  (netTurn a c 1 [⟨1, 1, -1⟩] w (by decide) h.1 h.2.1 h.2.2.1 (net_of (by decide +kernel)) h.2.2.2).mono fun e w' ⟨v, he, hrow, hb⟩ => by
    rw [show ((((1 : Int).tmod 4 + 4).tmod 4).toNat) = 1 by decide, aw_turn] at hrow
    obtain ⟨a, c', rfl, ho⟩ := own_oks hrow
    exact ⟨a, c', he, ho, hb⟩
theorem awMirror (a : Option Addr) (c : Nat) (w : World) (h : OKS w a c [⟨2, 0, 1⟩]) : Calls Tryz.prog 64 #[.slice a 1 c] w (PairPost [⟨-2, 0, -1⟩] w) :=
  (netMirrorUp a c [⟨2, 0, 1⟩] w (by decide) h.1 h.2.1 (net_of (by decide +kernel)) (by simp) h.2.2.2).mono fun e w' ⟨v, he, hrow, hb⟩ => by
    rw [aw_mir] at hrow
    obtain ⟨a, c', rfl, ho⟩ := own_oks hrow
    exact ⟨a, c', he, ho, hb⟩
theorem awCanon (a : Option Addr) (c : Nat) (w : World) (h : OKS w a c [⟨5, 3, 1⟩]) : Calls Tryz.prog 70 #[.slice a 1 c] w (PairPost [⟨0, 0, -1⟩] w) :=
  (netCanonical a c [⟨5, 3, 1⟩] w (by decide) h.1 h.2.1 h.2.2.1 (net_of (by decide +kernel)) aw_forms h.2.2.2).mono fun e w' ⟨a', c', he, ho, hb⟩ => by
    rw [aw_canon] at he ho
    exact ⟨a', c', he, ho, hb⟩
theorem awParts (a : Option Addr) (c : Nat) (w : World) (h : OKS w a c U2) : Calls Tryz.prog 52 #[.slice a 2 c] w fun e w' => ∃ a' c', e = .returned (.tuple #[.slice a' 2 c', .int .i64 0]) ∧ Below w.heap.size w w' :=
  (netPartsAll a c U2 w (by decide) h.1 h.2.1 U2_net h.2.2.2).mono fun e w' ⟨n, a', c', hp, he, hb⟩ => by
    rw [U2_parts hp] at he
    exact ⟨a', c', he, hb⟩
theorem awDraw (w : World) : Calls Tryz.prog 32 #[.int .i64 1, .int .i64 3] w fun e w' => ∃ a c, e = .returned (.tuple #[.slice a 3 c, .int .i64 0]) ∧ RI w' w'.heap.size a [0, 2, 1] ∧ Below w.heap.size w w' :=
  (netDraw 1 3 w (by decide) (by decide) (by decide)).mono fun e w' ⟨v, he, hrow, hb⟩ => by
    rw [aw_draw] at hrow
    obtain ⟨a, c, rfl, ho⟩ := own_ri hrow
    exact ⟨a, c, he, ho, hb⟩
end Go.Proofs.YtdeplhihcifmeaaGreatDoor

/- The library's FormatInt laid at this program. -/
namespace Go.Proofs.YtdeplhihcifmeaaGreatDoor
open Go.Shelf
def Tryz.fmi_ren : Go.Shelf.Ren := ⟨fun | 246 => 172 | 283 => 196 | 284 => 197 | 285 => 198 | 286 => 199 | 129 => 187 | 317 => 216 | 318 => 217 | 319 => 218 | 320 => 219 | 337 => 233 | 338 => 234 | n => n, fun | 2 => 2 | 3 => 3 | 9 => 9 | 4 => 4 | 171 => 230 | 0 => 0 | 53 => 224 | 37 => 159 | 5 => 5 | 173 => 232 | 212 => 248 | 51 => 222 | 20 => 20 | 213 => 249 | 46 => 202 | 232 => 271 | 233 => 272 | n => n, fun | 17 => 0 | 18 => 4 | 19 => 5 | n => n⟩
theorem Tryz.fmi : Go.Proofs.Lays.n246 Tryz.prog Tryz.fmi_ren := {
  mixed := by kernel_rfl,
  f129 := Tryz.func187.trans (congrArg some (by kernel_rfl)),
  f246 := Tryz.func172.trans (congrArg some (by kernel_rfl)),
  f283 := Tryz.func196.trans (congrArg some (by kernel_rfl)),
  f284 := Tryz.func197.trans (congrArg some (by kernel_rfl)),
  f285 := Tryz.func198.trans (congrArg some (by kernel_rfl)),
  f286 := Tryz.func199.trans (congrArg some (by kernel_rfl)),
  f317 := Tryz.func216.trans (congrArg some (by kernel_rfl)),
  f318 := Tryz.func217.trans (congrArg some (by kernel_rfl)),
  f319 := Tryz.func218.trans (congrArg some (by kernel_rfl)),
  f320 := Tryz.func219.trans (congrArg some (by kernel_rfl)),
  f337 := Tryz.func233.trans (congrArg some (by kernel_rfl)),
  f338 := Tryz.func234.trans (congrArg some (by kernel_rfl)),
  t0 := Tryz.underlying0,
  a0 := Tryz.isAgg0,
  z0 := Tryz.sizeOf0,
  v0 := Tryz.zeroValue0,
  t2 := Tryz.underlying2,
  a2 := Tryz.isAgg2,
  z2 := Tryz.sizeOf2,
  v2 := Tryz.zeroValue2,
  t3 := Tryz.underlying3,
  a3 := Tryz.isAgg3,
  z3 := Tryz.sizeOf3,
  v3 := Tryz.zeroValue3,
  t4 := Tryz.underlying4,
  a4 := Tryz.isAgg4,
  z4 := Tryz.sizeOf4,
  v4 := Tryz.zeroValue4,
  t5 := Tryz.underlying5,
  a5 := Tryz.isAgg5,
  z5 := Tryz.sizeOf5,
  v5 := Tryz.zeroValue5,
  t9 := Tryz.underlying9,
  a9 := Tryz.isAgg9,
  z9 := Tryz.sizeOf9,
  v9 := Tryz.zeroValue9,
  t20 := Tryz.underlying20,
  a20 := Tryz.isAgg20,
  z20 := Tryz.sizeOf20,
  v20 := Tryz.zeroValue20,
  t37 := Tryz.underlying159,
  a37 := Tryz.isAgg159,
  z37 := Tryz.sizeOf159,
  v37 := Tryz.zeroValue159,
  t46 := Tryz.underlying202,
  a46 := Tryz.isAgg202,
  z46 := Tryz.sizeOf202,
  v46 := Tryz.zeroValue202,
  t51 := Tryz.underlying222,
  a51 := Tryz.isAgg222,
  z51 := Tryz.sizeOf222,
  v51 := Tryz.zeroValue222,
  t53 := Tryz.underlying224,
  a53 := Tryz.isAgg224,
  z53 := Tryz.sizeOf224,
  v53 := Tryz.zeroValue224,
  t171 := Tryz.underlying230,
  a171 := Tryz.isAgg230,
  z171 := Tryz.sizeOf230,
  v171 := Tryz.zeroValue230,
  t173 := Tryz.underlying232,
  a173 := Tryz.isAgg232,
  z173 := Tryz.sizeOf232,
  v173 := Tryz.zeroValue232,
  t212 := Tryz.underlying248,
  a212 := Tryz.isAgg248,
  z212 := Tryz.sizeOf248,
  v212 := Tryz.zeroValue248,
  t213 := Tryz.underlying249,
  a213 := Tryz.isAgg249,
  z213 := Tryz.sizeOf249,
  t232 := Tryz.underlying271,
  a232 := Tryz.isAgg271,
  z232 := Tryz.sizeOf271,
  v232 := Tryz.zeroValue271,
  t233 := Tryz.underlying272,
  a233 := Tryz.isAgg272,
  z233 := Tryz.sizeOf272,
  v233 := Tryz.zeroValue272,
  g17 := by kernel_rfl,
  g18 := by kernel_rfl,
  g19 := by kernel_rfl }
end Go.Proofs.YtdeplhihcifmeaaGreatDoor

/- Print of the example of chapter 1; equalities. -/
namespace Go.Proofs.YtdeplhihcifmeaaGreatDoor
open Go.RowKit Go.Shelf Ck

theorem Tryz.fmiF : Tryz.fmi_ren.f 246 = 172 := by kernel_rfl
theorem fmtInt (n : Nat) (hn : n < 100) (w : World) : Calls Tryz.prog 172 #[.int .i64 n, .int .i64 10] w fun e w' => e = .returned (.string ⟨(Lib.decDigits n).toArray⟩) ∧ w = w' := by
  have h := Any.internal_strconv_FormatInt_10_small Tryz.fmi n hn w
  rw [Tryz.fmiF] at h
  exact h.mono fun e w' ⟨a, b⟩ => ⟨a, b.symm⟩
theorem itoaI (n : Nat) (hn : n < 100) (w : World) : Calls Tryz.prog 153 #[.int .i64 n] w fun e w' => e = .returned (.string ⟨(Lib.decDigits n).toArray⟩) ∧ w = w' := by
  go_enter Tryz.func153, Tryz.ntmps153
  go_wp2_with fail
  refine (fmtInt n hn _).mono ?_
  rintro e w1 ⟨rfl, rfl⟩
  go_wp2
  go_ret
  exact ⟨rfl, rfl⟩
theorem itoaS (n : Nat) (hn : n < 100) (w : World) : Calls Tryz.prog 124 #[.int .i64 n] w fun e w' => e = .returned (.string ⟨(Lib.decDigits n).toArray⟩) ∧ w = w' := by
  go_enter Tryz.func124, Tryz.ntmps124
  go_wp2_with fail
  refine (itoaI n hn _).mono ?_
  rintro e w1 ⟨rfl, rfl⟩
  go_wp2
  go_ret
  exact ⟨rfl, rfl⟩
/-- The numerals of small numbers. -/
def digS (n : Int) : List UInt8 := Lib.decDigits n.toNat
def smallB (b : Bar) : Bool := decide (0 ≤ b.x ∧ b.x < 100 ∧ 0 ≤ b.y ∧ b.y < 100)
theorem digs_small {l : List Bar} (h : l.all smallB = true) (w : World) : Digs digS l w := by
  intro b hb n hn w' _
  have h1 : 0 ≤ b.x ∧ b.x < 100 ∧ 0 ≤ b.y ∧ b.y < 100 := by simpa [smallB] using List.all_eq_true.1 h b hb
  obtain ⟨k, rfl⟩ : ∃ k : Nat, n = (k : Int) := ⟨n.toNat, by omega⟩
  refine (itoaS k (by omega) w').mono fun e w'' ⟨he, hw⟩ => ⟨?_, hw ▸ Below.refl _ _⟩
  rw [he, digS, Int.toNat_natCast]
def T8 : List UInt8 := [48, 58, 32, 48, 47, 32, 50, 92, 32, 50, 47, 32, 52, 92, 10, 49, 58, 32, 49, 92, 32, 49, 47, 32, 51, 92, 32, 51, 47, 10]
theorem T8_print : printB digS S8 = T8 := by decide +kernel
theorem awPrint (a : Option Addr) (c : Nat) (w : World) (h : OKS w a c S8) : Calls Tryz.prog 77 #[.slice a S8.length c] w fun e w' => e = .returned (.tuple #[.string ⟨T8.toArray⟩, .int .i64 0]) ∧ Below w.heap.size w w' := by
  have hd : ∀ b ∈ S8, (digS b.x).length ≤ 7 ∧ (digS b.y).length ≤ 7 := by decide +kernel
  have := netPrint digS a c S8 w (by decide) h.1 h.2.1 S8_net h.2.2.2 hd (digs_small (by decide +kernel) w) (by rw [T8_print]; decide)
  rw [T8_print] at this
  exact this
set_option maxRecDepth 100000 in
theorem eqFive (a b c d e : Int) (w : World) : (Op.equalIn 10000 67 (.agg #[.int .i64 a, .int .i64 b, .int .i64 c, .int .i64 d, .int .i64 e]) (.agg #[.int .i64 a, .int .i64 b, .int .i64 c, .int .i64 d, .int .i64 e])).run Tryz.prog w = .ok true w := by
  have u3 := Tryz.underlying3
  have a3 := Tryz.isAgg3
  have z3 := Tryz.sizeOf3
  obtain ⟨i, hi, -, -, -⟩ := info_parts infoI
  have hc : Tryz.prog.cellsOf 3 = 1 := by kernel_rfl
  rw [show (10000 : Nat) = 9999 + 1 from rfl, run_equalIn_array w 9999 _ _ Tryz.underlying67 hi, hc, show List.range 5 = [0, 1, 2, 3, 4] from rfl]
  simp only [Op.eqItems]
  go_simp
theorem guardFive : Tryz.prog.eqGuardType Tryz.prog.depth 67 = false := by kernel_rfl
theorem eqMesh (a b : Int) (w : World) :
    (Op.equalIn 10000 118 (.agg #[.int .i64 a, .int .i64 b]) (.agg #[.int .i64 a, .int .i64 b])).run Tryz.prog w = .ok true w := by
  have u3 := Tryz.underlying3
  have a3 := Tryz.isAgg3
  have z3 := Tryz.sizeOf3
  have hS : Tryz.prog.underlying 118 = some (.struct (Tryz.prog.fieldsOf 118)) := by kernel_rfl
  have hp : Tryz.prog.stoodInHeld 118 = false := by kernel_rfl
  rw [show (10000 : Nat) = 9999 + 1 from rfl, run_equalIn_struct w 9999 118 _ _ hS hp]
  simp only [Program.fieldsOf, Tryz.underlying118]
  go_simp
theorem guardMesh : Tryz.prog.eqGuardType Tryz.prog.depth 118 = false := by kernel_rfl
theorem eqCountsSame (a b c d e : Int) (w : World) : (Op.equalIn 10000 86 (.agg #[.int .i64 a, .int .i64 b, .int .i64 c, .int .i64 d, .int .i64 e]) (.agg #[.int .i64 a, .int .i64 b, .int .i64 c, .int .i64 d, .int .i64 e])).run Tryz.prog w = .ok true w := eqCounts a b c d e a b c d e true (by simp) w
theorem boxO (w : World) (o : Obj) : ∃ w1, w.alloc o = w1 ∧ w1.heap[w.heap.size]? = some o ∧ Below w.heap.size w w1 ∧ w.heap.size < w1.heap.size :=
  ⟨_, rfl, heap_alloc_new _ _, (Below.refl _ _).alloc (Nat.le_refl _) _, by simp⟩
/-- The knots of a mesh in memory. -/
def MeshAt (g : Nat) (w : World) : Prop := g < w.heap.size ∧ w.cell? ⟨g, 0, none⟩ = some (.int .i64 2) ∧ w.cell? ⟨g, 1, none⟩ = some (.int .i64 1)
theorem MeshAt.below {g : Nat} {w w' : World} (h : MeshAt g w) (hb : Below w.heap.size w w') : MeshAt g w' :=
  ⟨by have := hb.size; have := h.1; omega, (hb.cell (p := ⟨g, 0, none⟩) h.1).trans h.2.1, (hb.cell (p := ⟨g, 1, none⟩) h.1).trans h.2.2⟩
def Blk (g : Nat) (o : Obj) (w : World) : Prop := w.heap[g]? = some o
theorem Blk.below {g : Nat} {o : Obj} {w w' : World} (h : Blk g o w) (hb : Below w.heap.size w w') : Blk g o w' := (hb.block _ (Array.getElem?_eq_some_iff.1 h).1).trans h
theorem RI.go {w w' : World} {A : Option Addr} {l : List Nat} (h : RI w w.heap.size A l) (hb : Below w.heap.size w w') : RI w' w'.heap.size A l := (h.below hb).more hb.size
/-- Parse at the example's string. -/
def ParseOk : Prop := ∀ w, Calls Tryz.prog 78 #[.string ⟨T8.toArray⟩] w fun e w' => ∃ a c, e = .returned (.tuple #[.slice a S8.length c, .int .i64 0, .int .i64 0]) ∧ OKS w' a c S8 ∧ Below w.heap.size w w'
theorem awSheet22 (w : World) : Calls Tryz.prog 39 #[.agg #[.int .i64 0, .int .i64 0], .int .i64 2, .int .i64 2] w (PairPost S8 w) := awSheet 2 2 S8 S8_sheet (by decide +kernel) w
theorem awSheet24 (w : World) : Calls Tryz.prog 39 #[.agg #[.int .i64 0, .int .i64 0], .int .i64 2, .int .i64 4] w (PairPost P16 w) := awSheet 2 4 P16 rfl (by decide +kernel) w
theorem awCount8 (a : Option Addr) (c : Nat) (w : World) (h : OKS w a c S8) : Calls Tryz.prog 53 #[.slice a S8.length c] w fun e w' => e = .returned (.tuple #[.agg #[.int .i64 8, .int .i64 8, .int .i64 1, .int .i64 1, .int .i64 0], .int .i64 0]) ∧ Below w.heap.size w w' :=
  awCount S8 8 1 1 S8_net (by decide) S8_nK S8_nM (fun q hq => S8_parts hq) a c w h
theorem awCount12 (a : Option Addr) (c : Nat) (w : World) (h : OKS w a c R12) : Calls Tryz.prog 53 #[.slice a R12.length c] w fun e w' => e = .returned (.tuple #[.agg #[.int .i64 12, .int .i64 12, .int .i64 0, .int .i64 1, .int .i64 1], .int .i64 0]) ∧ Below w.heap.size w w' :=
  awCount R12 12 0 1 R12_net (by decide) R12_nK R12_nM (fun q hq => R12_parts hq) a c w h
end Go.Proofs.YtdeplhihcifmeaaGreatDoor

/- Numbers and bars of a string: readNumber, readBar of netting, at numerals of small numbers. -/
namespace Go.Proofs.YtdeplhihcifmeaaGreatDoor
open Go.RowKit Go.Shelf Ck

theorem Tryz.lyF104 : Tryz.ly104_ren.f 104 = 156 := by kernel_rfl
theorem Tryz.lyF145 : Tryz.ly145_ren.f 145 = 157 := by kernel_rfl
theorem Tryz.lyF146 : Tryz.ly146_ren.f 146 = 159 := by kernel_rfl
theorem Tryz.lyF137 : Tryz.ly137_ren.f 137 = 155 := by kernel_rfl
theorem Tryz.lyF172 : Tryz.ly172_ren.f 172 = 176 := by kernel_rfl
theorem Tryz.lyT5 : Tryz.ly172_ren.t 5 = 5 := by kernel_rfl
theorem Tryz.lyT9 : Tryz.ly146_ren.t 9 = 9 := by kernel_rfl
theorem Tryz.lyG1 : Tryz.ly145_ren.g 1 = 1 := by kernel_rfl
theorem Tryz.lyG1' : Tryz.ly146_ren.g 1 = 1 := by kernel_rfl
theorem slCutSuffix (s p : ByteArray) (w : World) (hs : s.size ≤ 100000) : Calls Tryz.prog 156 #[.string s, .string p] w fun e w' => e = .returned (.tuple #[.string ⟨(Lib.trimSuffix s.data.toList p.data.toList).toArray⟩, .bool (Lib.hasSuffix s.data.toList p.data.toList)]) ∧ w' = w := by
  have h := Any.strings_CutSuffix Tryz.ly104 s p w (by omega)
  rwa [Tryz.lyF104] at h
/-- A library's variable that its searches read. -/
def LaidLen (w : World) : Prop := ∃ m, w.cell? ⟨1, 0, none⟩ = some (.int .i64 m)
theorem LaidLen.below {B : Nat} {w w' : World} (h : LaidLen w) (hb : Below B w w') (hB : 1 < B) : LaidLen w' := by
  obtain ⟨m, hm⟩ := h
  exact ⟨m, (hb.cell (p := ⟨_, 0, none⟩) hB).trans hm⟩
theorem slCut (s sep : ByteArray) (w : World) (hs : s.size ≤ 100000) (hL : LaidLen w) : Calls Tryz.prog 157 #[.string s, .string sep] w fun e w' => e = .returned (.tuple #[.string ⟨(Lib.cut s.data.toList sep.data.toList).1.toArray⟩, .string ⟨(Lib.cut s.data.toList sep.data.toList).2.1.toArray⟩, .bool (Lib.cut s.data.toList sep.data.toList).2.2]) ∧ ∃ n, w' = w.drewN n := by
  obtain ⟨m, hm⟩ := hL
  have h := Any.strings_Cut Tryz.ly145 s sep m w (by omega) (by rw [Tryz.lyG1]; exact hm)
  rwa [Tryz.lyF145] at h
theorem slSplit (s sep : ByteArray) (w : World) (hs : s.size ≤ 100000) (h1 : 1 ≤ sep.size) (hL : LaidLen w) : Calls Tryz.prog 159 #[.string s, .string sep] w fun e w' => e = .returned (.slice (some ⟨w.heap.size, 0, none⟩) (Lib.countB s sep + 1) (Lib.countB s sep + 1)) ∧ w' = w.alloc (.cells ((Lib.splitB sep 0 (Lib.countB s sep) s).map Value.string).toArray 9) := by
  obtain ⟨m, hm⟩ := hL
  have h := Any.strings_Split Tryz.ly146 (by kernel_rfl) s sep m w (by omega) (by rw [Tryz.lyG1']; exact hm) h1
  rw [Tryz.lyF146, Tryz.lyT9] at h
  exact h
theorem atoi_dec {n : Nat} (hn : n < 100) : Lib.atoiAll (Lib.decDigits n) = .ok (n : Int) := by
  have h : ∀ k, k < 100 → (match Lib.atoiAll (Lib.decDigits k) with | .ok v => decide (v = (k : Int)) | _ => false) = true := by decide +kernel
  have h1 := h n hn
  split at h1
  · rename_i v hv
    rw [hv, of_decide_eq_true h1]
  · cases h1
theorem slAtoi (n : Nat) (hn : n < 100) (w : World) : Calls Tryz.prog 176 #[.string ⟨(Lib.decDigits n).toArray⟩] w fun e w' => e = .returned (.tuple #[.int .i64 n, .nilIface]) ∧ Below w.heap.size w w' := by
  have hz : (⟨(Lib.decDigits n).toArray⟩ : ByteArray).size ≤ 9223372036854775806 := by
    have : ∀ k, k < 100 → (Lib.decDigits k).length ≤ 2 := by decide +kernel
    have := this n hn
    rw [Lib.size_eq]; simp; omega
  have h := Any.strconv_Atoi_ok Tryz.ly172 ⟨(Lib.decDigits n).toArray⟩ hz n (by simpa using atoi_dec hn) w
  rw [Tryz.lyF172, Tryz.lyT5] at h
  refine h.mono fun e w' ⟨he, hw⟩ => ⟨he, ?_⟩
  rcases hw with rfl | ⟨t, rfl⟩
  · exact Below.refl _ _
  · exact Lib.bytesWorld_below _ _ _
set_option maxHeartbeats 1000000 in
set_option maxRecDepth 100000 in
theorem netReadNum (n : Nat) (hn : n < 100) (w : World) : Calls Tryz.prog 158 #[.string ⟨(Lib.decDigits n).toArray⟩] w fun e w' => e = .returned (.tuple #[.int .i64 n, .bool true]) ∧ Below w.heap.size w w' := by
  have ex0 : ∀ (a b : Value) (w : World), (Instr.extract (.tuple #[a, b]) 0).run Tryz.prog w = .ok a w := fun _ _ _ => by kernel_rfl
  have ex1 : ∀ (a b : Value) (w : World), (Instr.extract (.tuple #[a, b]) 1).run Tryz.prog w = .ok b w := fun _ _ _ => by kernel_rfl
  have h1 : ¬ (n : Int) < -999999 := by omega
  have h2 : ¬ (999999 : Int) < (n : Int) := by omega
  go_enter Tryz.func158, Tryz.ntmps158
  go_wp2_with fail
  refine (slAtoi n hn _).mono ?_
  rintro e w1 ⟨rfl, hb1⟩
  go_wp2_with fail
  refine (itoaS n hn _).mono ?_
  rintro e w2 ⟨rfl, rfl⟩
  go_wp2
  go_ret2
  exact ⟨rfl, hb1⟩
/-- The string of a bar in a line. -/
def wordB (n : Nat) (s : Int) : List UInt8 := Lib.decDigits n ++ markB s
theorem word_facts {n : Nat} (hn : n < 100) : Lib.hasSuffix (wordB n 1) [92] = false ∧ Lib.hasSuffix (wordB n 1) [47] = true ∧ Lib.trimSuffix (wordB n 1) [47] = Lib.decDigits n ∧ Lib.hasSuffix (wordB n (-1)) [92] = true ∧ Lib.trimSuffix (wordB n (-1)) [92] = Lib.decDigits n ∧ (wordB n 1).length ≤ 3 ∧ (wordB n (-1)).length ≤ 3 := by
  have : ∀ k, k < 100 → Lib.hasSuffix (wordB k 1) [92] = false ∧ Lib.hasSuffix (wordB k 1) [47] = true ∧ Lib.trimSuffix (wordB k 1) [47] = Lib.decDigits k ∧ Lib.hasSuffix (wordB k (-1)) [92] = true ∧ Lib.trimSuffix (wordB k (-1)) [92] = Lib.decDigits k ∧ (wordB k 1).length ≤ 3 ∧ (wordB k (-1)).length ≤ 3 := by decide +kernel
  exact this n hn
theorem ixS0 (a b : Value) (w : World) : (Instr.index 213 (.agg #[a, b]) (.int .i64 0)).run Tryz.prog w = .ok a w := by kernel_rfl
theorem ixS1 (a b : Value) (w : World) : (Instr.index 213 (.agg #[a, b]) (.int .i64 1)).run Tryz.prog w = .ok b w := by kernel_rfl
theorem slCutS (l p : List UInt8) (w : World) (hs : l.length ≤ 100000) (r : List UInt8) (b : Bool) (hr : Lib.trimSuffix l p = r) (hb : Lib.hasSuffix l p = b) (s t : ByteArray) (hl : s.data.toList = l) (hp : t.data.toList = p) : Calls Tryz.prog 156 #[.string s, .string t] w fun e w' => e = .returned (.tuple #[.string ⟨r.toArray⟩, .bool b]) ∧ w = w' := by
  subst hl hp hr hb
  exact (slCutSuffix s t w (by rw [Lib.size_eq]; exact hs)).mono fun e w' ⟨a, b⟩ => ⟨a, b.symm⟩
theorem three_blk {g : Nat} {a b c : Value} {t : TypeId} {w : World} (h : Blk g (.cells #[a, b, c] t (0, 0)) w) : w.cell? ⟨g, 0, none⟩ = some a ∧ w.cell? ⟨g, 1, none⟩ = some b ∧ w.cell? ⟨g, 2, none⟩ = some c ∧ ∀ i, w.frozen? ⟨g, i, none⟩ = false := by
  have h' : w.heap[g]? = some (.cells #[a, b, c] t (0, 0)) := h
  refine ⟨?_, ?_, ?_, fun i => ?_⟩ <;> simp [World.cell?, World.frozen?, h']
set_option maxHeartbeats 2000000 in
set_option maxRecDepth 100000 in
theorem netReadBar (n : Nat) (hn : n < 100) (y s : Int) (hs : s = 1 ∨ s = -1) (w : World) : Calls Tryz.prog 160 #[.string ⟨(wordB n s).toArray⟩, .int .i64 y] w fun e w' => e = .returned (.tuple #[.agg #[.int .i64 n, .int .i64 y, .int .i64 s], .bool true]) ∧ Below w.heap.size w w' := by
  have ex0 : ∀ (a b : Value) (w : World), (Instr.extract (.tuple #[a, b]) 0).run Tryz.prog w = .ok a w := fun _ _ _ => by kernel_rfl
  have ex1 : ∀ (a b : Value) (w : World), (Instr.extract (.tuple #[a, b]) 1).run Tryz.prog w = .ok b w := fun _ _ _ => by kernel_rfl
  obtain ⟨f1, f2, f3, f4, f5, f6, f7⟩ := word_facts hn
  have HF := Lib.hid (And.intro f1 (And.intro f2 f3))
  have HG := Lib.hid (And.intro f4 f5)
  have i0 := ixS0
  have i1 := ixS1
  obtain ⟨W, hW⟩ : ∃ W, wordB n s = W := ⟨_, rfl⟩
  have HW := Lib.hid hW
  have hWl : W.length ≤ 3 := by rcases hs with rfl | rfl <;> rw [← hW] <;> assumption
  obtain ⟨w1, hw1, k1, hb1, hz1⟩ := boxO w (.cells #[.int .i64 0, .int .i64 0, .int .i64 0] 24)
  have HW1 := Lib.hid hw1
  rw [hW]
  clear f1 f2 f3 f4 f5 f6 f7 hW hw1
  go_enter Tryz.func160, Tryz.ntmps160
  go_wp2_with fail
  rw [HW1.out]
  go_loopw [7, 8, 9, 10, 11, 13] (fun _ _ _ _ _ i wr => (i = .int .i64 0 ∨ (i = .int .i64 1 ∧ s = 1)) ∧ Hid (Blk w.heap.size (.cells #[.int .i64 0, .int .i64 0, .int .i64 0] 24) wr) ∧ Below w.heap.size w wr) (fun _ _ _ _ _ i _ => 2 - (intOf i).toNat)
  case atStart => exact ⟨.inl rfl, Lib.hid k1, hb1⟩
  case round =>
    obtain ⟨hi, HB, hb⟩ := hrel
    rcases hi with rfl | ⟨rfl, rfl⟩
    · go_wp2_with fail
      refine (netSideMarkB (-1) _).mono ?_
      rintro e w2 ⟨rfl, rfl⟩
      rcases hs with rfl | rfl
      · go_wp2_with fail
        refine (slCutS W [92] _ (by omega) _ false rfl (by rw [← HW.out]; exact HF.out.1) _ _ (by simp) rfl).mono ?_
        rintro e w3 ⟨rfl, rfl⟩
        go_wp2
        go_roundw
        case rel => exact ⟨by simp, HB, hb⟩
        case measure => simp [intOf]
      · go_wp2_with fail
        refine (slCutS W [92] _ (by omega) (Lib.decDigits n) true (by rw [← HW.out]; exact HG.out.2) (by rw [← HW.out]; exact HG.out.1) _ _ (by simp) rfl).mono ?_
        rintro e w3 ⟨rfl, rfl⟩
        go_wp2_with fail
        refine (netReadNum n hn _).mono ?_
        rintro e w4 ⟨rfl, hb4⟩
        obtain ⟨r0, r1, r2, r3⟩ := three_blk (HB.out.below hb4)
        have B4 := hb.trans (hb4.mono hb.size)
        have z4 : w.heap.size < w4.heap.size := (Array.getElem?_eq_some_iff.1 (HB.out.below hb4)).1
        go_wp2
        exact bodyPost_ret (v := .tuple #[.agg #[.int .i64 n, .int .i64 y, .int .i64 (-1)], .bool true]) (by simp [results, Tryz.results160, go_sem, r0, r1, r2]) rfl ⟨rfl, ((B4.setCell (Nat.le_refl _) _).setCell (Nat.le_refl _) _).setCell (Nat.le_refl _) _⟩
    · go_wp2_with fail
      refine (netSideMarkB 1 _).mono ?_
      rintro e w2 ⟨rfl, rfl⟩
      go_wp2_with fail
      refine (slCutS W [47] _ (by omega) (Lib.decDigits n) true (by rw [← HW.out]; exact HF.out.2.2) (by rw [← HW.out]; exact HF.out.2.1) _ _ (by simp) rfl).mono ?_
      rintro e w3 ⟨rfl, rfl⟩
      go_wp2_with fail
      refine (netReadNum n hn _).mono ?_
      rintro e w4 ⟨rfl, hb4⟩
      obtain ⟨r0, r1, r2, r3⟩ := three_blk (HB.out.below hb4)
      have B4 := hb.trans (hb4.mono hb.size)
      have z4 : w.heap.size < w4.heap.size := (Array.getElem?_eq_some_iff.1 (HB.out.below hb4)).1
      go_wp2
      exact bodyPost_ret (v := .tuple #[.agg #[.int .i64 n, .int .i64 y, .int .i64 1], .bool true]) (by simp [results, Tryz.results160, go_sem, r0, r1, r2]) rfl ⟨rfl, ((B4.setCell (Nat.le_refl _) _).setCell (Nat.le_refl _) _).setCell (Nat.le_refl _) _⟩
end Go.Proofs.YtdeplhihcifmeaaGreatDoor

/- A line of a string: readLine of netting. -/
namespace Go.Proofs.YtdeplhihcifmeaaGreatDoor
open Go.RowKit Go.Shelf Ck

theorem LaidLen.lt {w : World} (h : LaidLen w) : 1 < w.heap.size := by
  obtain ⟨m, hm⟩ := h
  by_cases hlt : 1 < w.heap.size
  · exact hlt
  · rw [World.cell?, Array.getElem?_eq_none (by show w.heap.size ≤ 1; omega)] at hm
    cases hm
theorem LaidLen.go {w w' : World} (h : LaidLen w) (hb : Below w.heap.size w w') : LaidLen w' := h.below hb h.lt
def barW (y : Int) (p : Nat × Int) : Bar := ⟨p.1, y, p.2⟩
/-- What a line says. -/
structure LineIs (L : List UInt8) (y : Nat) (ws : List (Nat × Int)) : Prop where
  y99 : y < 100
  ok : ∀ p ∈ ws, p.1 < 100 ∧ (p.2 = 1 ∨ p.2 = -1)
  some : 1 ≤ ws.length
  few : ws.length ≤ 1000
  len : L.length ≤ 10000
  ended : Lib.hasSuffix L [10] = true
  parted : ∃ tail, Lib.cut (Lib.trimSuffix L [10]) [58] = (Lib.decDigits y, tail, true) ∧ tail.length ≤ 10000 ∧ Lib.countB ⟨tail.toArray⟩ ⟨#[32]⟩ = ws.length ∧ Lib.splitB ⟨#[32]⟩ 0 ws.length ⟨tail.toArray⟩ = ⟨#[]⟩ :: ws.map fun p => ⟨(wordB p.1 p.2).toArray⟩
theorem trim_le (l p : List UInt8) : (Lib.trimSuffix l p).length ≤ l.length := by
  unfold Lib.trimSuffix
  split
  · rw [List.length_take]; omega
  · exact Nat.le_refl _
theorem below_drewN' (w : World) (n : Nat) : Below w.heap.size w (w.drewN n) := below_drewN (Below.refl _ _) n
theorem slCutL (l p a b : List UInt8) (c : Bool) (w : World) (hs : l.length ≤ 100000) (hc : Lib.cut l p = (a, b, c)) (s t : ByteArray) (hl : s.data.toList = l) (hp : t.data.toList = p) (hL : LaidLen w) : Calls Tryz.prog 157 #[.string s, .string t] w fun e w' => e = .returned (.tuple #[.string ⟨a.toArray⟩, .string ⟨b.toArray⟩, .bool c]) ∧ Below w.heap.size w w' := by
  subst hl hp
  have h := slCut s t w (by rw [Lib.size_eq]; exact hs) hL
  rw [hc] at h
  exact h.mono fun e w' ⟨he, n, hw⟩ => ⟨he, hw ▸ below_drewN' w n⟩
theorem slSplitL (s : ByteArray) (n : Nat) (r : List ByteArray) (w : World) (hs : s.size ≤ 100000) (hc : Lib.countB s ⟨#[32]⟩ = n) (hr : Lib.splitB ⟨#[32]⟩ 0 n s = r) (hL : LaidLen w) : Calls Tryz.prog 159 #[.string s, .string ⟨#[32]⟩] w fun e w' => e = .returned (.slice (some ⟨w.heap.size, 0, none⟩) (n + 1 : Nat) (n + 1)) ∧ Blk w.heap.size (.cells (r.map Value.string).toArray 9 (0, 0)) w' ∧ Below w.heap.size w w' := by
  subst hc hr
  exact (slSplit s ⟨#[32]⟩ w hs (by decide) hL).mono fun e w' ⟨he, hw⟩ => ⟨he, by rw [hw]; exact heap_alloc_new _ _, hw ▸ (Below.refl _ _).alloc (Nat.le_refl _) _⟩
theorem Blk.grown {g : Nat} {cs : Array Value} {t e : TypeId} {fz : Nat × Nat} {w w' : World} {tmp : Obj} {B z n : Nat} {v : Value} {xs : List Value} (h : Blk g (.cells cs t fz) w) (hrow : w.ownsRow B e z v n xs) (he : t ≠ e) (hg : (w.alloc tmp).grownBy w' v.ownBlock) : Blk g (.cells cs t fz) w' := by
  have h' : w.heap[g]? = some (.cells cs t fz) := h
  have hlt : g < w.heap.size := (Array.getElem?_eq_some_iff.1 h').1
  have hk : some g ≠ v.ownBlock := by
    intro e'
    rcases hrow.2 with ⟨rfl, -⟩ | ⟨g2, cap2, cur2, rfl, -, hgb2, -⟩
    · simp [Value.ownBlock] at e'
    · simp only [Value.ownBlock, Option.some.injEq] at e'
      subst e'
      rw [h'] at hgb2
      injection hgb2 with h1
      injection h1 with _ h2 _
      exact he h2
  exact (hg.block g (by simp; omega) hk).trans ((heap_alloc_old w tmp hlt).trans h')
theorem blk_cell {g i : Nat} {cs : List Value} {t : TypeId} {w : World} {v : Value} (h : Blk g (.cells cs.toArray t (0, 0)) w) (hv : cs[i]? = some v) : w.cell? ⟨g, i, none⟩ = some v := by
  have h' : w.heap[g]? = some (.cells cs.toArray t (0, 0)) := h
  simp [World.cell?, h', hv]
set_option maxHeartbeats 4000000 in
set_option maxRecDepth 100000 in
theorem netReadLine (L : List UInt8) (y : Nat) (ws : List (Nat × Int)) (w : World) (h : LineIs L y ws) (hL : LaidLen w) :
    Calls Tryz.prog 129 #[.string ⟨L.toArray⟩] w fun e w' => ∃ v, e = .returned (.tuple #[v, .bool true]) ∧ w'.ownsRow w.heap.size 24 3 v (ws.map (barW y)).length (bcellsL (ws.map (barW y))) ∧ Below w.heap.size w w' := by
  have ex0 : ∀ (a b : Value) (w : World), (Instr.extract (.tuple #[a, b]) 0).run Tryz.prog w = .ok a w := fun _ _ _ => by kernel_rfl
  have ex1 : ∀ (a b : Value) (w : World), (Instr.extract (.tuple #[a, b]) 1).run Tryz.prog w = .ok b w := fun _ _ _ => by kernel_rfl
  have ey0 : ∀ (a b c : Value) (w : World), (Instr.extract (.tuple #[a, b, c]) 0).run Tryz.prog w = .ok a w := fun _ _ _ _ => by kernel_rfl
  have ey1 : ∀ (a b c : Value) (w : World), (Instr.extract (.tuple #[a, b, c]) 1).run Tryz.prog w = .ok b w := fun _ _ _ _ => by kernel_rfl
  have ey2 : ∀ (a b c : Value) (w : World), (Instr.extract (.tuple #[a, b, c]) 2).run Tryz.prog w = .ok c w := fun _ _ _ _ => by kernel_rfl
  obtain ⟨ib, hib, hb0, hb01, hb02⟩ := info_parts Tryz.info24
  have HIB := Lib.hid hib
  have HB0 := Lib.hid hb0
  have HB1 := Lib.hid hb01
  have HB2 := Lib.hid hb02
  obtain ⟨h0, h1, h2, h3, h4, h5, tail, h6, h7, h8, h9⟩ := h
  obtain ⟨M, hM⟩ : ∃ M, Lib.trimSuffix L [10] = M := ⟨_, rfl⟩
  have hMl : M.length ≤ 10000 := by rw [← hM]; exact Nat.le_trans (trim_le _ _) h4
  rw [hM] at h6
  have HM := Lib.hid hM
  have H5 := Lib.hid h5
  have H6 := Lib.hid h6
  have H8 := Lib.hid h8
  have H9 := Lib.hid h9
  have HOK := Lib.hid h1
  have HL := Lib.hid hL
  clear hib hb0 hb01 hb02 hM h5 h6 h8 h9 h1 hL
  go_enter Tryz.func129, Tryz.ntmps129
  go_wp2_with fail
  refine (slCutS L [10] _ (by omega) M true HM.out H5.out _ _ (by simp) rfl).mono ?_
  rintro e w1 ⟨rfl, rfl⟩
  go_wp2_with fail
  refine (slCutL M [58] _ _ _ _ (by omega) H6.out _ _ (by simp) rfl HL.out).mono ?_
  rintro e w2 ⟨rfl, hb2⟩
  have HL2 := Lib.hid (HL.out.go hb2)
  go_wp2_with fail
  refine (netReadNum y h0 _).mono ?_
  rintro e w3 ⟨rfl, hb3⟩
  have HL3 := Lib.hid (HL2.out.go hb3)
  have B3 := hb2.trans (hb3.mono hb2.size)
  clear hb2 hb3 HL2
  go_wp2_with fail
  refine (slSplitL _ ws.length _ _ (by rw [Lib.size_eq]; simp; omega) H8.out H9.out HL3.out).mono ?_
  rintro e w4 ⟨rfl, hq4, hb4⟩
  have HQ := Lib.hid hq4
  obtain ⟨b, hb⟩ : ∃ b, w3.heap.size = b := ⟨_, rfl⟩
  rw [hb] at HQ
  have B4 := B3.trans (hb4.mono B3.size)
  have hbz : b < w4.heap.size := (Array.getElem?_eq_some_iff.1 HQ.out).1
  have k0 : w4.cell? ⟨b, 0, none⟩ = some (.string ⟨#[]⟩) := blk_cell HQ.out rfl
  have hn2 : ¬ (ws.length : Int) + 1 < 2 := by omega
  have hn0 : (0 : Int) < (ws.length : Int) + 1 := by omega
  have hn1 : (1 : Int) ≤ (ws.length : Int) + 1 := by omega
  clear hq4 hb4
  go_wp2_with fail
  have HZ0 := Lib.hid (show (w4.ownsRow w.heap.size 24 3 (.slice none 0 0) ((ws.take 0).map (barW y)).length (bcellsL ((ws.take 0).map (barW y)))) from ⟨rfl, .inl ⟨rfl, rfl⟩⟩)
  clear k0
  go_loopw [11, 13, 14, 15, 58] (fun v _ _ _ i wr => ∃ k : Nat, k ≤ ws.length ∧ i = .int .i64 k ∧ Hid (wr.ownsRow w.heap.size 24 3 v ((ws.take k).map (barW y)).length (bcellsL ((ws.take k).map (barW y)))) ∧ Hid (Blk b (.cells (((⟨#[]⟩ : ByteArray) :: ws.map fun p => ⟨(wordB p.1 p.2).toArray⟩).map Value.string).toArray 9 (0, 0)) wr) ∧ Below w.heap.size w wr) (fun _ _ _ _ i _ => ws.length - (intOf i).toNat)
  case atStart => exact ⟨0, Nat.zero_le _, rfl, HZ0, HQ, B4⟩
  case round =>
    clear HZ0 HQ B4 hbz
    obtain ⟨k, hk, rfl, hown, HQ, hbr⟩ := hrel
    by_cases hlt : k < ws.length
    · obtain ⟨⟨N, S⟩, hp⟩ : ∃ p, ws[k] = p := ⟨_, rfl⟩
      obtain ⟨hN, hS⟩ := HOK.out (N, S) (by rw [← hp]; exact List.getElem_mem hlt)
      simp only at hN hS
      have k1 : wr.cell? ⟨b, 1 + k, none⟩ = some (.string ⟨(wordB N S).toArray⟩) := by
        refine blk_cell HQ.out ?_
        rw [Nat.add_comm, List.map_cons, List.getElem?_cons_succ]
        simp [List.getElem?_eq_getElem hlt, hp]
      have HT := Lib.hid (show (ws.take (k + 1)).map (barW y) = (ws.take k).map (barW y) ++ [⟨N, y, S⟩] by
        rw [List.take_succ_eq_append_getElem hlt, List.map_append, hp]; rfl)
      have hkl : (k : Int) < (ws.length : Int) := by omega
      have hk0 : (0 : Int) ≤ (k : Int) := by omega
      have hbz := hbr.size
      clear hp
      go_wp2_with fail
      refine (netReadBar N hN y S hS _).mono ?_
      rintro e w5 ⟨rfl, hb5⟩
      obtain ⟨w6, hw6, e0, e1, e2, hb6, hz6⟩ := box3 w5 (.int .i64 N) (.int .i64 y) (.int .i64 S) 24
      have hw6' := hw6.symm
      have b6 : Below wr.heap.size wr w6 := hb5.trans (hb6.mono hb5.size)
      have HO := Lib.hid (ownsRow_below hown.out b6)
      have HQ6 := Lib.hid (HQ.out.below b6)
      have B6 := hbr.trans (b6.mono hbz)
      have B6z := B6.size
      have hln : ((ws.take k).map (barW y)).length ≤ 1000 := by rw [List.length_map, List.length_take]; omega
      generalize hFF : (ws.take k).map (barW y) = F at HO hln HT
      clear hw6 hown HQ k1 hb5 hb6 b6
      go_wp2_with (at_builtin; refine wpList_append_own _ rfl _ _ 22 rfl w.heap.size 24 ib (.agg #[.int .i64 0, .int .i64 0, .int .i64 0]) 3 24 Tryz.underlying22 HIB.out HB0.out HB1.out HB2.out rfl (by decide) _ _ _ rfl (HO.out.alloc _) ⟨w6.heap.size, 0, none⟩ 1 1 [.int .i64 N, .int .i64 y, .int .i64 S] rfl rfl (three_new _ _ _ _ _) ?c2 ?c3 ?c4 ?c5 ?_)
      case c2 => intro u hu; simp at hu; rcases hu with rfl | rfl | rfl <;> rfl
      case c3 => unfold maxLen; omega
      case c4 => omega
      case c5 => simp; omega
      intro v' w7 hown7 hgrow7 _
      have B7 : Below w.heap.size w w7 := (B6.alloc B6z _).grown hgrow7 (by simp; omega) (ownsRow_base HO.out)
      have HQ7 := Lib.hid (HQ6.out.grown HO.out (by decide) hgrow7)
      have HO7 := Lib.hid hown7
      clear hown7 hgrow7
      go_wp2
      go_roundw
      case rel => exact ⟨k + 1, by omega, by go_num, Lib.hid (by rw [HT.out, List.length_append, bcellsL_snoc]; exact HO7.out), HQ7, B7⟩
      case measure => simp [intOf]; omega
    · obtain rfl : k = ws.length := by omega
      rw [List.take_length] at hown
      go_wp2
      go_ret2
      exact ⟨_, rfl, hown.out, hbr⟩
end Go.Proofs.YtdeplhihcifmeaaGreatDoor

/- The example's two lines. -/
namespace Go.Proofs.YtdeplhihcifmeaaGreatDoor
open Go.RowKit Go.Shelf Ck

def L1 : List UInt8 := [48, 58, 32, 48, 47, 32, 50, 92, 32, 50, 47, 32, 52, 92, 10]
def L2 : List UInt8 := [49, 58, 32, 49, 92, 32, 49, 47, 32, 51, 92, 32, 51, 47, 10]
def W1 : List (Nat × Int) := [(0, 1), (2, -1), (2, 1), (4, -1)]
def W2 : List (Nat × Int) := [(1, -1), (1, 1), (3, -1), (3, 1)]
theorem T8_lines : T8 = L1 ++ L2 := rfl
theorem W1_bars : W1.map (barW 0) = S8.take 4 := by decide +kernel
theorem W2_bars : S8 = S8.take 4 ++ W2.map (barW 1) := by decide +kernel
theorem L1_is : LineIs L1 0 W1 where
  y99 := by decide
  ok := by decide +kernel
  some := by decide
  few := by decide
  len := by decide
  ended := by decide +kernel
  parted := ⟨[32, 48, 47, 32, 50, 92, 32, 50, 47, 32, 52, 92], by decide +kernel, by decide, by decide +kernel, by decide +kernel⟩
theorem L2_is : LineIs L2 1 W2 where
  y99 := by decide
  ok := by decide +kernel
  some := by decide
  few := by decide
  len := by decide
  ended := by decide +kernel
  parted := ⟨[32, 49, 92, 32, 49, 47, 32, 51, 92, 32, 51, 47], by decide +kernel, by decide, by decide +kernel, by decide +kernel⟩
end Go.Proofs.YtdeplhihcifmeaaGreatDoor

/- checkRoom, checkLineOrder of netting, where a line may follow. -/
namespace Go.Proofs.YtdeplhihcifmeaaGreatDoor
open Go.RowKit Go.Shelf Ck

set_option maxHeartbeats 1000000 in
set_option maxRecDepth 100000 in
theorem netCheckRoom (A : Option Addr) (n c : Nat) (w : World) (hn : n < 4096) : Calls Tryz.prog 162 #[.slice A n c] w fun e w' => e = .returned (.int .i64 0) ∧ w = w' := by
  have h : ¬ (4096 : Int) ≤ (n : Int) := by omega
  go_enter Tryz.func162, Tryz.ntmps162
  go_wp2
  go_ret
  exact ⟨rfl, rfl⟩
set_option maxHeartbeats 1000000 in
set_option maxRecDepth 100000 in
/-- Behind an empty net. -/
theorem netLineOrder0 (A : Option Addr) (c i : Nat) (x y s : Int) (w : World) :
    Calls Tryz.prog 161 #[.slice A 0 c, .int .i64 i, .agg #[.int .i64 x, .int .i64 y, .int .i64 s]] w fun e w' => e = .returned (.int .i64 0) ∧ Below w.heap.size w w' := by
  obtain ⟨w1, hw1, e0, e1, e2, hb1, hz1⟩ := box3 w (.int .i64 x) (.int .i64 y) (.int .i64 s) 24
  have HW := Lib.hid hw1
  clear hw1
  by_cases h0 : i = 0
  · have hb : ((i : Int) == 0) = true := by rw [h0]; rfl
    clear h0
    go_enter Tryz.func161, Tryz.ntmps161
    go_wp2_with fail
    rw [← HW.out]
    go_quiet (fail)
    have bd : Below w1.heap.size w1 (World.drewN w1 nq) := below_drewN (Below.refl _ _) _
    have f0 := (bd.cell (p := ⟨w.heap.size, 0, none⟩) hz1).trans e0
    have f1 := (bd.cell (p := ⟨w.heap.size, 1, none⟩) hz1).trans e1
    have f2 := (bd.cell (p := ⟨w.heap.size, 2, none⟩) hz1).trans e2
    have b1 := hb1.trans (bd.mono hb1.size)
    clear e0 e1 e2 bd hb1 hz1
    generalize World.drewN w1 nq = w2 at *
    go_wp2_with fail
    refine (netCheckOrder0 A c x y s _).mono ?_
    rintro e w3 ⟨rfl, hb3⟩
    go_wp2
    go_ret
    exact ⟨rfl, b1.trans (hb3.mono b1.size)⟩
  · have hb : ((i : Int) == 0) = false := by rw [beq_eq_false_iff_ne]; omega
    clear h0
    go_enter Tryz.func161, Tryz.ntmps161
    go_wp2_with fail
    rw [← HW.out]
    go_quiet (fail)
    have bd : Below w1.heap.size w1 (World.drewN w1 nq) := below_drewN (Below.refl _ _) _
    have f0 := (bd.cell (p := ⟨w.heap.size, 0, none⟩) hz1).trans e0
    have f1 := (bd.cell (p := ⟨w.heap.size, 1, none⟩) hz1).trans e1
    have f2 := (bd.cell (p := ⟨w.heap.size, 2, none⟩) hz1).trans e2
    have b1 := hb1.trans (bd.mono hb1.size)
    clear e0 e1 e2 bd hb1 hz1
    generalize World.drewN w1 nq = w2 at *
    go_wp2_with fail
    refine (netCheckOrder0 A c x y s _).mono ?_
    rintro e w3 ⟨rfl, hb3⟩
    go_wp2
    go_ret
    exact ⟨rfl, b1.trans (hb3.mono b1.size)⟩
set_option maxHeartbeats 1000000 in
set_option maxRecDepth 100000 in
/-- Behind a net whose last bar is p. -/
theorem netLineOrder1 (b off n c i : Nat) (p : Bar) (x y s : Int) (w : World) (hb : b < w.heap.size) (hn : n < 100000)
    (d0 : w.cell? ⟨b, off + n * 3, none⟩ = some (.int .i64 p.x)) (d1 : w.cell? ⟨b, off + n * 3 + 1, none⟩ = some (.int .i64 p.y)) (d2 : w.cell? ⟨b, off + n * 3 + 2, none⟩ = some (.int .i64 p.s)) (hi : i = 0 → p.y < y) (ho : orderE p ⟨x, y, s⟩ = 0) :
    Calls Tryz.prog 161 #[.slice (some ⟨b, off, none⟩) (n + 1) c, .int .i64 i, .agg #[.int .i64 x, .int .i64 y, .int .i64 s]] w fun e w' => e = .returned (.int .i64 0) ∧ Below w.heap.size w w' := by
  obtain ⟨w1, hw1, e0, e1, e2, hb1, hz1⟩ := box3 w (.int .i64 x) (.int .i64 y) (.int .i64 s) 24
  have HW := Lib.hid hw1
  have HO := Lib.hid ho
  have g0 := (hb1.cell (p := ⟨b, off + n * 3, none⟩) hb).trans d0
  have g1 := (hb1.cell (p := ⟨b, off + n * 3 + 1, none⟩) hb).trans d1
  have g2 := (hb1.cell (p := ⟨b, off + n * 3 + 2, none⟩) hb).trans d2
  have hb1b : b < w1.heap.size := by have := hb1.size; omega
  clear hw1 d0 d1 d2 ho
  by_cases h0 : i = 0
  · have hyy := hi h0
    have hbz : ((i : Int) == 0) = true := by rw [h0]; rfl
    have hle : ¬ y ≤ p.y := by omega
    have m1 : (0 : Int) < (n : Int) + 1 := by omega
    have m2 : (0 : Int) ≤ (n : Int) := by omega
    have m3 : (n : Int) < (n : Int) + 1 := by omega
    have m4 : IntKind.i64.wrap (n : Int) = (n : Int) := by rw [IntKind.wrap_i64]; omega
    clear h0 hi
    go_enter Tryz.func161, Tryz.ntmps161
    go_wp2_with fail
    rw [← HW.out]
    go_quiet (fail)
    have bd : Below w1.heap.size w1 (World.drewN w1 nq) := below_drewN (Below.refl _ _) _
    have f0 := (bd.cell (p := ⟨w.heap.size, 0, none⟩) hz1).trans e0
    have f1 := (bd.cell (p := ⟨w.heap.size, 1, none⟩) hz1).trans e1
    have f2 := (bd.cell (p := ⟨w.heap.size, 2, none⟩) hz1).trans e2
    have k0 := (bd.cell (p := ⟨b, off + n * 3, none⟩) hb1b).trans g0
    have k1 := (bd.cell (p := ⟨b, off + n * 3 + 1, none⟩) hb1b).trans g1
    have k2 := (bd.cell (p := ⟨b, off + n * 3 + 2, none⟩) hb1b).trans g2
    have kz : b < (World.drewN w1 nq).heap.size := Nat.lt_of_lt_of_le hb1b bd.size
    have b1 := hb1.trans (bd.mono hb1.size)
    clear e0 e1 e2 bd hb1 hz1 g0 g1 g2 hb1b
    generalize World.drewN w1 nq = w2 at *
    go_wp2_with fail
    refine (netCheckOrder1 b off n c p x y s _ kz hn k0 k1 k2).mono ?_
    rintro e w3 ⟨rfl, hb3⟩
    rw [HO.out]
    go_wp2
    go_ret
    exact ⟨rfl, b1.trans (hb3.mono b1.size)⟩
  · have hbz : ((i : Int) == 0) = false := by rw [beq_eq_false_iff_ne]; omega
    clear h0 hi
    go_enter Tryz.func161, Tryz.ntmps161
    go_wp2_with fail
    rw [← HW.out]
    go_quiet (fail)
    have bd : Below w1.heap.size w1 (World.drewN w1 nq) := below_drewN (Below.refl _ _) _
    have f0 := (bd.cell (p := ⟨w.heap.size, 0, none⟩) hz1).trans e0
    have f1 := (bd.cell (p := ⟨w.heap.size, 1, none⟩) hz1).trans e1
    have f2 := (bd.cell (p := ⟨w.heap.size, 2, none⟩) hz1).trans e2
    have k0 := (bd.cell (p := ⟨b, off + n * 3, none⟩) hb1b).trans g0
    have k1 := (bd.cell (p := ⟨b, off + n * 3 + 1, none⟩) hb1b).trans g1
    have k2 := (bd.cell (p := ⟨b, off + n * 3 + 2, none⟩) hb1b).trans g2
    have kz : b < (World.drewN w1 nq).heap.size := Nat.lt_of_lt_of_le hb1b bd.size
    have b1 := hb1.trans (bd.mono hb1.size)
    clear e0 e1 e2 bd hb1 hz1 g0 g1 g2 hb1b
    generalize World.drewN w1 nq = w2 at *
    go_wp2_with fail
    refine (netCheckOrder1 b off n c p x y s _ kz hn k0 k1 k2).mono ?_
    rintro e w3 ⟨rfl, hb3⟩
    rw [HO.out]
    go_wp2
    go_ret
    exact ⟨rfl, b1.trans (hb3.mono b1.size)⟩
end Go.Proofs.YtdeplhihcifmeaaGreatDoor

/- A net with a line more: withLine of netting. -/
namespace Go.Proofs.YtdeplhihcifmeaaGreatDoor
open Go.RowKit Go.Shelf Ck

/-- Bars in a block of their own. -/
def LineAt (g : Nat) (m : List Bar) (w : World) : Prop := g < w.heap.size ∧ ∀ i (h : i < m.length), w.cell? ⟨g, i * 3, none⟩ = some (.int .i64 m[i].x) ∧ w.cell? ⟨g, i * 3 + 1, none⟩ = some (.int .i64 m[i].y) ∧ w.cell? ⟨g, i * 3 + 2, none⟩ = some (.int .i64 m[i].s)
theorem LineAt.kept {g : Nat} {m : List Bar} {w w' : World} (h : LineAt g m w) (hz : w.heap.size ≤ w'.heap.size) (hb : w'.heap[g]? = w.heap[g]?) : LineAt g m w' :=
  ⟨by have := h.1; omega, fun i hi => ⟨(World.cell?_of_block (a := ⟨g, _, none⟩) hb).trans (h.2 i hi).1, (World.cell?_of_block (a := ⟨g, _, none⟩) hb).trans (h.2 i hi).2.1, (World.cell?_of_block (a := ⟨g, _, none⟩) hb).trans (h.2 i hi).2.2⟩⟩
theorem gb_step {w w6 w7 : World} {ob vb : Option Nat} {tmp : Obj} (h : w.grownBy w6 ob) (hg : (w6.alloc tmp).grownBy w7 vb) (hv : vb = ob ∨ ∀ g, vb = some g → w.heap.size ≤ g) : w.grownBy w7 ob :=
  ⟨hg.os.trans h.os, hg.tape.trans h.tape, hg.output.trans h.output, by have := hg.size; have := h.size; simp at *; omega, fun i hi hne => by
    have h6 : i < w6.heap.size := Nat.lt_of_lt_of_le hi h.size
    have hne' : some i ≠ vb := by
      rcases hv with rfl | hv
      · exact hne
      · intro e
        have := hv i e.symm
        omega
    exact (hg.block i (by simp; omega) hne').trans ((heap_alloc_old w6 tmp h6).trans (h.block i hi hne))⟩
def WithPost (B : Nat) (v : Value) (l : List Bar) (w : World) (e : Ending) (w' : World) : Prop := ∃ v', e = .returned (.tuple #[v', .int .i64 0]) ∧ w'.ownsRow B 24 3 v' l.length (bcellsL l) ∧ (v'.ownBlock = v.ownBlock ∨ ∀ g, v'.ownBlock = some g → w.heap.size ≤ g) ∧ w.grownBy w' v.ownBlock
theorem order_net {l m : List Bar} {k : Nat} (hN : Net (l ++ m)) (hk : k < m.length) {n : Nat} {p : Bar} (hn : (l ++ m.take k).length = n + 1) (hp : (l ++ m.take k)[n]? = some p) : orderE p m[k] = 0 := by
  have hlen : l.length + k = n + 1 := by rw [List.length_append, List.length_take] at hn; omega
  have hq : (l ++ m)[n + 1]? = some m[k] := by
    rw [List.getElem?_append_right (by omega), show n + 1 - l.length = k by omega, List.getElem?_eq_getElem hk]
  have hp' : (l ++ m)[n]? = some p := by
    by_cases h : n < l.length
    · rw [List.getElem?_append_left h] at hp ⊢
      exact hp
    · rw [List.getElem?_append_right (by omega)] at hp ⊢
      rw [List.getElem?_take] at hp
      split at hp
      · exact hp
      · cases hp
  obtain ⟨h1, e1⟩ := List.getElem?_eq_some_iff.1 hp'
  obtain ⟨h2, e2⟩ := List.getElem?_eq_some_iff.1 hq
  have hb : Blt p m[k] := by
    have := List.pairwise_iff_getElem.1 hN.2 n (n + 1) h1 h2 (by omega)
    rwa [e1, e2] at this
  rw [orderE, if_pos ((lessB_iff p m[k]).2 hb)]
theorem netLineOrderOk (A : Option Addr) (c i : Nat) (F : List Bar) (x y s : Int) (w : World) (hF : F.length ≤ 4096) (h : RB w w.heap.size A F) (hi : i = 0 → ∀ n p, F.length = n + 1 → F[n]? = some p → p.y < y) (ho : ∀ n p, F.length = n + 1 → F[n]? = some p → orderE p ⟨x, y, s⟩ = 0) :
    Calls Tryz.prog 161 #[.slice A F.length c, .int .i64 i, .agg #[.int .i64 x, .int .i64 y, .int .i64 s]] w fun e w' => e = .returned (.int .i64 0) ∧ Below w.heap.size w w' := by
  by_cases h0 : F.length = 0
  · rw [h0]
    exact netLineOrder0 A c i x y s w
  · obtain ⟨n, hn⟩ : ∃ n, F.length = n + 1 := ⟨F.length - 1, by omega⟩
    obtain ⟨b, off, rfl, hb, hc⟩ := h (by omega)
    obtain ⟨d0, d1, d2⟩ := hc n (by omega)
    have hp : F[n]? = some F[n] := List.getElem?_eq_getElem (by omega)
    rw [hn]
    exact netLineOrder1 b off n c i F[n] x y s w hb (by omega) d0 d1 d2 (fun h => hi h n _ hn hp) (ho n _ hn hp)
set_option maxHeartbeats 8000000 in
set_option maxRecDepth 100000 in
theorem netWithLine (B gl cl : Nat) (v : Value) (l m : List Bar) (w : World) (hN : Net (l ++ m)) (hlen : (l ++ m).length ≤ 4096) (hf : ∀ n p, l.length = n + 1 → l[n]? = some p → ∀ q, m[0]? = some q → p.y < q.y) (hrow : w.ownsRow B 24 3 v l.length (bcellsL l)) (hB : B ≤ w.heap.size) (hm : LineAt gl m w) (hne : v.ownBlock ≠ some gl) :
    Calls Tryz.prog 130 #[v, .slice (some ⟨gl, 0, none⟩) m.length cl] w (WithPost B v (l ++ m) w) := by
  obtain ⟨ib, hib, hb0, hb01, hb02⟩ := info_parts Tryz.info24
  have HIB := Lib.hid hib
  have HB0 := Lib.hid hb0
  have HB1 := Lib.hid hb01
  have HB2 := Lib.hid hb02
  have HN := Lib.hid hN
  have HF := Lib.hid hf
  have HM := Lib.hid hm
  have HNE := Lib.hid hne
  have HR0 := Lib.hid (show w.ownsRow B 24 3 v (l ++ m.take 0).length (bcellsL (l ++ m.take 0)) by simpa using hrow)
  have hlm : l.length + m.length ≤ 4096 := by simpa using hlen
  clear hib hb0 hb01 hb02 hN hf hm hne hrow hlen
  go_enter Tryz.func130, Tryz.ntmps130
  go_wp2_with fail
  go_loopw [0, 6, 7, 8, 11] (fun vv _ _ _ i wr => ∃ k : Nat, k ≤ m.length ∧ i = .int .i64 k ∧ Hid (wr.ownsRow B 24 3 vv (l ++ m.take k).length (bcellsL (l ++ m.take k))) ∧ Hid (vv.ownBlock = v.ownBlock ∨ ∀ g, vv.ownBlock = some g → w.heap.size ≤ g) ∧ Hid (w.grownBy wr v.ownBlock)) (fun _ _ _ _ i _ => m.length - (intOf i).toNat)
  case atStart => exact ⟨0, Nat.zero_le _, rfl, HR0, Lib.hid (.inl rfl), Lib.hid (gb_of_below (Below.refl _ _))⟩
  case round =>
    clear HR0
    obtain ⟨k, hk, rfl, HR, HV, HW⟩ := hrel
    by_cases hlt : k < m.length
    · have hwz := HW.out.size
      have HL := HM.out.kept hwz (HW.out.block gl HM.out.1 (fun e => HNE.out e.symm))
      obtain ⟨hgl, hc⟩ := HL
      obtain ⟨c0, c1, c2⟩ := hc k hlt
      obtain ⟨⟨X, Y, S⟩, hX⟩ : ∃ x, m[k] = x := ⟨_, rfl⟩
      rw [hX] at c0 c1 c2
      simp only at c0 c1 c2
      have HT := Lib.hid (show l ++ m.take (k + 1) = (l ++ m.take k) ++ [⟨X, Y, S⟩] by rw [List.take_succ_eq_append_getElem hlt, hX, List.append_assoc])
      have HBE := Lib.hid (show barE X Y S = 0 by
        have := HN.out.1 m[k] (List.mem_append_right _ (List.getElem_mem hlt))
        rw [hX] at this
        exact (barE_iff ⟨X, Y, S⟩).2 this)
      have hlk : (l ++ m.take k).length = l.length + k := by rw [List.length_append, List.length_take]; omega
      have HLK := Lib.hid hlk
      have hkl : (k : Int) < (m.length : Int) := by omega
      have hk0 : (0 : Int) ≤ (k : Int) := by omega
      obtain ⟨w2, hw2, e0, e1, e2, hb2, hz2⟩ := box3 wr (.int .i64 X) (.int .i64 Y) (.int .i64 S) 24
      have q2 : PrS wr.heap.size X Y S w2 := by rw [hw2]; exact heap_alloc_new _ _
      have HO2 := Lib.hid (ownsRow_below HR.out hb2)
      have HW2 := Lib.hid (gb_below HW.out hb2)
      have hw2z : w.heap.size ≤ w2.heap.size := HW2.out.size
      have hw2' := hw2.symm
      obtain ⟨bx, hbx⟩ : ∃ bx, wr.heap.size = bx := ⟨_, rfl⟩
      rw [hbx] at q2
      have HQ := Lib.hid q2
      clear hc hlk hw2 e0 e1 e2 hb2 hz2 q2
      have hln : (l ++ m.take k).length ≤ 4095 := by rw [HLK.out]; omega
      have HOF := Lib.hid (show ∀ n p, (l ++ m.take k).length = n + 1 → (l ++ m.take k)[n]? = some p → orderE p ⟨X, Y, S⟩ = 0 from fun n p h1 h2 => by
        have := order_net HN.out hlt h1 h2
        rwa [hX] at this)
      have HYF := Lib.hid (show k = 0 → ∀ n p, (l ++ m.take k).length = n + 1 → (l ++ m.take k)[n]? = some p → p.y < Y from fun h0 n p h1 h2 => by
        subst h0
        rw [List.take_zero, List.append_nil] at h1 h2
        have := HF.out n p h1 h2 m[0] (List.getElem?_eq_getElem hlt)
        rwa [hX] at this)
      clear hX
      generalize hFF : l ++ m.take k = F at HO2 HT HOF HYF hln
      have HFF := Lib.hid hFF
      obtain ⟨A, c, rfl, -⟩ := own_slice HO2.out
      have HRB := Lib.hid (RB.of_own HO2.out)
      clear hFF HLK
      go_wp2_with fail
      go_region_held3 (fun w' => (w'.cell? ⟨bx, 0, none⟩ = some (.int .i64 X) ∧ w'.cell? ⟨bx, 1, none⟩ = some (.int .i64 Y) ∧ w'.cell? ⟨bx, 2, none⟩ = some (.int .i64 S)) ∧ PrS bx X Y S w')
        (first
          | exact PrS.cells hq9
          | exact PrS.cells hq8
          | exact PrS.cells (PrS.below hq8 ((Below.refl _ _).alloc (Nat.le_refl _) _))
          | exact PrS.cells HQ.out
          | exact PrS.cells (PrS.below HQ.out ((Below.refl _ _).alloc (Nat.le_refl _) _)))
        (first
          | (go_at_call 22; refine (netCheckBar X Y S _).mono ?_; rintro e w9 ⟨rfl, hb9⟩; rw [HBE.out]; have hW8 := (show Below w2.heap.size w2 _ by first | exact hW8 | exact below_drew hW8 | exact Below.refl _ _ | exact below_drew (Below.refl _ _)).trans (hb9.mono (by first | exact hW8.size | exact Nat.le_refl _)); have hq8 := PrS.below (bx := bx) (X := X) (Y := Y) (S := S) (by first | exact hq8 | exact HQ.out) hb9)
          | (go_at_call 161; refine (netLineOrderOk A c k F X Y S _ (by omega) ((HRB.out.below (show Below w2.heap.size w2 _ by first | exact hW8 | exact below_drew hW8 | exact Below.refl _ _ | exact below_drew (Below.refl _ _))).more (by first | exact hW8.size | exact Nat.le_refl _)) HYF.out HOF.out).mono ?_; rintro e w9 ⟨rfl, hb9⟩; have hW8 := (show Below w2.heap.size w2 _ by first | exact hW8 | exact below_drew hW8 | exact Below.refl _ _ | exact below_drew (Below.refl _ _)).trans (hb9.mono (by first | exact hW8.size | exact Nat.le_refl _)); have hq8 := PrS.below (bx := bx) (X := X) (Y := Y) (S := S) (by first | exact hq8 | exact HQ.out) hb9)
          | (go_at_call 162; refine (netCheckRoom A F.length c _ (by omega)).mono ?_; rintro e w9 ⟨rfl, rfl⟩)
          | (go_at_call 84; refine (netFirst3 _ _ 0 0 0 32 _ (by exact heap_alloc_new _ _)).mono ?_; rintro e w9 ⟨rfl, hw9⟩; rw [show firstE [0, 0, 0] = 0 from rfl]; have hW9 : Below w2.heap.size w2 w9 := (by rw [← hw9]; first | exact hW8.alloc hW8.size _ | exact below_drew (hW8.alloc hW8.size _) | exact (below_drew hW8).alloc hW8.size _ | exact below_drew ((below_drew hW8).alloc hW8.size _)); have hq9 : PrS bx X Y S w9 := (by rw [← hw9]; exact PrS.below hq8 ((Below.refl _ _).alloc (Nat.le_refl _) _))))
      all_goals
        have HQ9 := Lib.hid hq9
        have HR9 := Lib.hid (ownsRow_below HO2.out hW9)
        have G9 := Lib.hid (gb_below HW2.out hW9)
        obtain ⟨⟨j0, j1, j2⟩, -⟩ := hq9.cells
        have z9 : w.heap.size ≤ w9.heap.size := by have := hW9.size; omega
        have hz9 := hq9.lt
        clear hW9 hq9 hw9
        go_wp2_with (at_builtin; refine wpList_append_lies _ rfl _ _ 22 rfl B 24 ib (.agg #[.int .i64 0, .int .i64 0, .int .i64 0]) 3 24 Tryz.underlying22 HIB.out HB0.out HB1.out HB2.out rfl (by decide) _ _ _ rfl (HR9.out.alloc _) ⟨w9.heap.size, 0, none⟩ 1 1 [.int .i64 X, .int .i64 Y, .int .i64 S] rfl rfl (three_new _ _ _ _ _) ?c2 (by decide) ?c3 ?c4 ?c5 _ rfl ?_)
        case c2 => intro u hu; simp at hu; rcases hu with rfl | rfl | rfl <;> rfl
        case c3 => unfold maxLen; omega
        case c4 => omega
        case c5 => simp; omega
        intro g7 cap7 w7 hown7 hgrow7 hg7 hz7
        have G7 := Lib.hid (gb_step G9.out hgrow7 HV.out)
        have HV7 := Lib.hid (show (Value.slice (some ⟨g7, 0, none⟩) (F.length + 1) cap7).ownBlock = v.ownBlock ∨ ∀ g, (Value.slice (some ⟨g7, 0, none⟩) (F.length + 1) cap7).ownBlock = some g → w.heap.size ≤ g by
          rcases hg7 with h | h
          · rw [show (Value.slice (some ⟨g7, 0, none⟩) (F.length + 1) cap7).ownBlock = (Value.slice A F.length c).ownBlock by rw [h]; rfl]
            exact HV.out
          · right
            intro g hg
            simp [Value.ownBlock] at hg
            first
              | omega
              | (simp at h; omega)
              | (rw [World.size_alloc] at h; omega))
        have HO7 := Lib.hid (show w7.ownsRow B 24 3 (.slice (some ⟨g7, 0, none⟩) (F.length + 1) cap7) (l ++ m.take (k + 1)).length (bcellsL (l ++ m.take (k + 1))) by rw [HT.out, List.length_append, bcellsL_snoc]; exact hown7)
        clear hown7 hgrow7 hg7 hz7
        go_wp2
        go_roundw
        case rel => exact ⟨k + 1, by omega, by go_num, HO7, HV7, G7⟩
        case measure => simp [intOf]; omega
    · obtain rfl : k = m.length := by omega
      rw [List.take_length] at HR
      go_wp2
      go_ret2
      exact ⟨_, rfl, HR.out, HV.out, HW.out⟩
end Go.Proofs.YtdeplhihcifmeaaGreatDoor
