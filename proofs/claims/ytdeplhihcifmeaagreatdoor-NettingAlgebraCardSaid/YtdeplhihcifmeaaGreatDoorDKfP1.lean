/- Helpers: DKfP1. -/
import Derived.Test.YtdeplhihcifmeaaGreatDoorD7
import Derived.Deep.RegionHeld3
import Derived.ProofKit
import Derived.Deep.Slices
import Derived.Deep.Fields
/- What the laws of netting's lists begin with: short lists, copies, the checks at every length. -/
namespace Go.Proofs.YtdeplhihcifmeaaGreatDoor
open Go.RowKit Ck

set_option maxHeartbeats 2000000 in
set_option maxRecDepth 100000 in
theorem lwCopied1 (A : Option Addr) (c : Nat) (l : List Ck.Bar) (w : World) (hl : l.length ≤ 4098) (hne : 0 < l.length) (h : RB w w.heap.size A l) :
    Calls Tryz.prog 21 #[.slice A l.length c] w (CopyPost l w) := by
  obtain ⟨ib, hib, hb0, hb01, hb02⟩ := info_parts Tryz.info24
  obtain ⟨b, off, rfl, hB, _⟩ := h hne
  have HR := Lib.hid h
  clear h
  go_enter Tryz.func21, Tryz.ntmps21
  go_wp2_with (at_builtin; refine wpList_append_own _ rfl _ _ 22 rfl w.heap.size 24 ib (.agg #[.int .i64 0, .int .i64 0, .int .i64 0]) 3 24 Tryz.underlying22 hib hb0 hb01 hb02 rfl (by decide) _ _ _ rfl (by exact empty_row _ _ (Nat.le_refl _) _ _) ⟨b, off, none⟩ l.length c (bcellsL l) rfl (bcellsL_length l) ?c1 (bcellsL_one l) ?c3 ?c4 ?c5 ?_)
  case c1 => exact (HR.out.below ((Below.refl _ _).alloc (Nat.le_refl _) _)).news hne
  case c3 => unfold maxLen; omega
  case c4 => omega
  case c5 => simp
  intro v' w4 hown4 hgrow4 _
  have HO := Lib.hid hown4
  have hq := ((Below.refl w.heap.size w).alloc (Nat.le_refl _) (.cells #[] 24)).grown hgrow4 (by simp) (ownsRow_base (empty_row w w.heap.size (Nat.le_refl _) 24 3))
  clear hown4 hgrow4
  go_wp2
  go_ret
  exact ⟨_, rfl, by simpa using HO.out, hq⟩
set_option maxHeartbeats 2000000 in
set_option maxRecDepth 100000 in
theorem lwCopied0 (A : Option Addr) (c : Nat) (w : World) (hA : A = none → c = 0) :
    Calls Tryz.prog 21 #[.slice A 0 c] w (CopyPost [] w) := by
  obtain ⟨ib, hib, hb0, hb01, hb02⟩ := info_parts Tryz.info24
  rcases A with _ | ad
  · obtain rfl := hA rfl
    go_enter Tryz.func21, Tryz.ntmps21
    go_wp2_with (at_builtin; refine wpList_append_own_none rfl _ _ 22 rfl w.heap.size 24 ib 3 Tryz.underlying22 hib _ _ _ rfl (by exact empty_row _ _ (Nat.le_refl _) _ _) rfl ?_)
    go_ret
    exact ⟨_, rfl, empty_row _ _ (Nat.le_refl _) _ _, (Below.refl _ _).alloc (Nat.le_refl _) _⟩
  · clear hA
    go_enter Tryz.func21, Tryz.ntmps21
    go_wp2_with (at_builtin; refine wpList_append_own _ rfl _ _ 22 rfl w.heap.size 24 ib (.agg #[.int .i64 0, .int .i64 0, .int .i64 0]) 3 24 Tryz.underlying22 hib hb0 hb01 hb02 rfl (by decide) _ _ _ rfl (by exact empty_row _ _ (Nat.le_refl _) _ _) ad 0 c [] rfl rfl ?c1 ?c2 ?c3 ?c4 ?c5 ?_)
    case c1 => intro j u h; simp at h
    case c2 => intro u h; simp at h
    case c3 => unfold maxLen; omega
    case c4 => omega
    case c5 => simp
    intro v' w4 hown4 hgrow4 _
    have HO := Lib.hid hown4
    have hq := ((Below.refl w.heap.size w).alloc (Nat.le_refl _) (.cells #[] 24)).grown hgrow4 (by simp) (ownsRow_base (empty_row w w.heap.size (Nat.le_refl _) 24 3))
    clear hown4 hgrow4
    go_wp2
    go_ret
    exact ⟨v', rfl, HO.out, hq⟩
/-- copied: a slice with the same bars that is the call's own. -/
theorem lwCopied (A : Option Addr) (c : Nat) (l : List Ck.Bar) (w : World) (hl : l.length ≤ 4098) (h : OKS w A c l) :
    Calls Tryz.prog 21 #[.slice A l.length c] w (SlicePost l w) := by
  have key : Calls Tryz.prog 21 #[.slice A l.length c] w (CopyPost l w) := by
    match l, hl, h with
    | [], _, h => exact lwCopied0 A c w h.2.2.1
    | a :: r, hl, h => exact lwCopied1 A c (a :: r) w hl (by simp) h.2.2.2
  refine key.mono ?_
  rintro e w1 ⟨v, rfl, hown, hb⟩
  obtain ⟨a, c', rfl, ho⟩ := own_oks hown
  exact ⟨a, c', rfl, ho, hb⟩
theorem netE_long {l : List Ck.Bar} (h : 4096 < l.length) : netE l = 5 := by rw [netE, if_pos h]
set_option maxHeartbeats 400000 in
theorem netCheckNetL (A : Option Addr) (c n : Nat) (w : World) (hm : n ≤ maxLen) (h : 4096 < n) :
    Calls Tryz.prog 20 #[.slice A n c] w fun e w' => e = .returned (.int .i64 5) ∧ w = w' := by
  unfold maxLen at hm
  have h1 : (4096 : Int) < (n : Int) := by omega
  go_enter Tryz.func20, Tryz.ntmps20
  go_wp2
  go_ret
  exact ⟨rfl, rfl⟩
set_option maxHeartbeats 400000 in
theorem refCheckNetL (A : Option Addr) (c n : Nat) (w : World) (hm : n ≤ maxLen) (h : 4096 < n) :
    Calls Tryz.prog 17 #[.slice A n c] w fun e w' => e = .returned (.int .i64 5) ∧ w = w' := by
  unfold maxLen at hm
  have h1 : (4096 : Int) < (n : Int) := by omega
  go_enter Tryz.func17, Tryz.ntmps17
  go_wp2
  go_ret
  exact ⟨rfl, rfl⟩
theorem netCheckNetA (A : Option Addr) (c : Nat) (l : List Ck.Bar) (w : World) (h : OKS w A c l) :
    Calls Tryz.prog 20 #[.slice A l.length c] w fun e w' => e = .returned (.int .i64 (netE l)) ∧ Below w.heap.size w w' := by
  by_cases hl : l.length ≤ 4096
  · exact netCheckNet A c l w hl h.1 h.2.1 h.2.2.2
  · rw [netE_long (by omega)]
    exact (netCheckNetL A c l.length w (Nat.le_trans h.1 h.2.1) (by omega)).mono fun e w' ⟨h1, h2⟩ => ⟨h1, h2 ▸ Below.refl _ _⟩
theorem refCheckNetA (A : Option Addr) (c : Nat) (l : List Ck.Bar) (w : World) (h : OKS w A c l) :
    Calls Tryz.prog 17 #[.slice A l.length c] w fun e w' => e = .returned (.int .i64 (netE l)) ∧ Below w.heap.size w w' := by
  by_cases hl : l.length ≤ 4096
  · exact refCheckNet A c l w hl h.2.2.2
  · rw [netE_long (by omega)]
    exact (refCheckNetL A c l.length w (Nat.le_trans h.1 h.2.1) (by omega)).mono fun e w' ⟨h1, h2⟩ => ⟨h1, h2 ▸ Below.refl _ _⟩
end Go.Proofs.YtdeplhihcifmeaaGreatDoor

/- The law of NettingBars at each of its ways. -/
namespace Go.Proofs.YtdeplhihcifmeaaGreatDoor
open Go.RowKit Go.Shelf Ck

theorem hbT {a w w' : World} (h : Below a.heap.size a w) (hb : Below w.heap.size w w') : Below a.heap.size a w' := h.trans (hb.mono h.size)
end Go.Proofs.YtdeplhihcifmeaaGreatDoor

/- The contract of merge where what both lists have is kept. -/
namespace Go.Proofs.YtdeplhihcifmeaaGreatDoor
open Go.RowKit

def mergeI : List Ck.Bar → List Ck.Bar → List Ck.Bar
  | [], _ => []
  | _ :: _, [] => []
  | a :: r, b :: r' => if cmpB a b < 0 then mergeI r (b :: r') else if 0 < cmpB a b then mergeI (a :: r) r' else a :: mergeI r r'
termination_by l l' => l.length + l'.length
theorem mergeI_nil (l : List Ck.Bar) : mergeI l [] = [] := by cases l <;> simp [mergeI]
theorem headsI_neg {ra rb : List Ck.Bar} (h : headsE ra rb < 0) : ∃ a r, ra = a :: r ∧ mergeI ra rb = mergeI r rb := by
  match ra, rb, h with
  | [], _, h => simp [headsE] at h
  | a :: r, [], _ => exact ⟨a, r, rfl, by rw [mergeI_nil, mergeI_nil]⟩
  | a :: r, b :: r', h =>
    have h' : cmpB a b < 0 := h
    exact ⟨a, r, rfl, by rw [mergeI, if_pos h']⟩
theorem headsI_pos {ra rb : List Ck.Bar} (h : 0 < headsE ra rb) (hne : 0 < ra.length + rb.length) : ∃ b r', rb = b :: r' ∧ mergeI ra rb = mergeI ra r' := by
  match ra, rb, h with
  | [], [], _ => simp at hne
  | [], b :: r', _ => exact ⟨b, r', rfl, by simp [mergeI]⟩
  | a :: r, [], h => simp [headsE] at h
  | a :: r, b :: r', h =>
    have h' : 0 < cmpB a b := h
    exact ⟨b, r', rfl, by rw [mergeI, if_neg (by omega), if_pos h']⟩
theorem headsI_zero {ra rb : List Ck.Bar} (h : headsE ra rb = 0) : ∃ a r r', ra = a :: r ∧ rb = a :: r' ∧ mergeI ra rb = a :: mergeI r r' := by
  match ra, rb, h with
  | [], _, h => simp [headsE] at h
  | a :: r, [], h => simp [headsE] at h
  | a :: r, b :: r', h =>
    have h' : cmpB a b = 0 := h
    have e := (cmpB_zero _ _).1 h'
    subst e
    exact ⟨a, r, r', rfl, rfl, by rw [mergeI, if_neg (by omega), if_neg (by omega)]⟩

set_option maxHeartbeats 400000 in
theorem keepMeet (x y : Bool) (w : World) : Calls Tryz.prog 110 #[.bool x, .bool y] w fun e w' => e = .returned (.bool (x && y)) ∧ w = w' := by
  cases x
  all_goals
    go_enter Tryz.func110, Tryz.ntmps110
    go_wp2
    go_ret
    exact ⟨rfl, rfl⟩
theorem keepI10 (w : World) : Calls Tryz.prog 110 #[.bool true, .bool false] w fun e w' => e = .returned (.bool false) ∧ w = w' := keepMeet true false w
theorem keepI11 (w : World) : Calls Tryz.prog 110 #[.bool true, .bool true] w fun e w' => e = .returned (.bool true) ∧ w = w' := keepMeet true true w
theorem keepI01 (w : World) : Calls Tryz.prog 110 #[.bool false, .bool true] w fun e w' => e = .returned (.bool false) ∧ w = w' := keepMeet false true w

def MrgIPost (l l' : List Ck.Bar) (w : World) (e : Ending) (w' : World) : Prop :=
  ∃ v, e = .returned v ∧ w'.ownsRow w.heap.size 24 3 v (mergeI l l').length (bcellsL (mergeI l l')) ∧ Below w.heap.size w w'
def mrgIRel (l0 l0' : List Ck.Bar) (w : World) (g : Nat) (va vb vo : Value) (wi : World) : Prop :=
  ∃ A A' c c' ra rb out, g = ra.length + rb.length ∧ va = .slice A ra.length c ∧ vb = .slice A' rb.length c' ∧ ra.length ≤ c ∧ c ≤ 9223372036854775807 ∧ rb.length ≤ c' ∧ c' ≤ 9223372036854775807 ∧ RB wi w.heap.size A ra ∧ RB wi w.heap.size A' rb ∧
    mergeI l0 l0' = out ++ mergeI ra rb ∧ out.length + ra.length + rb.length ≤ l0.length + l0'.length ∧ wi.ownsRow w.heap.size 24 3 vo out.length (bcellsL out) ∧ Below w.heap.size w wi

set_option maxHeartbeats 4000000 in
set_option maxRecDepth 100000 in
theorem netMergeI (A A' : Option Addr) (c c' : Nat) (l l' : List Ck.Bar) (w : World) (hl : l.length ≤ 4096) (hl' : l'.length ≤ 4096) (hc : l.length ≤ c) (hcm : c ≤ maxLen) (hc' : l'.length ≤ c') (hcm' : c' ≤ maxLen) (h : RB w w.heap.size A l) (h' : RB w w.heap.size A' l') :
    Calls Tryz.prog 144 #[.slice A l.length c, .slice A' l'.length c', .func (.func 131) #[] #[], .func (.func 110) #[] #[]] w (MrgIPost l l' w) := by
  obtain ⟨ib, hib, hb0, hb01, hb02⟩ := info_parts Tryz.info24
  have HIB := Lib.hid hib
  have HB0 := Lib.hid hb0
  have HB1 := Lib.hid hb01
  have HB2 := Lib.hid hb02
  have HR := Lib.hid h
  have HR' := Lib.hid h'
  clear hib hb0 hb01 hb02 h h'
  unfold maxLen at hcm hcm'
  go_enter Tryz.func144, Tryz.ntmps144
  go_wp2_with fail
  go_loopg [0, 1, 9, 10, 11] (l.length + l'.length) (fun g va vb vo _ _ wi => mrgIRel l l' w g va vb vo wi)
  case atStart => exact ⟨A, A', c, c', l, l', [], rfl, rfl, rfl, hc, hcm, hc', hcm', HR.out, HR'.out, rfl, by simp, World.ownsRow_nil _ _ _ _, Below.refl _ _⟩
  case round =>
    obtain ⟨A1, A2, c1, c2, ra, rb, out, hg, rfl, rfl, k1, k2, k3, k4, r1, r2, hm, hlen, hown, hb⟩ := hrel
    have HG := Lib.hid hg
    have HM := Lib.hid hm
    have HO := Lib.hid hown
    have HA := Lib.hid r1
    have HB := Lib.hid r2
    have hbz := hb.size
    clear hg hm hown r1 r2
    by_cases hne : 0 < ra.length + rb.length
    · rcases Int.lt_trichotomy (headsE ra rb) 0 with ho | ho | ho
      · obtain ⟨a, r, rfl, hmu⟩ := headsI_neg ho
        have HMU := Lib.hid hmu
        have ho1 : (headsE (a :: r) rb ≤ 0) := by omega
        have ho2 : ¬ (0 ≤ headsE (a :: r) rb) := by omega
        have HRA := HA.out.head
        clear hmu
        obtain ⟨b, off, rfl, hbb, d0, d1, d2, ht⟩ := HRA
        have HT := Lib.hid ht
        clear ht
        generalize hoe : headsE (a :: r) rb = o at ho ho1 ho2
        have hd1 : decide (0 ≤ o) = false := decide_eq_false (by omega)
        have HOE := Lib.hid hoe
        clear hoe
        go_wp2_with fail
        refine (netHeads (some ⟨b, off, none⟩) A2 c1 c2 (a :: r) rb _ (by simp at hlen ⊢; omega) (by simp at hlen; omega) (HA.out.more hbz) (HB.out.more hbz)).mono ?_
        rintro e w2 ⟨rfl, hb2⟩
        rw [HOE.out]
        have hz2 := hb2.size
        have e0 := (hb2.cell (p := ⟨b, off, none⟩) (by show b < _; omega)).trans d0
        have e1 := (hb2.cell (p := ⟨b, off + 1, none⟩) (by show b < _; omega)).trans d1
        have e2 := (hb2.cell (p := ⟨b, off + 2, none⟩) (by show b < _; omega)).trans d2
        clear d0 d1 d2
        obtain ⟨w3, hw3⟩ : ∃ w3, w3 = w2.alloc (.cells #[.int .i64 0, .int .i64 0, .int .i64 0] 24) := ⟨_, rfl⟩
        have hx : w3.heap[w2.heap.size]? = some (.cells #[.int .i64 0, .int .i64 0, .int .i64 0] 24 (0, 0)) := by rw [hw3]; exact heap_alloc_new _ _
        have hb3 : Below w2.heap.size w2 w3 := by rw [hw3]; exact (Below.refl _ _).alloc (Nat.le_refl _) _
        have hz3 : w2.heap.size < w3.heap.size := by rw [hw3]; simp
        obtain ⟨W, hW, hxW, hbW, hzW⟩ := put3 hx (.int .i64 a.x) (.int .i64 a.y) (.int .i64 a.s)
        obtain ⟨f0, f1, f2, ff⟩ := three_of_block hx
        obtain ⟨g0, g1, g2, _⟩ := three_of_block hxW
        have HW3 := Lib.hid hw3
        have HWW := Lib.hid hW
        have HZW := Lib.hid hzW
        clear hzW
        replace e0 := (hb3.cell (p := ⟨b, off, none⟩) (by show b < _; omega)).trans e0
        replace e1 := (hb3.cell (p := ⟨b, off + 1, none⟩) (by show b < _; omega)).trans e1
        replace e2 := (hb3.cell (p := ⟨b, off + 2, none⟩) (by show b < _; omega)).trans e2
        have hq : Below wr.heap.size wr W := (hb2.trans (hb3.mono hz2)).trans (hbW.mono hz2)
        have HOW := Lib.hid (ownsRow_below HO.out hq)
        have hbw := hb.trans (hq.mono hbz)
        have HTW := Lib.hid ((HT.out.below (hq.mono hbz)))
        have HBW := Lib.hid ((HB.out.below (hq.mono hbz)))
        have hi1 : (0 : Int) < (r.length : Int) + 1 := by omega
        have hi2 : (1 : Int) ≤ (r.length : Int) + 1 := by omega
        have hi3 : (r.length : Int) + 1 ≤ (c1 : Int) := by simp at k1; omega
        clear hw3 hW hx hxW
        go_wp2_with fail
        rw [← HW3.out]
        go_region
        rw [← HWW.out]
        generalize hA1 : (if c1 = 1 then some (⟨b, off, none⟩ : Addr) else some ⟨b, off + 3, none⟩) = A1
        have HRA1 := Lib.hid (HTW.out.cut1 (c := c1) (by simp at k1; omega) A1 (fun hne => by rw [← hA1, if_neg hne]))
        clear hA1 e0 e1 e2
        go_wp2_with (go_at_call 110; refine (keepI10 _).mono ?_; rintro e w' ⟨rfl, rfl⟩)
        go_roundg (r.length + rb.length)
        case measure => rw [HG.out]; simp only [List.length_cons]; omega
        case rel => exact ⟨A1, A2, c1 - 1, c2, r, rb, out, rfl, rfl, rfl, by simp at k1; omega, by omega, k3, k4, HRA1.out, HBW.out, by rw [HM.out, HMU.out], by simp at hlen ⊢; omega, HOW.out, by first | exact hbw | exact below_drew hbw | exact below_drew (below_drew hbw)⟩
      · obtain ⟨a, r, r', rfl, rfl, hmu⟩ := headsI_zero ho
        have HMU := Lib.hid hmu
        have ho1 : (headsE (a :: r) (a :: r') ≤ 0) := by omega
        have ho2 : (0 ≤ headsE (a :: r) (a :: r')) := by omega
        have HRA := HA.out.head
        have HRB := HB.out.head
        clear hmu
        obtain ⟨b, off, rfl, hbb, d0, d1, d2, ht⟩ := HRA
        have HT := Lib.hid ht
        clear ht
        obtain ⟨b', off', rfl, hbb', d0', d1', d2', ht'⟩ := HRB
        have HT' := Lib.hid ht'
        clear ht'
        generalize hoe : headsE (a :: r) (a :: r') = o at ho ho1 ho2
        have HOE := Lib.hid hoe
        clear hoe
        go_wp2_with fail
        refine (netHeads (some ⟨b, off, none⟩) (some ⟨b', off', none⟩) c1 c2 (a :: r) (a :: r') _ (by simp at hlen ⊢; omega) (by simp at hlen ⊢; omega) (HA.out.more hbz) (HB.out.more hbz)).mono ?_
        rintro e w2 ⟨rfl, hb2⟩
        rw [HOE.out]
        have hz2 := hb2.size
        have e0 := (hb2.cell (p := ⟨b, off, none⟩) (by show b < _; omega)).trans d0
        have e0' := (hb2.cell (p := ⟨b', off', none⟩) (by show b' < _; omega)).trans d0'
        have e1 := (hb2.cell (p := ⟨b, off + 1, none⟩) (by show b < _; omega)).trans d1
        have e1' := (hb2.cell (p := ⟨b', off' + 1, none⟩) (by show b' < _; omega)).trans d1'
        have e2 := (hb2.cell (p := ⟨b, off + 2, none⟩) (by show b < _; omega)).trans d2
        have e2' := (hb2.cell (p := ⟨b', off' + 2, none⟩) (by show b' < _; omega)).trans d2'
        clear d0 d1 d2 d0' d1' d2'
        obtain ⟨w3, hw3⟩ : ∃ w3, w3 = w2.alloc (.cells #[.int .i64 0, .int .i64 0, .int .i64 0] 24) := ⟨_, rfl⟩
        have hx : w3.heap[w2.heap.size]? = some (.cells #[.int .i64 0, .int .i64 0, .int .i64 0] 24 (0, 0)) := by rw [hw3]; exact heap_alloc_new _ _
        have hb3 : Below w2.heap.size w2 w3 := by rw [hw3]; exact (Below.refl _ _).alloc (Nat.le_refl _) _
        have hz3 : w2.heap.size < w3.heap.size := by rw [hw3]; simp
        obtain ⟨W, hW, hxW, hbW, hzW⟩ := put3 hx (.int .i64 a.x) (.int .i64 a.y) (.int .i64 a.s)
        obtain ⟨f0, f1, f2, ff⟩ := three_of_block hx
        obtain ⟨g0, g1, g2, gf⟩ := three_of_block hxW
        obtain ⟨V, hV, hxV, hbV, hzV⟩ := put3 hxW (.int .i64 a.x) (.int .i64 a.y) (.int .i64 a.s)
        obtain ⟨q0, q1, q2, _⟩ := three_of_block hxV
        have HVV := Lib.hid hV
        clear hV hzV
        have HW3 := Lib.hid hw3
        have HWW := Lib.hid hW
        have HZW := Lib.hid hzW
        clear hzW
        replace e0 := (hb3.cell (p := ⟨b, off, none⟩) (by show b < _; omega)).trans e0
        replace e0' := (hbW.cell (p := ⟨b', off', none⟩) (by show b' < _; omega)).trans ((hb3.cell (p := ⟨b', off', none⟩) (by show b' < _; omega)).trans e0')
        replace e1 := (hb3.cell (p := ⟨b, off + 1, none⟩) (by show b < _; omega)).trans e1
        replace e1' := (hbW.cell (p := ⟨b', off' + 1, none⟩) (by show b' < _; omega)).trans ((hb3.cell (p := ⟨b', off' + 1, none⟩) (by show b' < _; omega)).trans e1')
        replace e2 := (hb3.cell (p := ⟨b, off + 2, none⟩) (by show b < _; omega)).trans e2
        replace e2' := (hbW.cell (p := ⟨b', off' + 2, none⟩) (by show b' < _; omega)).trans ((hb3.cell (p := ⟨b', off' + 2, none⟩) (by show b' < _; omega)).trans e2')
        have hq : Below wr.heap.size wr W := (hb2.trans (hb3.mono hz2)).trans (hbW.mono hz2)
        have hqv : Below wr.heap.size wr V := hq.trans (hbV.mono hz2)
        have HOW := Lib.hid (ownsRow_below HO.out hqv)
        have hbw := hb.trans (hqv.mono hbz)
        have HTW := Lib.hid ((HT.out.below (hqv.mono hbz)))
        have HBW := Lib.hid ((HT'.out.below (hqv.mono hbz)))
        have hi4 : (0 : Int) < (r'.length : Int) + 1 := by omega
        have hi5 : (1 : Int) ≤ (r'.length : Int) + 1 := by omega
        have hi6 : (r'.length : Int) + 1 ≤ (c2 : Int) := by simp at k3; omega
        have hi1 : (0 : Int) < (r.length : Int) + 1 := by omega
        have hi2 : (1 : Int) ≤ (r.length : Int) + 1 := by omega
        have hi3 : (r.length : Int) + 1 ≤ (c1 : Int) := by simp at k1; omega
        clear hw3 hW hx hxW
        go_wp2_with fail
        rw [← HW3.out]
        go_region
        rw [← HWW.out]
        generalize hA1 : (if c1 = 1 then some (⟨b, off, none⟩ : Addr) else some ⟨b, off + 3, none⟩) = A1
        have HRA1 := Lib.hid (HTW.out.cut1 (c := c1) (by simp at k1; omega) A1 (fun hne => by rw [← hA1, if_neg hne]))
        clear hA1 e0 e1 e2
        go_wp2_with fail
        go_region
        rw [← HVV.out]
        generalize hA3 : (if c2 = 1 then some (⟨b', off', none⟩ : Addr) else some ⟨b', off' + 3, none⟩) = A3
        have HRA3 := Lib.hid (HBW.out.cut1 (c := c2) (by simp at k3; omega) A3 (fun hne => by rw [← hA3, if_neg hne]))
        clear hA3 e0' e1' e2'
        go_wp2_with (first
          | (go_at_call 110; refine (keepI11 _).mono ?_; rintro e w' ⟨rfl, rfl⟩)
          | (at_builtin; refine wpList_append_own _ rfl _ _ 22 rfl w.heap.size 24 ib (.agg #[.int .i64 0, .int .i64 0, .int .i64 0]) 3 24 Tryz.underlying22 HIB.out HB0.out HB1.out HB2.out rfl (by decide) _ _ _ rfl (by exact HOW.out.alloc _) ⟨V.heap.size, 0, none⟩ 1 1 [.int .i64 a.x, .int .i64 a.y, .int .i64 a.s] rfl rfl ?c1 ?c2 ?c3 ?c4 ?c5 ?_))
        case c1 => exact three_new _ _ _ _ _
        case c2 => intro u hu; simp at hu; rcases hu with rfl | rfl | rfl <;> rfl
        case c3 => unfold maxLen; simp at hlen; omega
        case c4 => simp at hlen; omega
        case c5 => have := hbw.size; simp; omega
        intro v' w4 hown4 hgrow4 _
        have hq4 : Below w.heap.size w w4 := (below_drew (below_drew (hbw.alloc hbw.size (.cells #[.int .i64 a.x, .int .i64 a.y, .int .i64 a.s] 24)))).grown hgrow4 (by have := hbw.size; simp; omega) (ownsRow_base HOW.out)
        have hsame : ∀ {X : Option Addr} {q : List Ck.Bar}, RB V w.heap.size X q → RB w4 w.heap.size X q := fun hX => by
          intro hl
          obtain ⟨b9, off9, e', hb', hc'⟩ := hX hl
          have hk : ∀ o, w4.cell? ⟨b9, o, none⟩ = V.cell? ⟨b9, o, none⟩ := fun o => (hq4.cell (p := ⟨b9, o, none⟩) hb').trans (hbw.cell (p := ⟨b9, o, none⟩) hb').symm
          exact ⟨b9, off9, e', hb', fun i hi => ⟨(hk _).trans (hc' i hi).1, (hk _).trans (hc' i hi).2.1, (hk _).trans (hc' i hi).2.2⟩⟩
        have HRA4 := Lib.hid (hsame HRA1.out)
        have HRB4 := Lib.hid (hsame HRA3.out)
        have HO4 := Lib.hid hown4
        clear hown4 hgrow4 hsame
        go_wp2
        go_roundg (r.length + r'.length)
        case measure => rw [HG.out]; simp only [List.length_cons]; omega
        case rel => exact ⟨A1, A3, c1 - 1, c2 - 1, r, r', out ++ [a], rfl, rfl, rfl, by simp at k1; omega, by omega, by simp at k3; omega, by omega, HRA4.out, HRB4.out, by rw [HM.out, HMU.out]; simp, by simp at hlen ⊢; omega, by rw [bcellsL_snoc, List.length_append]; exact HO4.out, hq4⟩
      · obtain ⟨a, r, rfl, hmu⟩ := headsI_pos ho hne
        rcases ra with _ | ⟨x, rx⟩
        · skip
          have HMU := Lib.hid hmu
          have ho1 : ¬ (headsE ([] : List Ck.Bar) (a :: r) ≤ 0) := by omega
          have ho2 : (0 ≤ headsE ([] : List Ck.Bar) (a :: r)) := by omega
          have HRA := HB.out.head
          clear hmu
          obtain ⟨b, off, rfl, hbb, d0, d1, d2, ht⟩ := HRA
          have HT := Lib.hid ht
          clear ht
          generalize hoe : headsE ([] : List Ck.Bar) (a :: r) = o at ho ho1 ho2
          have hd1 : decide (o ≤ 0) = false := decide_eq_false (by omega)
          have HOE := Lib.hid hoe
          clear hoe
          go_wp2_with fail
          refine (netHeads A1 (some ⟨b, off, none⟩) c1 c2 ([] : List Ck.Bar) (a :: r) _ (by simp only [List.length_cons, List.length_nil] at hlen ⊢; omega) (by simp only [List.length_cons, List.length_nil] at hlen ⊢; omega) (HA.out.more hbz) (HB.out.more hbz)).mono ?_
          rintro e w2 ⟨rfl, hb2⟩
          rw [HOE.out]
          have hz2 := hb2.size
          have e0 := (hb2.cell (p := ⟨b, off, none⟩) (by show b < _; omega)).trans d0
          have e1 := (hb2.cell (p := ⟨b, off + 1, none⟩) (by show b < _; omega)).trans d1
          have e2 := (hb2.cell (p := ⟨b, off + 2, none⟩) (by show b < _; omega)).trans d2
          clear d0 d1 d2
          obtain ⟨w3, hw3⟩ : ∃ w3, w3 = w2.alloc (.cells #[.int .i64 0, .int .i64 0, .int .i64 0] 24) := ⟨_, rfl⟩
          have hx : w3.heap[w2.heap.size]? = some (.cells #[.int .i64 0, .int .i64 0, .int .i64 0] 24 (0, 0)) := by rw [hw3]; exact heap_alloc_new _ _
          have hb3 : Below w2.heap.size w2 w3 := by rw [hw3]; exact (Below.refl _ _).alloc (Nat.le_refl _) _
          have hz3 : w2.heap.size < w3.heap.size := by rw [hw3]; simp
          obtain ⟨W, hW, hxW, hbW, hzW⟩ := put3 hx (.int .i64 a.x) (.int .i64 a.y) (.int .i64 a.s)
          obtain ⟨f0, f1, f2, ff⟩ := three_of_block hx
          obtain ⟨g0, g1, g2, _⟩ := three_of_block hxW
          have HW3 := Lib.hid hw3
          have HWW := Lib.hid hW
          have HZW := Lib.hid hzW
          clear hzW
          replace e0 := (hb3.cell (p := ⟨b, off, none⟩) (by show b < _; omega)).trans e0
          replace e1 := (hb3.cell (p := ⟨b, off + 1, none⟩) (by show b < _; omega)).trans e1
          replace e2 := (hb3.cell (p := ⟨b, off + 2, none⟩) (by show b < _; omega)).trans e2
          have hq : Below wr.heap.size wr W := (hb2.trans (hb3.mono hz2)).trans (hbW.mono hz2)
          have HOW := Lib.hid (ownsRow_below HO.out hq)
          have hbw := hb.trans (hq.mono hbz)
          have HTW := Lib.hid ((HT.out.below (hq.mono hbz)))
          have HBW := Lib.hid ((HA.out.below (hq.mono hbz)))
          have hi1 : (0 : Int) < (r.length : Int) + 1 := by omega
          have hi2 : (1 : Int) ≤ (r.length : Int) + 1 := by omega
          have hi3 : (r.length : Int) + 1 ≤ (c2 : Int) := by simp at k3; omega
          clear hw3 hW hx hxW
          go_wp2_with fail
          rw [← HW3.out]
          go_region
          rw [← HWW.out]
          generalize hA1 : (if c2 = 1 then some (⟨b, off, none⟩ : Addr) else some ⟨b, off + 3, none⟩) = A3
          have HRA1 := Lib.hid (HTW.out.cut1 (c := c2) (by simp at k3; omega) A3 (fun hne => by rw [← hA1, if_neg hne]))
          clear hA1 e0 e1 e2
          go_wp2_with (go_at_call 110; refine (keepI01 _).mono ?_; rintro e w' ⟨rfl, rfl⟩)
          go_roundg (([] : List Ck.Bar).length + r.length)
          case measure => rw [HG.out]; simp only [List.length_cons, List.length_nil]; omega
          case rel => exact ⟨A1, A3, c1, c2 - 1, ([] : List Ck.Bar), r, out, rfl, rfl, rfl, k1, k2, by simp at k3; omega, by omega, HBW.out, HRA1.out, by rw [HM.out, HMU.out], by simp at hlen ⊢; omega, HOW.out, by first | exact hbw | exact below_drew hbw | exact below_drew (below_drew hbw)⟩
        · skip
          have HMU := Lib.hid hmu
          have ho1 : ¬ (headsE (x :: rx) (a :: r) ≤ 0) := by omega
          have ho2 : (0 ≤ headsE (x :: rx) (a :: r)) := by omega
          have HRA := HB.out.head
          clear hmu
          obtain ⟨b, off, rfl, hbb, d0, d1, d2, ht⟩ := HRA
          have HT := Lib.hid ht
          clear ht
          generalize hoe : headsE (x :: rx) (a :: r) = o at ho ho1 ho2
          have hd1 : decide (o ≤ 0) = false := decide_eq_false (by omega)
          have HOE := Lib.hid hoe
          clear hoe
          go_wp2_with fail
          refine (netHeads A1 (some ⟨b, off, none⟩) c1 c2 (x :: rx) (a :: r) _ (by simp only [List.length_cons] at hlen ⊢; omega) (by simp only [List.length_cons] at hlen ⊢; omega) (HA.out.more hbz) (HB.out.more hbz)).mono ?_
          rintro e w2 ⟨rfl, hb2⟩
          rw [HOE.out]
          have hz2 := hb2.size
          have e0 := (hb2.cell (p := ⟨b, off, none⟩) (by show b < _; omega)).trans d0
          have e1 := (hb2.cell (p := ⟨b, off + 1, none⟩) (by show b < _; omega)).trans d1
          have e2 := (hb2.cell (p := ⟨b, off + 2, none⟩) (by show b < _; omega)).trans d2
          clear d0 d1 d2
          obtain ⟨w3, hw3⟩ : ∃ w3, w3 = w2.alloc (.cells #[.int .i64 0, .int .i64 0, .int .i64 0] 24) := ⟨_, rfl⟩
          have hx : w3.heap[w2.heap.size]? = some (.cells #[.int .i64 0, .int .i64 0, .int .i64 0] 24 (0, 0)) := by rw [hw3]; exact heap_alloc_new _ _
          have hb3 : Below w2.heap.size w2 w3 := by rw [hw3]; exact (Below.refl _ _).alloc (Nat.le_refl _) _
          have hz3 : w2.heap.size < w3.heap.size := by rw [hw3]; simp
          obtain ⟨W, hW, hxW, hbW, hzW⟩ := put3 hx (.int .i64 a.x) (.int .i64 a.y) (.int .i64 a.s)
          obtain ⟨f0, f1, f2, ff⟩ := three_of_block hx
          obtain ⟨g0, g1, g2, _⟩ := three_of_block hxW
          have HW3 := Lib.hid hw3
          have HWW := Lib.hid hW
          have HZW := Lib.hid hzW
          clear hzW
          replace e0 := (hb3.cell (p := ⟨b, off, none⟩) (by show b < _; omega)).trans e0
          replace e1 := (hb3.cell (p := ⟨b, off + 1, none⟩) (by show b < _; omega)).trans e1
          replace e2 := (hb3.cell (p := ⟨b, off + 2, none⟩) (by show b < _; omega)).trans e2
          have hq : Below wr.heap.size wr W := (hb2.trans (hb3.mono hz2)).trans (hbW.mono hz2)
          have HOW := Lib.hid (ownsRow_below HO.out hq)
          have hbw := hb.trans (hq.mono hbz)
          have HTW := Lib.hid ((HT.out.below (hq.mono hbz)))
          have HBW := Lib.hid ((HA.out.below (hq.mono hbz)))
          have hi1 : (0 : Int) < (r.length : Int) + 1 := by omega
          have hi2 : (1 : Int) ≤ (r.length : Int) + 1 := by omega
          have hi3 : (r.length : Int) + 1 ≤ (c2 : Int) := by simp at k3; omega
          clear hw3 hW hx hxW
          go_wp2_with fail
          rw [← HW3.out]
          go_region
          rw [← HWW.out]
          generalize hA1 : (if c2 = 1 then some (⟨b, off, none⟩ : Addr) else some ⟨b, off + 3, none⟩) = A3
          have HRA1 := Lib.hid (HTW.out.cut1 (c := c2) (by simp at k3; omega) A3 (fun hne => by rw [← hA1, if_neg hne]))
          clear hA1 e0 e1 e2
          go_wp2_with (go_at_call 110; refine (keepI01 _).mono ?_; rintro e w' ⟨rfl, rfl⟩)
          go_roundg ((x :: rx).length + r.length)
          case measure => rw [HG.out]; simp only [List.length_cons]; omega
          case rel => exact ⟨A1, A3, c1, c2 - 1, (x :: rx), r, out, rfl, rfl, rfl, k1, k2, by simp at k3; omega, by omega, HBW.out, HRA1.out, by rw [HM.out, HMU.out], by simp at hlen ⊢; omega, HOW.out, by first | exact hbw | exact below_drew hbw | exact below_drew (below_drew hbw)⟩
    · have h1 : ra = [] := List.eq_nil_of_length_eq_zero (by omega)
      have h2 : rb = [] := List.eq_nil_of_length_eq_zero (by omega)
      subst h1
      subst h2
      go_wp2
      go_ret
      have hfin := HM.out
      simp only [mergeI, List.append_nil] at hfin
      exact ⟨_, rfl, by rw [hfin]; exact HO.out, hb⟩
end Go.Proofs.YtdeplhihcifmeaaGreatDoor

/- Meet at valid nets. -/
namespace Go.Proofs.YtdeplhihcifmeaaGreatDoor
open Go.RowKit

def MitPost (l l' : List Ck.Bar) (w : World) (e : Ending) (w' : World) : Prop :=
  ∃ v, e = .returned (.tuple #[v, .int .i64 0]) ∧ w'.ownsRow w.heap.size 24 3 v (mergeI l l').length (bcellsL (mergeI l l')) ∧ Below w.heap.size w w'

set_option maxHeartbeats 2000000 in
set_option maxRecDepth 100000 in
theorem netMergedI (A A' : Option Addr) (c c' : Nat) (l l' : List Ck.Bar) (w : World) (hl : l.length ≤ 4096) (hl' : l'.length ≤ 4096) (hc : l.length ≤ c) (hcm : c ≤ maxLen) (hc' : l'.length ≤ c') (hcm' : c' ≤ maxLen) (hN : Ck.Net l) (hN' : Ck.Net l') (h : RB w w.heap.size A l) (h' : RB w w.heap.size A' l') :
    Calls Tryz.prog 107 #[.slice A l.length c, .slice A' l'.length c', .func (.func 110) #[] #[]] w (MitPost l l' w) := by
  have HR := Lib.hid h
  have HR' := Lib.hid h'
  have HE := Lib.hid ((netE_zero l).2 ⟨hl, hN⟩)
  have HE' := Lib.hid ((netE_zero l').2 ⟨hl', hN'⟩)
  clear h h' hN hN'
  go_enter Tryz.func107, Tryz.ntmps107
  go_wp2_with fail
  refine (netCheckNet A c l _ hl hc hcm HR.out).mono ?_
  rintro e w1 ⟨rfl, hb1⟩
  rw [HE.out]
  go_wp2_with fail
  refine (netCheckNet A' c' l' _ hl' hc' hcm' ((HR'.out.below hb1).more hb1.size)).mono ?_
  rintro e w2 ⟨rfl, hb2⟩
  rw [HE'.out]
  have hq2 := hb1.trans (hb2.mono hb1.size)
  go_wp2_with fail
  refine (netFirst2 _ _ 0 0 32 _ (by exact heap_alloc_new _ _)).mono ?_
  rintro e w3 ⟨rfl, rfl⟩
  rw [show firstE [0, 0] = 0 from rfl]
  have hq3 := hq2.alloc hq2.size (.cells #[.int .i64 0, .int .i64 0] 32)
  go_wp2_with fail
  refine (netMergeI A A' c c' l l' _ hl hl' hc hcm hc' hcm' ((HR.out.below hq3).more hq3.size) ((HR'.out.below hq3).more hq3.size)).mono ?_
  rintro e w4 ⟨v, rfl, hown, hb4⟩
  have HO := Lib.hid (ownsRow_mono hown hq3.size)
  clear hown
  go_wp2
  go_ret2
  exact ⟨v, rfl, HO.out, hq3.trans (hb4.mono hq3.size)⟩

set_option maxHeartbeats 2000000 in
set_option maxRecDepth 100000 in
theorem netMeet (A A' : Option Addr) (c c' : Nat) (l l' : List Ck.Bar) (w : World) (hl : l.length ≤ 4096) (hl' : l'.length ≤ 4096) (hc : l.length ≤ c) (hcm : c ≤ maxLen) (hc' : l'.length ≤ c') (hcm' : c' ≤ maxLen) (hN : Ck.Net l) (hN' : Ck.Net l') (h : RB w w.heap.size A l) (h' : RB w w.heap.size A' l') :
    Calls Tryz.prog 59 #[.slice A l.length c, .slice A' l'.length c'] w (MitPost l l' w) := by
  have ex0 : ∀ (a b : Value) (w : World), (Instr.extract (.tuple #[a, b]) 0).run Tryz.prog w = .ok a w := fun _ _ _ => by kernel_rfl
  have ex1 : ∀ (a b : Value) (w : World), (Instr.extract (.tuple #[a, b]) 1).run Tryz.prog w = .ok b w := fun _ _ _ => by kernel_rfl
  go_enter Tryz.func59, Tryz.ntmps59
  go_wp2_with fail
  refine (netMergedI A A' c c' l l' _ hl hl' hc hcm hc' hcm' hN hN' h h').mono ?_
  rintro e w1 ⟨v, rfl, hown, hb1⟩
  obtain ⟨a, cv, rfl, _, _⟩ := own_slice hown
  have HO := Lib.hid hown
  clear hown
  generalize hn : (mergeI l l').length = n
  have HN := Lib.hid hn
  clear hn
  go_wp2
  go_ret2
  exact ⟨.slice a n cv, rfl, by have h9 := HO.out; rw [HN.out] at h9 ⊢; exact h9, hb1⟩

end Go.Proofs.YtdeplhihcifmeaaGreatDoor

/- Slices that the call owns, or that read so; Union. -/
namespace Go.Proofs.YtdeplhihcifmeaaGreatDoor
open Go.RowKit Ck

theorem unionS (A A' : Option Addr) (c c' : Nat) (l l' u : List Bar) (w : World) (hu : mergeU l l' = u) (hl : l.length ≤ 2000) (hl' : l'.length ≤ 2000) (hN : Net l) (hN' : Net l') (h : OKS w A c l) (h' : OKS w A' c' l') :
    Calls Tryz.prog 57 #[.slice A l.length c, .slice A' l'.length c'] w (PairPost u w) :=
  (netUnion A A' c c' l l' w (by omega) (by omega) h.1 h.2.1 h'.1 h'.2.1 hN hN' h.2.2.2 h'.2.2.2 (by have := mergeU_length l l'; omega)).mono fun e w' ⟨v, he, hrow, hb⟩ => by
    subst hu
    obtain ⟨a, c', rfl, hok⟩ := own_oks hrow
    exact ⟨a, c', he, hok, hb⟩
end Go.Proofs.YtdeplhihcifmeaaGreatDoor

/- Minus, of slices that the call owns or that read so. -/
namespace Go.Proofs.YtdeplhihcifmeaaGreatDoor
open Go.RowKit Ck

theorem minusS (A A' : Option Addr) (c c' : Nat) (l l' u : List Bar) (w : World) (hu : mergeM l l' = u) (hl : l.length ≤ 2000) (hl' : l'.length ≤ 2000) (hN : Net l) (hN' : Net l') (h : OKS w A c l) (h' : OKS w A' c' l') :
    Calls Tryz.prog 58 #[.slice A l.length c, .slice A' l'.length c'] w (PairPost u w) :=
  (netMinus A A' c c' l l' w (by omega) (by omega) h.1 h.2.1 h'.1 h'.2.1 hN hN' h.2.2.2 h'.2.2.2).mono fun e w' ⟨v, he, hrow, hb⟩ => by
    subst hu
    obtain ⟨a, c', rfl, hok⟩ := own_oks hrow
    exact ⟨a, c', he, hok, hb⟩
end Go.Proofs.YtdeplhihcifmeaaGreatDoor

/- Union, Minus, Meet of the program with an error; what they return of valid nets, in the reference's words. -/
namespace Go.Proofs.YtdeplhihcifmeaaGreatDoor
open Go.RowKit Go.Shelf Ck

theorem mergeM_eq : ∀ (l l' : List Bar), l.Pairwise Blt → l'.Pairwise Blt → mergeM l l' = l.filter (fun b => !(decide (b ∈ l')))
  | [], l', _, _ => by simp [mergeM]
  | a :: r, [], _, _ => by rw [mergeM, List.filter_eq_self.2 (by simp)]
  | a :: r, b :: r', h, h' => by
    obtain ⟨h1, h2⟩ := List.pairwise_cons.1 h
    obtain ⟨k1, k2⟩ := List.pairwise_cons.1 h'
    rw [mergeM]
    split
    · rename_i hc
      have hab := (cmpB_lt_iff a b).1 hc
      have ha : a ∉ b :: r' := fun hm => by
        rcases List.mem_cons.1 hm with e | e
        · subst e; exact hab.irrefl
        · exact (hab.trans (k1 a e)).irrefl
      rw [mergeM_eq r (b :: r') h2 h', List.filter_cons_of_pos (by simpa using ha)]
    · rename_i hc
      split
      · rename_i hd
        have hba : Blt b a := by
          rcases Blt.tri a b with h | h | h
          · exact absurd ((cmpB_lt_iff a b).2 h) hc
          · rw [(cmpB_zero a b).2 h] at hd; omega
          · exact h
        rw [mergeM_eq (a :: r) r' h k2]
        refine List.filter_congr fun x hx => ?_
        have hxb : x ≠ b := by
          rintro rfl
          rcases List.mem_cons.1 hx with e | e
          · subst e; exact hba.irrefl
          · exact (hba.trans (h1 x e)).irrefl
        simp [hxb]
      · have e : a = b := (cmpB_zero a b).1 (by omega)
        subst e
        rw [mergeM_eq r r' h2 k2, List.filter_cons_of_neg (by simp)]
        refine List.filter_congr fun x hx => ?_
        have hxb : x ≠ a := by
          rintro rfl
          exact (h1 x hx).irrefl
        simp [hxb]
termination_by l l' => l.length + l'.length
theorem mergeI_eq : ∀ (l l' : List Bar), l.Pairwise Blt → l'.Pairwise Blt → mergeI l l' = l.filter (fun b => decide (b ∈ l'))
  | [], l', _, _ => by simp [mergeI]
  | a :: r, [], _, _ => by simp [mergeI]
  | a :: r, b :: r', h, h' => by
    obtain ⟨h1, h2⟩ := List.pairwise_cons.1 h
    obtain ⟨k1, k2⟩ := List.pairwise_cons.1 h'
    rw [mergeI]
    split
    · rename_i hc
      have hab := (cmpB_lt_iff a b).1 hc
      have ha : a ∉ b :: r' := fun hm => by
        rcases List.mem_cons.1 hm with e | e
        · subst e; exact hab.irrefl
        · exact (hab.trans (k1 a e)).irrefl
      rw [mergeI_eq r (b :: r') h2 h', List.filter_cons_of_neg (by simpa using ha)]
    · rename_i hc
      split
      · rename_i hd
        have hba : Blt b a := by
          rcases Blt.tri a b with h | h | h
          · exact absurd ((cmpB_lt_iff a b).2 h) hc
          · rw [(cmpB_zero a b).2 h] at hd; omega
          · exact h
        rw [mergeI_eq (a :: r) r' h k2]
        refine List.filter_congr fun x hx => ?_
        have hxb : x ≠ b := by
          rintro rfl
          rcases List.mem_cons.1 hx with e | e
          · subst e; exact hba.irrefl
          · exact (hba.trans (h1 x e)).irrefl
        simp [hxb]
      · have e : a = b := (cmpB_zero a b).1 (by omega)
        subst e
        rw [mergeI_eq r r' h2 k2, List.filter_cons_of_pos (by simp)]
        congr 1
        refine List.filter_congr fun x hx => ?_
        have hxb : x ≠ a := by
          rintro rfl
          exact (h1 x hx).irrefl
        simp [hxb]
termination_by l l' => l.length + l'.length
theorem meetS (A A' : Option Addr) (c c' : Nat) (l l' u : List Bar) (w : World) (hu : mergeI l l' = u) (hl : l.length ≤ 2000) (hl' : l'.length ≤ 2000) (hN : Net l) (hN' : Net l') (h : OKS w A c l) (h' : OKS w A' c' l') :
    Calls Tryz.prog 59 #[.slice A l.length c, .slice A' l'.length c'] w (PairPost u w) :=
  (netMeet A A' c c' l l' w (by omega) (by omega) h.1 h.2.1 h'.1 h'.2.1 hN hN' h.2.2.2 h'.2.2.2).mono fun e w' ⟨v, he, hrow, hb⟩ => by
    subst hu
    obtain ⟨a, c', rfl, hok⟩ := own_oks hrow
    exact ⟨a, c', he, hok, hb⟩
end Go.Proofs.YtdeplhihcifmeaaGreatDoor

/- Degree of the program. -/
namespace Go.Proofs.YtdeplhihcifmeaaGreatDoor
open Go.RowKit Go.Shelf Ck

theorem keepU {W w1 w2 : World} {g : Nat} {x y : Value} (h : w1.cell? ⟨g, 0, none⟩ = some x ∧ w1.cell? ⟨g, 1, none⟩ = some y ∧ Below W.heap.size W w1 ∧ g < w1.heap.size) (hb : Below w1.heap.size w1 w2) :
    w2.cell? ⟨g, 0, none⟩ = some x ∧ w2.cell? ⟨g, 1, none⟩ = some y ∧ Below W.heap.size W w2 ∧ g < w2.heap.size := by
  obtain ⟨h0, h1, h3, h4⟩ := h
  exact ⟨(hb.cell (p := ⟨g, 0, none⟩) h4).trans h0, (hb.cell (p := ⟨g, 1, none⟩) h4).trans h1, hbT h3 hb, by have := hb.size; omega⟩
theorem uId {W w : World} {g : Nat} {x y : Value} (h : w.cell? ⟨g, 0, none⟩ = some x ∧ w.cell? ⟨g, 1, none⟩ = some y ∧ Below W.heap.size W w ∧ g < w.heap.size) : w.cell? ⟨g, 0, none⟩ = some x ∧ w.cell? ⟨g, 1, none⟩ = some y ∧ Below W.heap.size W w ∧ g < w.heap.size := h
set_option maxHeartbeats 4000000 in
set_option maxRecDepth 100000 in
theorem netDegreeOk (A : Option Addr) (c : Nat) (l : List Bar) (x y : Int) (d : Nat) (w : World) (hd : (ends l).count ⟨x, y⟩ = d) (hl : l.length ≤ 4096) (hN : Net l) (hK : knotE x y = 0) (h : OKS w A c l) :
    Calls Tryz.prog 42 #[.slice A l.length c, .agg #[.int .i64 x, .int .i64 y]] w fun e w' => e = .returned (.tuple #[.int .i64 (d : Int), .int .i64 0]) ∧ Below w.heap.size w w' := by
  have HO := Lib.hid h
  have HE := Lib.hid ((netE_zero l).2 ⟨hl, hN⟩)
  have HN := Lib.hid hN
  have HK := Lib.hid hK
  have HD := Lib.hid (show mget (degsL (ends l)) ⟨x, y⟩ = (d : Int) by rw [degs_count, hd])
  clear h hN hK hd
  obtain ⟨w1, hw1, e0, e1, hb1, hz1⟩ := box2 w (.int .i64 x) (.int .i64 y) 26
  have Q : ∀ {W : World}, Below w1.heap.size w1 W → W.cell? ⟨w.heap.size, 0, none⟩ = some (.int .i64 x) ∧ W.cell? ⟨w.heap.size, 1, none⟩ = some (.int .i64 y) := fun hb => ⟨(hb.cell (p := ⟨w.heap.size, 0, none⟩) hz1).trans e0, (hb.cell (p := ⟨w.heap.size, 1, none⟩) hz1).trans e1⟩
  have fin : ∀ {W : World}, Below w1.heap.size w1 W → Below w.heap.size w W := fun hb => hb1.trans (hb.mono hb1.size)
  have HW1 := Lib.hid hw1
  clear hw1
  go_enter Tryz.func42, Tryz.ntmps42
  go_wp2_with fail
  rw [← HW1.out]
  go_region_held3 (fun w' => w'.cell? ⟨w.heap.size, 0, none⟩ = some (.int .i64 x) ∧ w'.cell? ⟨w.heap.size, 1, none⟩ = some (.int .i64 y) ∧ Below w1.heap.size w1 w' ∧ w.heap.size < w'.heap.size)
    (first | exact ⟨e0, e1, below_drew (Below.refl _ _), hz1⟩ | exact keepU (by assumption) (by assumption) | exact keepU (by assumption) ((Below.refl _ _).alloc (Nat.le_refl _) _) | assumption | go_keep)
    (first
      | (go_at_call 20; refine (netCheckNetA A c l _ (HO.out.below (fin (uId (by assumption)).2.2.1))).mono ?_; rintro e w' ⟨rfl, hbq⟩; rw [HE.out])
      | (go_at_call 23; refine (netCheckKnot _ _ _).mono ?_; rintro e w' ⟨rfl, hbq⟩; rw [HK.out])
      | (go_at_call 84; refine (netFirst2 _ _ 0 0 32 _ (by exact heap_alloc_new _ _)).mono ?_; rintro e w' ⟨rfl, rfl⟩; rw [show firstE [0, 0] = 0 from rfl]))
  all_goals
    obtain ⟨-, -, BW, -⟩ := uId (by assumption)
    clear e0 e1
    go_wp2_with fail
    refine wp_region_held_drew (S := (fun w' => Below w1.heap.size w1 w')) (by kernel_rfl) ?_ (fun hHeld => ?_)
    · exact below_drew BW
    refine wpAnyH_take (i := 0) (oi := _) (v := ?vd0_1) rfl (by kernel_rfl) (by kernel_rfl) (by kernel_rfl) (fun _ _ _ h => h) (Or.inl ⟨by rfl, ?hyd0_1⟩) (by assumption) ?restd0_1
    case hyd0_1 => (intro w hSw; (try dsimp only at hSw); go_simp; first | done | rfl)
    try simp only [List.getElem_toArray, List.getElem_cons_succ, List.getElem_cons_zero, Act.put, List.setIfInBounds_toArray, List.set_cons_zero, List.set_cons_succ]
    refine wpAnyH_take (i := 2) (oi := _) (v := ?vd2_2) rfl (by kernel_rfl) (by kernel_rfl) (by kernel_rfl) (fun _ _ _ h => h) (Or.inl ⟨by rfl, ?hyd2_2⟩) (by assumption) ?restd2_2
    case hyd2_2 => (intro w hSw; (try dsimp only at hSw); obtain ⟨s0, s1⟩ := Q hSw; go_simp; first | done | rfl)
    try simp only [List.getElem_toArray, List.getElem_cons_succ, List.getElem_cons_zero, Act.put, List.setIfInBounds_toArray, List.set_cons_zero, List.set_cons_succ]
    refine wpAnyH_ready (rs := [1]) (by kernel_rfl) (by simp) ?_
    refine (AllReadyH.cons (o := _) rfl (fun K hK => ?rd1_3) AllReadyH.nil)
    case rd1_3 =>
      simp only [List.getElem_toArray, List.getElem_cons_succ, List.getElem_cons_zero]
      go_simp
      go_at_call 101
      refine (netDegrees A c l _ (by omega) HN.out.1 (HO.out.below (fin hHeld)).2.2.2).mono ?_
      rintro e w4 ⟨b, rfl, hbB, hmis, hbq⟩
      have hbl := hmis.lt
      have hq := hmis.lookup ⟨x, y⟩
      simp only [kvv] at hq
      rw [HD.out] at hq
      have HM := Lib.hid hmis
      clear hmis
      refine hK.out _ _ (hbT hHeld hbq) (fun hHeld => ?_)
      clear hbq
      clear hK K
      try simp only [List.getElem_toArray, List.getElem_cons_succ, List.getElem_cons_zero, Act.put, List.setIfInBounds_toArray, List.set_cons_zero, List.set_cons_succ]
      refine wpAnyH_ready (rs := [3]) (by kernel_rfl) (by simp) ?_
      refine (AllReadyH.cons (o := _) rfl (fun K hK => ?rd3_4) AllReadyH.nil)
      case rd3_4 =>
        simp only [List.getElem_toArray, List.getElem_cons_succ, List.getElem_cons_zero]
        go_simp
        refine hK.out _ _ hHeld (fun hHeld => ?_)
        clear hK K
        try simp only [List.getElem_toArray, List.getElem_cons_succ, List.getElem_cons_zero, Act.put, List.setIfInBounds_toArray, List.set_cons_zero, List.set_cons_succ]
        refine wpAnyH_take (i := 4) (oi := _) (v := ?vd4_5) rfl (by kernel_rfl) (by kernel_rfl) (by kernel_rfl) (fun _ _ _ h => h) (Or.inl ⟨by rfl, ?hyd4_5⟩) (by assumption) ?restd4_5
        case hyd4_5 => (intro w hSw; (try dsimp only at hSw); go_simp; first | done | rfl)
        try simp only [List.getElem_toArray, List.getElem_cons_succ, List.getElem_cons_zero, Act.put, List.setIfInBounds_toArray, List.set_cons_zero, List.set_cons_succ]
        refine wpAnyH_take (i := 5) (oi := _) (v := ?vd5_6) rfl (by kernel_rfl) (by kernel_rfl) (by kernel_rfl) (fun _ _ _ h => h) (Or.inl ⟨by rfl, ?hyd5_6⟩) (by assumption) ?restd5_6
        case hyd5_6 => (intro w hSw; (try dsimp only at hSw); go_simp; first | done | rfl)
        try simp only [List.getElem_toArray, List.getElem_cons_succ, List.getElem_cons_zero, Act.put, List.setIfInBounds_toArray, List.set_cons_zero, List.set_cons_succ]
        refine wpAnyH_done (by kernel_rfl) ?_ _
        go_wp2
        go_ret2
        exact ⟨rfl, fin hHeld⟩
end Go.Proofs.YtdeplhihcifmeaaGreatDoor

/- Unions, meets and what is left: lengths, degrees, orders: plain mathematics. -/
namespace Go.Proofs.YtdeplhihcifmeaaGreatDoor
open Ck Go.RowKit

theorem sum_split (f : Bar → Nat) : ∀ (l m : List Bar), ((mergeU l m).map f).sum + ((mergeI l m).map f).sum = (l.map f).sum + (m.map f).sum
  | [], m => by simp [mergeU, mergeI]
  | a :: r, [] => by simp [mergeU, mergeI]
  | a :: r, b :: r' => by
    rw [mergeU, mergeI]
    split
    · have ih := sum_split f r (b :: r')
      simp only [List.map_cons, List.sum_cons] at ih ⊢
      omega
    · split
      · have ih := sum_split f (a :: r) r'
        simp only [List.map_cons, List.sum_cons] at ih ⊢
        omega
      · rename_i h1 h2
        have e : a = b := (cmpB_zero a b).1 (by omega)
        subst e
        have ih := sum_split f r r'
        simp only [List.map_cons, List.sum_cons] at ih ⊢
        omega
termination_by l m => l.length + m.length
theorem sum_one (l : List Bar) : (l.map fun _ => 1).sum = l.length := by
  induction l with
  | nil => rfl
  | cons a r ih => simp only [List.map_cons, List.sum_cons, List.length_cons, ih]; omega
theorem len_split (l m : List Bar) : (mergeU l m).length + (mergeI l m).length = l.length + m.length := by
  have := sum_split (fun _ => 1) l m
  simpa only [sum_one] using this
theorem ends_sum (k : Knot) (l : List Bar) : (ends l).count k = (l.map fun b => [b.lo, b.hi].count k).sum := by
  induction l with
  | nil => rfl
  | cons a r ih =>
    have e : ends (a :: r) = [a.lo, a.hi] ++ ends r := by simp [ends]
    rw [e, List.count_append, ih, List.map_cons, List.sum_cons]
theorem deg_split (k : Knot) (l m : List Bar) : (ends (mergeU l m)).count k + (ends (mergeI l m)).count k = (ends l).count k + (ends m).count k := by
  simp only [ends_sum]
  exact sum_split _ l m
theorem union_comm {l m : List Bar} (h : Net l) (h' : Net m) : mergeU m l = mergeU l m :=
  sorted_unique (mergeU_sorted m l h'.2 h.2) (mergeU_sorted l m h.2 h'.2) fun b => by rw [mergeU_mem, mergeU_mem, or_comm]
theorem meet_comm {l m : List Bar} (h : Net l) (h' : Net m) : mergeI m l = mergeI l m := by
  rw [mergeI_eq m l h'.2 h.2, mergeI_eq l m h.2 h'.2]
  exact sorted_unique (h'.2.filter _) (h.2.filter _) fun b => by simp [List.mem_filter, and_comm]
theorem back_eq {l m : List Bar} (h : Net l) (h' : Net m) : mergeU (mergeM l m) (mergeI l m) = l := by
  rw [mergeM_eq l m h.2 h'.2, mergeI_eq l m h.2 h'.2]
  refine sorted_unique (mergeU_sorted _ _ (h.2.filter _) (h.2.filter _)) h.2 fun b => ?_
  rw [mergeU_mem, List.mem_filter, List.mem_filter]
  by_cases hb : b ∈ m <;> simp [hb]
theorem none_eq {l m : List Bar} (h : Net l) (h' : Net m) : mergeI (mergeM l m) m = [] := by
  rw [mergeM_eq l m h.2 h'.2, mergeI_eq _ m (h.2.filter _) h'.2, List.filter_filter]
  refine List.filter_eq_nil_iff.2 fun b _ => by simp
theorem minus_net {l m : List Bar} (h : Net l) (h' : Net m) : Net (mergeM l m) := by
  rw [mergeM_eq l m h.2 h'.2]
  exact ⟨fun b hb => h.1 b (List.mem_filter.1 hb).1, h.2.filter _⟩
theorem meet_net {l m : List Bar} (h : Net l) (h' : Net m) : Net (mergeI l m) := by
  rw [mergeI_eq l m h.2 h'.2]
  exact ⟨fun b hb => h.1 b (List.mem_filter.1 hb).1, h.2.filter _⟩
theorem minus_le {l m : List Bar} (h : Net l) (h' : Net m) : (mergeM l m).length ≤ l.length := by
  rw [mergeM_eq l m h.2 h'.2]; exact List.length_filter_le _ _
theorem meet_le {l m : List Bar} (h : Net l) (h' : Net m) : (mergeI l m).length ≤ l.length := by
  rw [mergeI_eq l m h.2 h'.2]; exact List.length_filter_le _ _
end Go.Proofs.YtdeplhihcifmeaaGreatDoor

/- The law of NettingAlgebra. -/
namespace Go.Proofs.YtdeplhihcifmeaaGreatDoor
open Go.RowKit Go.Shelf Ck

set_option maxHeartbeats 4000000 in
set_option maxRecDepth 100000 in
theorem lawAlg1 (A A' : Option Addr) (c c' : Nat) (l m : List Bar) (x y : Int) (w : World) (hL : LaidLen w) (hO : OKS w A c l) (hO' : OKS w A' c' m) (h1 : (30 : Int) < (l.length : Int)) :
    Calls Tryz.prog 13 #[.slice A l.length c, .slice A' m.length c', .agg #[.int .i64 x, .int .i64 y]] w fun e w' => e = .returned (.bool true) ∧ Below w.heap.size w w' := by
  have ex0 : ∀ (a b : Value) (w : World), (Instr.extract (.tuple #[a, b]) 0).run Tryz.prog w = .ok a w := fun _ _ _ => by kernel_rfl
  have ex1 : ∀ (a b : Value) (w : World), (Instr.extract (.tuple #[a, b]) 1).run Tryz.prog w = .ok b w := fun _ _ _ => by kernel_rfl
  obtain ⟨w1, hw1, z0, z1, hb1, hz1⟩ := box2 w (.int .i64 x) (.int .i64 y) 26
  have Q : ∀ {W : World}, Below w1.heap.size w1 W → W.cell? ⟨w.heap.size, 0, none⟩ = some (.int .i64 x) ∧ W.cell? ⟨w.heap.size, 1, none⟩ = some (.int .i64 y) := fun hb => ⟨(hb.cell (p := ⟨w.heap.size, 0, none⟩) hz1).trans z0, (hb.cell (p := ⟨w.heap.size, 1, none⟩) hz1).trans z1⟩
  have HW1 := Lib.hid hw1
  have HLL := Lib.hid hL
  have HO := Lib.hid hO
  have HO' := Lib.hid hO'
  have fin : ∀ {W : World}, Below w1.heap.size w1 W → Below w.heap.size w W := fun hb => hb1.trans (hb.mono hb1.size)
  have BW := Below.refl w1.heap.size w1
  clear hw1 hL hO hO' z0 z1
  go_enter Tryz.func13, Tryz.ntmps13
  go_wp2_with fail
  rw [← HW1.out]
  go_wp2_with fail
  refine (awake1 _ (HLL.out.below (fin BW) HLL.out.lt)).mono ?_
  rintro e w11 ⟨rfl, hb11⟩
  replace BW := hbT BW hb11
  clear hb11
  go_wp2_with fail
  refine (awake1 _ (HLL.out.below (fin BW) HLL.out.lt)).mono ?_
  rintro e w12 ⟨rfl, hb12⟩
  replace BW := hbT BW hb12
  clear hb12
  go_wp2
  go_ret
  exact ⟨rfl, fin BW⟩
set_option maxHeartbeats 4000000 in
set_option maxRecDepth 100000 in
theorem lawAlg2 (A A' : Option Addr) (c c' : Nat) (l m : List Bar) (x y : Int) (w : World) (hL : LaidLen w) (hO : OKS w A c l) (hO' : OKS w A' c' m) (h1 : ¬ (30 : Int) < (l.length : Int)) (h2 : (30 : Int) < (m.length : Int)) :
    Calls Tryz.prog 13 #[.slice A l.length c, .slice A' m.length c', .agg #[.int .i64 x, .int .i64 y]] w fun e w' => e = .returned (.bool true) ∧ Below w.heap.size w w' := by
  have ex0 : ∀ (a b : Value) (w : World), (Instr.extract (.tuple #[a, b]) 0).run Tryz.prog w = .ok a w := fun _ _ _ => by kernel_rfl
  have ex1 : ∀ (a b : Value) (w : World), (Instr.extract (.tuple #[a, b]) 1).run Tryz.prog w = .ok b w := fun _ _ _ => by kernel_rfl
  obtain ⟨w1, hw1, z0, z1, hb1, hz1⟩ := box2 w (.int .i64 x) (.int .i64 y) 26
  have Q : ∀ {W : World}, Below w1.heap.size w1 W → W.cell? ⟨w.heap.size, 0, none⟩ = some (.int .i64 x) ∧ W.cell? ⟨w.heap.size, 1, none⟩ = some (.int .i64 y) := fun hb => ⟨(hb.cell (p := ⟨w.heap.size, 0, none⟩) hz1).trans z0, (hb.cell (p := ⟨w.heap.size, 1, none⟩) hz1).trans z1⟩
  have HW1 := Lib.hid hw1
  have HLL := Lib.hid hL
  have HO := Lib.hid hO
  have HO' := Lib.hid hO'
  have fin : ∀ {W : World}, Below w1.heap.size w1 W → Below w.heap.size w W := fun hb => hb1.trans (hb.mono hb1.size)
  have BW := Below.refl w1.heap.size w1
  clear hw1 hL hO hO' z0 z1
  go_enter Tryz.func13, Tryz.ntmps13
  go_wp2_with fail
  rw [← HW1.out]
  go_wp2_with fail
  refine (awake1 _ (HLL.out.below (fin BW) HLL.out.lt)).mono ?_
  rintro e w11 ⟨rfl, hb11⟩
  replace BW := hbT BW hb11
  clear hb11
  go_wp2_with fail
  refine (awake1 _ (HLL.out.below (fin BW) HLL.out.lt)).mono ?_
  rintro e w12 ⟨rfl, hb12⟩
  replace BW := hbT BW hb12
  clear hb12
  go_wp2
  go_ret
  exact ⟨rfl, fin BW⟩
set_option maxHeartbeats 4000000 in
set_option maxRecDepth 100000 in
theorem lawAlg3 (A A' : Option Addr) (c c' : Nat) (l m : List Bar) (x y : Int) (w : World) (hL : LaidLen w) (hO : OKS w A c l) (hO' : OKS w A' c' m) (h1 : ¬ (30 : Int) < (l.length : Int)) (h2 : ¬ (30 : Int) < (m.length : Int)) (N : Int) (hN : netE l = N) (hn : N ≠ 0) :
    Calls Tryz.prog 13 #[.slice A l.length c, .slice A' m.length c', .agg #[.int .i64 x, .int .i64 y]] w fun e w' => e = .returned (.bool true) ∧ Below w.heap.size w w' := by
  have HN := Lib.hid hN
  clear hN
  have hn0 : (N != 0) = true := by rw [bne_iff_ne]; exact hn
  clear hn
  have ex0 : ∀ (a b : Value) (w : World), (Instr.extract (.tuple #[a, b]) 0).run Tryz.prog w = .ok a w := fun _ _ _ => by kernel_rfl
  have ex1 : ∀ (a b : Value) (w : World), (Instr.extract (.tuple #[a, b]) 1).run Tryz.prog w = .ok b w := fun _ _ _ => by kernel_rfl
  obtain ⟨w1, hw1, z0, z1, hb1, hz1⟩ := box2 w (.int .i64 x) (.int .i64 y) 26
  have Q : ∀ {W : World}, Below w1.heap.size w1 W → W.cell? ⟨w.heap.size, 0, none⟩ = some (.int .i64 x) ∧ W.cell? ⟨w.heap.size, 1, none⟩ = some (.int .i64 y) := fun hb => ⟨(hb.cell (p := ⟨w.heap.size, 0, none⟩) hz1).trans z0, (hb.cell (p := ⟨w.heap.size, 1, none⟩) hz1).trans z1⟩
  have HW1 := Lib.hid hw1
  have HLL := Lib.hid hL
  have HO := Lib.hid hO
  have HO' := Lib.hid hO'
  have fin : ∀ {W : World}, Below w1.heap.size w1 W → Below w.heap.size w W := fun hb => hb1.trans (hb.mono hb1.size)
  have BW := Below.refl w1.heap.size w1
  clear hw1 hL hO hO' z0 z1
  go_enter Tryz.func13, Tryz.ntmps13
  go_wp2_with fail
  rw [← HW1.out]
  go_wp2_with fail
  refine (awake1 _ (HLL.out.below (fin BW) HLL.out.lt)).mono ?_
  rintro e w11 ⟨rfl, hb11⟩
  replace BW := hbT BW hb11
  clear hb11
  go_wp2_with fail
  refine (refCheckNetA A c l _ (HO.out.below (fin BW))).mono ?_
  rintro e w12 ⟨rfl, hb12⟩
  rw [HN.out]
  replace BW := hbT BW hb12
  clear hb12
  go_wp2_with fail
  refine (awake1 _ (HLL.out.below (fin BW) HLL.out.lt)).mono ?_
  rintro e w13 ⟨rfl, hb13⟩
  replace BW := hbT BW hb13
  clear hb13
  go_wp2
  go_ret
  exact ⟨rfl, fin BW⟩
set_option maxHeartbeats 4000000 in
set_option maxRecDepth 100000 in
theorem lawAlg4 (A A' : Option Addr) (c c' : Nat) (l m : List Bar) (x y : Int) (w : World) (hL : LaidLen w) (hO : OKS w A c l) (hO' : OKS w A' c' m) (h1 : ¬ (30 : Int) < (l.length : Int)) (h2 : ¬ (30 : Int) < (m.length : Int)) (N : Int) (hN : netE l = N) (hn : N = 0) (M : Int) (hM : netE m = M) (hm : M ≠ 0) :
    Calls Tryz.prog 13 #[.slice A l.length c, .slice A' m.length c', .agg #[.int .i64 x, .int .i64 y]] w fun e w' => e = .returned (.bool true) ∧ Below w.heap.size w w' := by
  have HN := Lib.hid hN
  clear hN
  subst hn
  have HM := Lib.hid hM
  clear hM
  have hm0 : (M != 0) = true := by rw [bne_iff_ne]; exact hm
  clear hm
  have ex0 : ∀ (a b : Value) (w : World), (Instr.extract (.tuple #[a, b]) 0).run Tryz.prog w = .ok a w := fun _ _ _ => by kernel_rfl
  have ex1 : ∀ (a b : Value) (w : World), (Instr.extract (.tuple #[a, b]) 1).run Tryz.prog w = .ok b w := fun _ _ _ => by kernel_rfl
  obtain ⟨w1, hw1, z0, z1, hb1, hz1⟩ := box2 w (.int .i64 x) (.int .i64 y) 26
  have Q : ∀ {W : World}, Below w1.heap.size w1 W → W.cell? ⟨w.heap.size, 0, none⟩ = some (.int .i64 x) ∧ W.cell? ⟨w.heap.size, 1, none⟩ = some (.int .i64 y) := fun hb => ⟨(hb.cell (p := ⟨w.heap.size, 0, none⟩) hz1).trans z0, (hb.cell (p := ⟨w.heap.size, 1, none⟩) hz1).trans z1⟩
  have HW1 := Lib.hid hw1
  have HLL := Lib.hid hL
  have HO := Lib.hid hO
  have HO' := Lib.hid hO'
  have fin : ∀ {W : World}, Below w1.heap.size w1 W → Below w.heap.size w W := fun hb => hb1.trans (hb.mono hb1.size)
  have BW := Below.refl w1.heap.size w1
  clear hw1 hL hO hO' z0 z1
  go_enter Tryz.func13, Tryz.ntmps13
  go_wp2_with fail
  rw [← HW1.out]
  go_wp2_with fail
  refine (awake1 _ (HLL.out.below (fin BW) HLL.out.lt)).mono ?_
  rintro e w11 ⟨rfl, hb11⟩
  replace BW := hbT BW hb11
  clear hb11
  go_wp2_with fail
  refine (refCheckNetA A c l _ (HO.out.below (fin BW))).mono ?_
  rintro e w12 ⟨rfl, hb12⟩
  rw [HN.out]
  replace BW := hbT BW hb12
  clear hb12
  go_wp2_with fail
  refine (refCheckNetA A' c' m _ (HO'.out.below (fin BW))).mono ?_
  rintro e w13 ⟨rfl, hb13⟩
  rw [HM.out]
  replace BW := hbT BW hb13
  clear hb13
  go_wp2_with fail
  refine (awake1 _ (HLL.out.below (fin BW) HLL.out.lt)).mono ?_
  rintro e w14 ⟨rfl, hb14⟩
  replace BW := hbT BW hb14
  clear hb14
  go_wp2
  go_ret
  exact ⟨rfl, fin BW⟩
set_option maxHeartbeats 4000000 in
set_option maxRecDepth 100000 in
theorem lawAlg5 (A A' : Option Addr) (c c' : Nat) (l m : List Bar) (x y : Int) (w : World) (hL : LaidLen w) (hO : OKS w A c l) (hO' : OKS w A' c' m) (h1 : ¬ (30 : Int) < (l.length : Int)) (h2 : ¬ (30 : Int) < (m.length : Int)) (N : Int) (hN : netE l = N) (hn : N = 0) (M : Int) (hM : netE m = M) (hm : M = 0) (K : Int) (hK : knotE x y = K) (hk : K ≠ 0) :
    Calls Tryz.prog 13 #[.slice A l.length c, .slice A' m.length c', .agg #[.int .i64 x, .int .i64 y]] w fun e w' => e = .returned (.bool true) ∧ Below w.heap.size w w' := by
  have HN := Lib.hid hN
  clear hN
  subst hn
  have HM := Lib.hid hM
  clear hM
  subst hm
  have HK := Lib.hid hK
  have hk0 : (K != 0) = true := by rw [bne_iff_ne]; exact hk
  clear hk hK
  have ex0 : ∀ (a b : Value) (w : World), (Instr.extract (.tuple #[a, b]) 0).run Tryz.prog w = .ok a w := fun _ _ _ => by kernel_rfl
  have ex1 : ∀ (a b : Value) (w : World), (Instr.extract (.tuple #[a, b]) 1).run Tryz.prog w = .ok b w := fun _ _ _ => by kernel_rfl
  obtain ⟨w1, hw1, z0, z1, hb1, hz1⟩ := box2 w (.int .i64 x) (.int .i64 y) 26
  have Q : ∀ {W : World}, Below w1.heap.size w1 W → W.cell? ⟨w.heap.size, 0, none⟩ = some (.int .i64 x) ∧ W.cell? ⟨w.heap.size, 1, none⟩ = some (.int .i64 y) := fun hb => ⟨(hb.cell (p := ⟨w.heap.size, 0, none⟩) hz1).trans z0, (hb.cell (p := ⟨w.heap.size, 1, none⟩) hz1).trans z1⟩
  have HW1 := Lib.hid hw1
  have HLL := Lib.hid hL
  have HO := Lib.hid hO
  have HO' := Lib.hid hO'
  have fin : ∀ {W : World}, Below w1.heap.size w1 W → Below w.heap.size w W := fun hb => hb1.trans (hb.mono hb1.size)
  have BW := Below.refl w1.heap.size w1
  clear hw1 hL hO hO' z0 z1
  go_enter Tryz.func13, Tryz.ntmps13
  go_wp2_with fail
  rw [← HW1.out]
  go_wp2_with fail
  refine (awake1 _ (HLL.out.below (fin BW) HLL.out.lt)).mono ?_
  rintro e w11 ⟨rfl, hb11⟩
  replace BW := hbT BW hb11
  clear hb11
  go_wp2_with fail
  refine (refCheckNetA A c l _ (HO.out.below (fin BW))).mono ?_
  rintro e w12 ⟨rfl, hb12⟩
  rw [HN.out]
  replace BW := hbT BW hb12
  clear hb12
  go_wp2_with fail
  refine (refCheckNetA A' c' m _ (HO'.out.below (fin BW))).mono ?_
  rintro e w13 ⟨rfl, hb13⟩
  rw [HM.out]
  replace BW := hbT BW hb13
  clear hb13
  have qs := Q BW
  obtain ⟨s0, s1⟩ := qs
  go_wp2_with fail
  refine (refCheckKnot x y _).mono ?_
  rintro e w14 ⟨rfl, hb14⟩
  rw [HK.out]
  replace BW := hbT BW hb14
  clear hb14
  clear s0 s1
  go_wp2_with fail
  refine (awake1 _ (HLL.out.below (fin BW) HLL.out.lt)).mono ?_
  rintro e w15 ⟨rfl, hb15⟩
  replace BW := hbT BW hb15
  clear hb15
  go_wp2
  go_ret
  exact ⟨rfl, fin BW⟩
set_option maxHeartbeats 16000000 in
set_option maxRecDepth 100000 in
theorem lawAlgM (A A' : Option Addr) (c c' : Nat) (l m : List Bar) (x y : Int) (w : World) (hL : LaidLen w) (hO : OKS w A c l) (hO' : OKS w A' c' m) (h1 : ¬ (30 : Int) < (l.length : Int)) (h2 : ¬ (30 : Int) < (m.length : Int)) (hN : Net l) (hM : Net m) (hK : knotE x y = 0) (u t v : List Bar) (d1 d2 d3 d4 : Nat)
    (hu : mergeU l m = u) (hu2 : mergeU m l = u) (ht : mergeI l m = t) (ht2 : mergeI m l = t) (hv : mergeM l m = v) (hb : mergeU v t = l) (hn : mergeI v m = []) (nu : Net u) (nt : Net t) (nv : Net v) (ul : u.length ≤ 60) (tl : t.length ≤ 30) (vl : v.length ≤ 30) (hln : u.length + t.length = l.length + m.length)
    (g1 : (ends u).count ⟨x, y⟩ = d1) (g2 : (ends l).count ⟨x, y⟩ = d2) (g3 : (ends m).count ⟨x, y⟩ = d3) (g4 : (ends t).count ⟨x, y⟩ = d4) (hdd : d1 + d4 = d2 + d3) (hd1 : d1 ≤ 8000) (hd2 : d2 ≤ 8000) (hd3 : d3 ≤ 8000) (hd4 : d4 ≤ 8000) :
    Calls Tryz.prog 13 #[.slice A l.length c, .slice A' m.length c', .agg #[.int .i64 x, .int .i64 y]] w fun e w' => e = .returned (.bool true) ∧ Below w.heap.size w w' := by
  have ex0 : ∀ (a b : Value) (w : World), (Instr.extract (.tuple #[a, b]) 0).run Tryz.prog w = .ok a w := fun _ _ _ => by kernel_rfl
  have ex1 : ∀ (a b : Value) (w : World), (Instr.extract (.tuple #[a, b]) 1).run Tryz.prog w = .ok b w := fun _ _ _ => by kernel_rfl
  obtain ⟨w1, hw1, z0, z1, hb1, hz1⟩ := box2 w (.int .i64 x) (.int .i64 y) 26
  have Q : ∀ {W : World}, Below w1.heap.size w1 W → W.cell? ⟨w.heap.size, 0, none⟩ = some (.int .i64 x) ∧ W.cell? ⟨w.heap.size, 1, none⟩ = some (.int .i64 y) := fun hb => ⟨(hb.cell (p := ⟨w.heap.size, 0, none⟩) hz1).trans z0, (hb.cell (p := ⟨w.heap.size, 1, none⟩) hz1).trans z1⟩
  have HW1 := Lib.hid hw1
  have HLL := Lib.hid hL
  have HO := Lib.hid hO
  have HO' := Lib.hid hO'
  have fin : ∀ {W : World}, Below w1.heap.size w1 W → Below w.heap.size w W := fun hb => hb1.trans (hb.mono hb1.size)
  have BW := Below.refl w1.heap.size w1
  have HN := Lib.hid hN
  have HM := Lib.hid hM
  have HK := Lib.hid hK
  have HU := Lib.hid hu
  have HU2 := Lib.hid hu2
  have HT := Lib.hid ht
  have HT2 := Lib.hid ht2
  have HV := Lib.hid hv
  have HBK := Lib.hid hb
  have HNO := Lib.hid hn
  have NU := Lib.hid nu
  have NT := Lib.hid nt
  have NV := Lib.hid nv
  have G1 := Lib.hid g1
  have G2 := Lib.hid g2
  have G3 := Lib.hid g3
  have G4 := Lib.hid g4
  have L30 : l.length ≤ 30 := by omega
  have M30 : m.length ≤ 30 := by omega
  have EL := Lib.hid ((netE_zero l).2 ⟨by omega, hN⟩)
  have EM := Lib.hid ((netE_zero m).2 ⟨by omega, hM⟩)
  have EU := Lib.hid ((netE_zero u).2 ⟨by omega, nu⟩)
  have ET := Lib.hid ((netE_zero t).2 ⟨by omega, nt⟩)
  have EV := Lib.hid ((netE_zero v).2 ⟨by omega, nv⟩)
  have u60 : ¬ (60 : Int) < (u.length : Int) := by omega
  have ln0 : ((u.length : Int) + (t.length : Int) != (l.length : Int) + (m.length : Int)) = false := by rw [bne_eq_false_iff_eq]; omega
  have dd0 : ((d1 : Int) + (d4 : Int) == (d2 : Int) + (d3 : Int)) = true := by rw [beq_iff_eq]; omega
  have n1 : IntKind.i64.wrap ((u.length : Int) + (t.length : Int)) = (u.length : Int) + (t.length : Int) := by rw [IntKind.wrap_i64]; omega
  have n2 : IntKind.i64.wrap ((l.length : Int) + (m.length : Int)) = (l.length : Int) + (m.length : Int) := by rw [IntKind.wrap_i64]; omega
  have n3 : IntKind.i64.wrap ((d1 : Int) + (d4 : Int)) = (d1 : Int) + (d4 : Int) := by rw [IntKind.wrap_i64]; omega
  have n4 : IntKind.i64.wrap ((d2 : Int) + (d3 : Int)) = (d2 : Int) + (d3 : Int) := by rw [IntKind.wrap_i64]; omega
  clear hN hM hK hu hu2 ht ht2 hv hb hn nu nt nv g1 g2 g3 g4 hln hdd
  clear hw1 hL hO hO' z0 z1
  go_enter Tryz.func13, Tryz.ntmps13
  go_wp2_with fail
  rw [← HW1.out]
  go_wp2_with fail
  refine (awake1 _ (HLL.out.below (fin BW) HLL.out.lt)).mono ?_
  rintro e w11 ⟨rfl, hb11⟩
  replace BW := hbT BW hb11
  clear hb11
  go_wp2_with fail
  refine (refCheckNetA A c l _ (HO.out.below (fin BW))).mono ?_
  rintro e w12 ⟨rfl, hb12⟩
  rw [EL.out]
  replace BW := hbT BW hb12
  clear hb12
  go_wp2_with fail
  refine (refCheckNetA A' c' m _ (HO'.out.below (fin BW))).mono ?_
  rintro e w13 ⟨rfl, hb13⟩
  rw [EM.out]
  replace BW := hbT BW hb13
  clear hb13
  have qs := Q BW
  obtain ⟨s0, s1⟩ := qs
  go_wp2_with fail
  refine (refCheckKnot x y _).mono ?_
  rintro e w14 ⟨rfl, hb14⟩
  rw [HK.out]
  replace BW := hbT BW hb14
  clear hb14
  clear s0 s1
  go_wp2_with fail
  refine (lwCopied A c l _ (by omega) (HO.out.below (fin BW))).mono ?_
  rintro e w15 ⟨a15, c15, rfl, o15, hb15⟩
  replace BW := hbT BW hb15
  have O15 := Lib.hid o15
  clear o15 hb15
  go_wp2_with fail
  refine (lwCopied A' c' m _ (by omega) (HO'.out.below (fin BW))).mono ?_
  rintro e w16 ⟨a16, c16, rfl, o16, hb16⟩
  replace BW := hbT BW hb16
  replace O15 := Lib.hid (O15.out.below hb16)
  have O16 := Lib.hid o16
  clear o16 hb16
  go_wp2_with fail
  refine (unionS a15 a16 c15 c16 l m _ _ HU.out (by omega) (by omega) HN.out HM.out O15.out O16.out).mono ?_
  rintro e w17 ⟨a17, c17, rfl, o17, hb17⟩
  replace BW := hbT BW hb17
  replace O15 := Lib.hid (O15.out.below hb17)
  replace O16 := Lib.hid (O16.out.below hb17)
  have O17 := Lib.hid o17
  clear o17 hb17
  clear O15
  clear O16
  go_wp2_with fail
  refine (lwCopied A' c' m _ (by omega) (HO'.out.below (fin BW))).mono ?_
  rintro e w18 ⟨a18, c18, rfl, o18, hb18⟩
  replace BW := hbT BW hb18
  replace O17 := Lib.hid (O17.out.below hb18)
  have O18 := Lib.hid o18
  clear o18 hb18
  go_wp2_with fail
  refine (lwCopied A c l _ (by omega) (HO.out.below (fin BW))).mono ?_
  rintro e w19 ⟨a19, c19, rfl, o19, hb19⟩
  replace BW := hbT BW hb19
  replace O17 := Lib.hid (O17.out.below hb19)
  replace O18 := Lib.hid (O18.out.below hb19)
  have O19 := Lib.hid o19
  clear o19 hb19
  go_wp2_with fail
  refine (unionS a18 a19 c18 c19 m l _ _ HU2.out (by omega) (by omega) HM.out HN.out O18.out O19.out).mono ?_
  rintro e w20 ⟨a20, c20, rfl, o20, hb20⟩
  replace BW := hbT BW hb20
  replace O17 := Lib.hid (O17.out.below hb20)
  replace O18 := Lib.hid (O18.out.below hb20)
  replace O19 := Lib.hid (O19.out.below hb20)
  have O20 := Lib.hid o20
  clear o20 hb20
  clear O18
  clear O19
  go_wp2_with fail
  refine (lwCopied A c l _ (by omega) (HO.out.below (fin BW))).mono ?_
  rintro e w21 ⟨a21, c21, rfl, o21, hb21⟩
  replace BW := hbT BW hb21
  replace O17 := Lib.hid (O17.out.below hb21)
  replace O20 := Lib.hid (O20.out.below hb21)
  have O21 := Lib.hid o21
  clear o21 hb21
  go_wp2_with fail
  refine (lwCopied A' c' m _ (by omega) (HO'.out.below (fin BW))).mono ?_
  rintro e w22 ⟨a22, c22, rfl, o22, hb22⟩
  replace BW := hbT BW hb22
  replace O17 := Lib.hid (O17.out.below hb22)
  replace O20 := Lib.hid (O20.out.below hb22)
  replace O21 := Lib.hid (O21.out.below hb22)
  have O22 := Lib.hid o22
  clear o22 hb22
  go_wp2_with fail
  refine (meetS a21 a22 c21 c22 l m _ _ HT.out (by omega) (by omega) HN.out HM.out O21.out O22.out).mono ?_
  rintro e w23 ⟨a23, c23, rfl, o23, hb23⟩
  replace BW := hbT BW hb23
  replace O17 := Lib.hid (O17.out.below hb23)
  replace O20 := Lib.hid (O20.out.below hb23)
  replace O21 := Lib.hid (O21.out.below hb23)
  replace O22 := Lib.hid (O22.out.below hb23)
  have O23 := Lib.hid o23
  clear o23 hb23
  clear O21
  clear O22
  go_wp2_with fail
  refine (lwCopied A' c' m _ (by omega) (HO'.out.below (fin BW))).mono ?_
  rintro e w24 ⟨a24, c24, rfl, o24, hb24⟩
  replace BW := hbT BW hb24
  replace O17 := Lib.hid (O17.out.below hb24)
  replace O20 := Lib.hid (O20.out.below hb24)
  replace O23 := Lib.hid (O23.out.below hb24)
  have O24 := Lib.hid o24
  clear o24 hb24
  go_wp2_with fail
  refine (lwCopied A c l _ (by omega) (HO.out.below (fin BW))).mono ?_
  rintro e w25 ⟨a25, c25, rfl, o25, hb25⟩
  replace BW := hbT BW hb25
  replace O17 := Lib.hid (O17.out.below hb25)
  replace O20 := Lib.hid (O20.out.below hb25)
  replace O23 := Lib.hid (O23.out.below hb25)
  replace O24 := Lib.hid (O24.out.below hb25)
  have O25 := Lib.hid o25
  clear o25 hb25
  go_wp2_with fail
  refine (meetS a24 a25 c24 c25 m l _ _ HT2.out (by omega) (by omega) HM.out HN.out O24.out O25.out).mono ?_
  rintro e w26 ⟨a26, c26, rfl, o26, hb26⟩
  replace BW := hbT BW hb26
  replace O17 := Lib.hid (O17.out.below hb26)
  replace O20 := Lib.hid (O20.out.below hb26)
  replace O23 := Lib.hid (O23.out.below hb26)
  replace O24 := Lib.hid (O24.out.below hb26)
  replace O25 := Lib.hid (O25.out.below hb26)
  have O26 := Lib.hid o26
  clear o26 hb26
  clear O24
  clear O25
  go_wp2_with fail
  refine (lwCopied A c l _ (by omega) (HO.out.below (fin BW))).mono ?_
  rintro e w27 ⟨a27, c27, rfl, o27, hb27⟩
  replace BW := hbT BW hb27
  replace O17 := Lib.hid (O17.out.below hb27)
  replace O20 := Lib.hid (O20.out.below hb27)
  replace O23 := Lib.hid (O23.out.below hb27)
  replace O26 := Lib.hid (O26.out.below hb27)
  have O27 := Lib.hid o27
  clear o27 hb27
  go_wp2_with fail
  refine (lwCopied A' c' m _ (by omega) (HO'.out.below (fin BW))).mono ?_
  rintro e w28 ⟨a28, c28, rfl, o28, hb28⟩
  replace BW := hbT BW hb28
  replace O17 := Lib.hid (O17.out.below hb28)
  replace O20 := Lib.hid (O20.out.below hb28)
  replace O23 := Lib.hid (O23.out.below hb28)
  replace O26 := Lib.hid (O26.out.below hb28)
  replace O27 := Lib.hid (O27.out.below hb28)
  have O28 := Lib.hid o28
  clear o28 hb28
  go_wp2_with fail
  refine (minusS a27 a28 c27 c28 l m _ _ HV.out (by omega) (by omega) HN.out HM.out O27.out O28.out).mono ?_
  rintro e w29 ⟨a29, c29, rfl, o29, hb29⟩
  replace BW := hbT BW hb29
  replace O17 := Lib.hid (O17.out.below hb29)
  replace O20 := Lib.hid (O20.out.below hb29)
  replace O23 := Lib.hid (O23.out.below hb29)
  replace O26 := Lib.hid (O26.out.below hb29)
  replace O27 := Lib.hid (O27.out.below hb29)
  replace O28 := Lib.hid (O28.out.below hb29)
  have O29 := Lib.hid o29
  clear o29 hb29
  clear O27
  clear O28
  go_wp2_with fail
  refine (refCheckNetA a17 c17 u _ O17.out).mono ?_
  rintro e w30 ⟨rfl, hb30⟩
  rw [EU.out]
  replace BW := hbT BW hb30
  replace O17 := Lib.hid (O17.out.below hb30)
  replace O20 := Lib.hid (O20.out.below hb30)
  replace O23 := Lib.hid (O23.out.below hb30)
  replace O26 := Lib.hid (O26.out.below hb30)
  replace O29 := Lib.hid (O29.out.below hb30)
  clear hb30
  go_wp2_with fail
  refine (refCheckNetA a23 c23 t _ O23.out).mono ?_
  rintro e w31 ⟨rfl, hb31⟩
  rw [ET.out]
  replace BW := hbT BW hb31
  replace O17 := Lib.hid (O17.out.below hb31)
  replace O20 := Lib.hid (O20.out.below hb31)
  replace O23 := Lib.hid (O23.out.below hb31)
  replace O26 := Lib.hid (O26.out.below hb31)
  replace O29 := Lib.hid (O29.out.below hb31)
  clear hb31
  go_wp2_with fail
  refine (refCheckNetA a29 c29 v _ O29.out).mono ?_
  rintro e w32 ⟨rfl, hb32⟩
  rw [EV.out]
  replace BW := hbT BW hb32
  replace O17 := Lib.hid (O17.out.below hb32)
  replace O20 := Lib.hid (O20.out.below hb32)
  replace O23 := Lib.hid (O23.out.below hb32)
  replace O26 := Lib.hid (O26.out.below hb32)
  replace O29 := Lib.hid (O29.out.below hb32)
  clear hb32
  go_wp2_with fail
  refine (refSameNet a17 a20 c17 c20 u _ (by omega) O17.out.2.2.2 O20.out.2.2.2).mono ?_
  rintro e w33 ⟨rfl, hb33⟩
  replace BW := hbT BW hb33
  replace O17 := Lib.hid (O17.out.below hb33)
  replace O20 := Lib.hid (O20.out.below hb33)
  replace O23 := Lib.hid (O23.out.below hb33)
  replace O26 := Lib.hid (O26.out.below hb33)
  replace O29 := Lib.hid (O29.out.below hb33)
  clear hb33
  clear O20
  go_wp2_with fail
  refine (refSameNet a23 a26 c23 c26 t _ (by omega) O23.out.2.2.2 O26.out.2.2.2).mono ?_
  rintro e w34 ⟨rfl, hb34⟩
  replace BW := hbT BW hb34
  replace O17 := Lib.hid (O17.out.below hb34)
  replace O23 := Lib.hid (O23.out.below hb34)
  replace O26 := Lib.hid (O26.out.below hb34)
  replace O29 := Lib.hid (O29.out.below hb34)
  clear hb34
  clear O26
  go_wp2_with fail
  refine (lwCopied a29 c29 v _ (by omega) O29.out).mono ?_
  rintro e w35 ⟨a35, c35, rfl, o35, hb35⟩
  replace BW := hbT BW hb35
  replace O17 := Lib.hid (O17.out.below hb35)
  replace O23 := Lib.hid (O23.out.below hb35)
  replace O29 := Lib.hid (O29.out.below hb35)
  have O35 := Lib.hid o35
  clear o35 hb35
  go_wp2_with fail
  refine (lwCopied a23 c23 t _ (by omega) O23.out).mono ?_
  rintro e w36 ⟨a36, c36, rfl, o36, hb36⟩
  replace BW := hbT BW hb36
  replace O17 := Lib.hid (O17.out.below hb36)
  replace O23 := Lib.hid (O23.out.below hb36)
  replace O29 := Lib.hid (O29.out.below hb36)
  replace O35 := Lib.hid (O35.out.below hb36)
  have O36 := Lib.hid o36
  clear o36 hb36
  go_wp2_with fail
  refine (unionS a35 a36 c35 c36 v t _ _ HBK.out (by omega) (by omega) NV.out NT.out O35.out O36.out).mono ?_
  rintro e w37 ⟨a37, c37, rfl, o37, hb37⟩
  replace BW := hbT BW hb37
  replace O17 := Lib.hid (O17.out.below hb37)
  replace O23 := Lib.hid (O23.out.below hb37)
  replace O29 := Lib.hid (O29.out.below hb37)
  replace O35 := Lib.hid (O35.out.below hb37)
  replace O36 := Lib.hid (O36.out.below hb37)
  have O37 := Lib.hid o37
  clear o37 hb37
  clear O35
  clear O36
  go_wp2_with fail
  refine (lwCopied a29 c29 v _ (by omega) O29.out).mono ?_
  rintro e w38 ⟨a38, c38, rfl, o38, hb38⟩
  replace BW := hbT BW hb38
  replace O17 := Lib.hid (O17.out.below hb38)
  replace O23 := Lib.hid (O23.out.below hb38)
  replace O29 := Lib.hid (O29.out.below hb38)
  replace O37 := Lib.hid (O37.out.below hb38)
  have O38 := Lib.hid o38
  clear o38 hb38
  go_wp2_with fail
  refine (lwCopied A' c' m _ (by omega) (HO'.out.below (fin BW))).mono ?_
  rintro e w39 ⟨a39, c39, rfl, o39, hb39⟩
  replace BW := hbT BW hb39
  replace O17 := Lib.hid (O17.out.below hb39)
  replace O23 := Lib.hid (O23.out.below hb39)
  replace O29 := Lib.hid (O29.out.below hb39)
  replace O37 := Lib.hid (O37.out.below hb39)
  replace O38 := Lib.hid (O38.out.below hb39)
  have O39 := Lib.hid o39
  clear o39 hb39
  go_wp2_with fail
  refine (meetS a38 a39 c38 c39 v m _ _ HNO.out (by omega) (by omega) NV.out HM.out O38.out O39.out).mono ?_
  rintro e w40 ⟨a40, c40, rfl, o40, hb40⟩
  replace BW := hbT BW hb40
  replace O17 := Lib.hid (O17.out.below hb40)
  replace O23 := Lib.hid (O23.out.below hb40)
  replace O29 := Lib.hid (O29.out.below hb40)
  replace O37 := Lib.hid (O37.out.below hb40)
  replace O38 := Lib.hid (O38.out.below hb40)
  replace O39 := Lib.hid (O39.out.below hb40)
  have O40 := Lib.hid o40
  clear o40 hb40
  clear O38
  clear O39
  clear O40
  go_wp2_with fail
  refine wp_region_held_drew (S := (fun w' => Below w40.heap.size w40 w')) (by kernel_rfl) ?_ (fun hHeld => ?_)
  · exact below_drew (Below.refl _ _)
  refine wpAnyH_take (i := 0) (oi := _) (v := ?vg00) rfl (by kernel_rfl) (by kernel_rfl) (by kernel_rfl) (fun _ _ _ h => h) (Or.inl ⟨by rfl, ?hyg00⟩) (by assumption) ?restg00
  case hyg00 => (intro w hSw; (try dsimp only at hSw); go_simp; first | done | rfl)
  try simp only [List.getElem_toArray, List.getElem_cons_succ, List.getElem_cons_zero, Act.put, List.setIfInBounds_toArray, List.set_cons_zero, List.set_cons_succ]
  refine wpAnyH_take (i := 2) (oi := _) (v := ?vg02) rfl (by kernel_rfl) (by kernel_rfl) (by kernel_rfl) (fun _ _ _ h => h) (Or.inl ⟨by rfl, ?hyg02⟩) (by assumption) ?restg02
  case hyg02 => (intro w hSw; (try dsimp only at hSw); obtain ⟨s0, s1⟩ := Q (hbT BW hSw); go_simp; first | done | rfl)
  try simp only [List.getElem_toArray, List.getElem_cons_succ, List.getElem_cons_zero, Act.put, List.setIfInBounds_toArray, List.set_cons_zero, List.set_cons_succ]
  refine wpAnyH_ready (rs := [1]) (by kernel_rfl) (by simp) ?_
  refine AllReadyH.cons (o := _) rfl (fun K hK => ?_) AllReadyH.nil
  simp only [List.getElem_toArray, List.getElem_cons_succ, List.getElem_cons_zero]
  go_simp
  go_at_call 21
  refine (lwCopied a17 c17 u _ (by omega) (O17.out.below (by assumption))).mono ?_
  rintro e w' ⟨ax, cx, rfl, ox, hbq⟩
  refine hK.out _ _ (hbT (by assumption) hbq) (fun hHeld => ?_)
  clear hK K
  try simp only [List.getElem_toArray, List.getElem_cons_succ, List.getElem_cons_zero, Act.put, List.setIfInBounds_toArray, List.set_cons_zero, List.set_cons_succ]
  refine wpAnyH_ready (rs := [3]) (by kernel_rfl) (by simp) ?_
  refine AllReadyH.cons (o := _) rfl (fun K hK => ?_) AllReadyH.nil
  simp only [List.getElem_toArray, List.getElem_cons_succ, List.getElem_cons_zero]
  go_simp
  go_at_call 42
  refine (netDegreeOk ax cx u x y d1 _ G1.out (by omega) NU.out HK.out ox).mono ?_
  rintro e w41 ⟨rfl, hbq⟩
  refine hK.out _ _ (hbT (by assumption) hbq) (fun hHeld => ?_)
  clear hK K
  try simp only [List.getElem_toArray, List.getElem_cons_succ, List.getElem_cons_zero, Act.put, List.setIfInBounds_toArray, List.set_cons_zero, List.set_cons_succ]
  refine wpAnyH_take (i := 4) (oi := _) (v := ?vg04) rfl (by kernel_rfl) (by kernel_rfl) (by kernel_rfl) (fun _ _ _ h => h) (Or.inl ⟨by rfl, ?hyg04⟩) (by assumption) ?restg04
  case hyg04 => (intro w hSw; (try dsimp only at hSw); go_simp; first | done | rfl)
  try simp only [List.getElem_toArray, List.getElem_cons_succ, List.getElem_cons_zero, Act.put, List.setIfInBounds_toArray, List.set_cons_zero, List.set_cons_succ]
  refine wpAnyH_take (i := 5) (oi := _) (v := ?vg05) rfl (by kernel_rfl) (by kernel_rfl) (by kernel_rfl) (fun _ _ _ h => h) (Or.inl ⟨by rfl, ?hyg05⟩) (by assumption) ?restg05
  case hyg05 => (intro w hSw; (try dsimp only at hSw); go_simp; first | done | rfl)
  try simp only [List.getElem_toArray, List.getElem_cons_succ, List.getElem_cons_zero, Act.put, List.setIfInBounds_toArray, List.set_cons_zero, List.set_cons_succ]
  refine wpAnyH_take (i := 6) (oi := _) (v := ?vg06) rfl (by kernel_rfl) (by kernel_rfl) (by kernel_rfl) (fun _ _ _ h => h) (Or.inl ⟨by rfl, ?hyg06⟩) (by assumption) ?restg06
  case hyg06 => (intro w hSw; (try dsimp only at hSw); go_simp; first | done | rfl)
  try simp only [List.getElem_toArray, List.getElem_cons_succ, List.getElem_cons_zero, Act.put, List.setIfInBounds_toArray, List.set_cons_zero, List.set_cons_succ]
  refine wpAnyH_take (i := 7) (oi := _) (v := ?vg07) rfl (by kernel_rfl) (by kernel_rfl) (by kernel_rfl) (fun _ _ _ h => h) (Or.inl ⟨by rfl, ?hyg07⟩) (by assumption) ?restg07
  case hyg07 => (intro w hSw; (try dsimp only at hSw); go_simp; first | done | rfl)
  try simp only [List.getElem_toArray, List.getElem_cons_succ, List.getElem_cons_zero, Act.put, List.setIfInBounds_toArray, List.set_cons_zero, List.set_cons_succ]
  refine wpAnyH_take (i := 8) (oi := _) (v := ?vg08) rfl (by kernel_rfl) (by kernel_rfl) (by kernel_rfl) (fun _ _ _ h => h) (Or.inl ⟨by rfl, ?hyg08⟩) (by assumption) ?restg08
  case hyg08 => (intro w hSw; (try dsimp only at hSw); go_simp; first | done | rfl)
  try simp only [List.getElem_toArray, List.getElem_cons_succ, List.getElem_cons_zero, Act.put, List.setIfInBounds_toArray, List.set_cons_zero, List.set_cons_succ]
  refine wpAnyH_done (by kernel_rfl) ?_ _
  replace BW := hbT BW hHeld
  replace O17 := Lib.hid (O17.out.below hHeld)
  replace O23 := Lib.hid (O23.out.below hHeld)
  replace O29 := Lib.hid (O29.out.below hHeld)
  replace O37 := Lib.hid (O37.out.below hHeld)
  clear ox
  go_wp2_with fail
  refine wp_region_held_drew (S := (fun w' => Below w41.heap.size w41 w')) (by kernel_rfl) ?_ (fun hHeld => ?_)
  · exact below_drew (Below.refl _ _)
  refine wpAnyH_take (i := 0) (oi := _) (v := ?vg10) rfl (by kernel_rfl) (by kernel_rfl) (by kernel_rfl) (fun _ _ _ h => h) (Or.inl ⟨by rfl, ?hyg10⟩) (by assumption) ?restg10
  case hyg10 => (intro w hSw; (try dsimp only at hSw); go_simp; first | done | rfl)
  try simp only [List.getElem_toArray, List.getElem_cons_succ, List.getElem_cons_zero, Act.put, List.setIfInBounds_toArray, List.set_cons_zero, List.set_cons_succ]
  refine wpAnyH_take (i := 2) (oi := _) (v := ?vg12) rfl (by kernel_rfl) (by kernel_rfl) (by kernel_rfl) (fun _ _ _ h => h) (Or.inl ⟨by rfl, ?hyg12⟩) (by assumption) ?restg12
  case hyg12 => (intro w hSw; (try dsimp only at hSw); obtain ⟨s0, s1⟩ := Q (hbT BW hSw); go_simp; first | done | rfl)
  try simp only [List.getElem_toArray, List.getElem_cons_succ, List.getElem_cons_zero, Act.put, List.setIfInBounds_toArray, List.set_cons_zero, List.set_cons_succ]
  refine wpAnyH_ready (rs := [1]) (by kernel_rfl) (by simp) ?_
  refine AllReadyH.cons (o := _) rfl (fun K hK => ?_) AllReadyH.nil
  simp only [List.getElem_toArray, List.getElem_cons_succ, List.getElem_cons_zero]
  go_simp
  go_at_call 21
  refine (lwCopied A c l _ (by omega) (HO.out.below (fin (hbT BW (by assumption))))).mono ?_
  rintro e w' ⟨ax, cx, rfl, ox, hbq⟩
  refine hK.out _ _ (hbT (by assumption) hbq) (fun hHeld => ?_)
  clear hK K
  try simp only [List.getElem_toArray, List.getElem_cons_succ, List.getElem_cons_zero, Act.put, List.setIfInBounds_toArray, List.set_cons_zero, List.set_cons_succ]
  refine wpAnyH_ready (rs := [3]) (by kernel_rfl) (by simp) ?_
  refine AllReadyH.cons (o := _) rfl (fun K hK => ?_) AllReadyH.nil
  simp only [List.getElem_toArray, List.getElem_cons_succ, List.getElem_cons_zero]
  go_simp
  go_at_call 42
  refine (netDegreeOk ax cx l x y d2 _ G2.out (by omega) HN.out HK.out ox).mono ?_
  rintro e w42 ⟨rfl, hbq⟩
  refine hK.out _ _ (hbT (by assumption) hbq) (fun hHeld => ?_)
  clear hK K
  try simp only [List.getElem_toArray, List.getElem_cons_succ, List.getElem_cons_zero, Act.put, List.setIfInBounds_toArray, List.set_cons_zero, List.set_cons_succ]
  refine wpAnyH_take (i := 4) (oi := _) (v := ?vg14) rfl (by kernel_rfl) (by kernel_rfl) (by kernel_rfl) (fun _ _ _ h => h) (Or.inl ⟨by rfl, ?hyg14⟩) (by assumption) ?restg14
  case hyg14 => (intro w hSw; (try dsimp only at hSw); go_simp; first | done | rfl)
  try simp only [List.getElem_toArray, List.getElem_cons_succ, List.getElem_cons_zero, Act.put, List.setIfInBounds_toArray, List.set_cons_zero, List.set_cons_succ]
  refine wpAnyH_take (i := 5) (oi := _) (v := ?vg15) rfl (by kernel_rfl) (by kernel_rfl) (by kernel_rfl) (fun _ _ _ h => h) (Or.inl ⟨by rfl, ?hyg15⟩) (by assumption) ?restg15
  case hyg15 => (intro w hSw; (try dsimp only at hSw); go_simp; first | done | rfl)
  try simp only [List.getElem_toArray, List.getElem_cons_succ, List.getElem_cons_zero, Act.put, List.setIfInBounds_toArray, List.set_cons_zero, List.set_cons_succ]
  refine wpAnyH_take (i := 6) (oi := _) (v := ?vg16) rfl (by kernel_rfl) (by kernel_rfl) (by kernel_rfl) (fun _ _ _ h => h) (Or.inl ⟨by rfl, ?hyg16⟩) (by assumption) ?restg16
  case hyg16 => (intro w hSw; (try dsimp only at hSw); go_simp; first | done | rfl)
  try simp only [List.getElem_toArray, List.getElem_cons_succ, List.getElem_cons_zero, Act.put, List.setIfInBounds_toArray, List.set_cons_zero, List.set_cons_succ]
  refine wpAnyH_take (i := 7) (oi := _) (v := ?vg17) rfl (by kernel_rfl) (by kernel_rfl) (by kernel_rfl) (fun _ _ _ h => h) (Or.inl ⟨by rfl, ?hyg17⟩) (by assumption) ?restg17
  case hyg17 => (intro w hSw; (try dsimp only at hSw); go_simp; first | done | rfl)
  try simp only [List.getElem_toArray, List.getElem_cons_succ, List.getElem_cons_zero, Act.put, List.setIfInBounds_toArray, List.set_cons_zero, List.set_cons_succ]
  refine wpAnyH_take (i := 8) (oi := _) (v := ?vg18) rfl (by kernel_rfl) (by kernel_rfl) (by kernel_rfl) (fun _ _ _ h => h) (Or.inl ⟨by rfl, ?hyg18⟩) (by assumption) ?restg18
  case hyg18 => (intro w hSw; (try dsimp only at hSw); go_simp; first | done | rfl)
  try simp only [List.getElem_toArray, List.getElem_cons_succ, List.getElem_cons_zero, Act.put, List.setIfInBounds_toArray, List.set_cons_zero, List.set_cons_succ]
  refine wpAnyH_done (by kernel_rfl) ?_ _
  replace BW := hbT BW hHeld
  replace O17 := Lib.hid (O17.out.below hHeld)
  replace O23 := Lib.hid (O23.out.below hHeld)
  replace O29 := Lib.hid (O29.out.below hHeld)
  replace O37 := Lib.hid (O37.out.below hHeld)
  clear ox
  go_wp2_with fail
  refine wp_region_held_drew (S := (fun w' => Below w42.heap.size w42 w')) (by kernel_rfl) ?_ (fun hHeld => ?_)
  · exact below_drew (Below.refl _ _)
  refine wpAnyH_take (i := 0) (oi := _) (v := ?vg20) rfl (by kernel_rfl) (by kernel_rfl) (by kernel_rfl) (fun _ _ _ h => h) (Or.inl ⟨by rfl, ?hyg20⟩) (by assumption) ?restg20
  case hyg20 => (intro w hSw; (try dsimp only at hSw); go_simp; first | done | rfl)
  try simp only [List.getElem_toArray, List.getElem_cons_succ, List.getElem_cons_zero, Act.put, List.setIfInBounds_toArray, List.set_cons_zero, List.set_cons_succ]
  refine wpAnyH_take (i := 2) (oi := _) (v := ?vg22) rfl (by kernel_rfl) (by kernel_rfl) (by kernel_rfl) (fun _ _ _ h => h) (Or.inl ⟨by rfl, ?hyg22⟩) (by assumption) ?restg22
  case hyg22 => (intro w hSw; (try dsimp only at hSw); obtain ⟨s0, s1⟩ := Q (hbT BW hSw); go_simp; first | done | rfl)
  try simp only [List.getElem_toArray, List.getElem_cons_succ, List.getElem_cons_zero, Act.put, List.setIfInBounds_toArray, List.set_cons_zero, List.set_cons_succ]
  refine wpAnyH_ready (rs := [1]) (by kernel_rfl) (by simp) ?_
  refine AllReadyH.cons (o := _) rfl (fun K hK => ?_) AllReadyH.nil
  simp only [List.getElem_toArray, List.getElem_cons_succ, List.getElem_cons_zero]
  go_simp
  go_at_call 21
  refine (lwCopied A' c' m _ (by omega) (HO'.out.below (fin (hbT BW (by assumption))))).mono ?_
  rintro e w' ⟨ax, cx, rfl, ox, hbq⟩
  refine hK.out _ _ (hbT (by assumption) hbq) (fun hHeld => ?_)
  clear hK K
  try simp only [List.getElem_toArray, List.getElem_cons_succ, List.getElem_cons_zero, Act.put, List.setIfInBounds_toArray, List.set_cons_zero, List.set_cons_succ]
  refine wpAnyH_ready (rs := [3]) (by kernel_rfl) (by simp) ?_
  refine AllReadyH.cons (o := _) rfl (fun K hK => ?_) AllReadyH.nil
  simp only [List.getElem_toArray, List.getElem_cons_succ, List.getElem_cons_zero]
  go_simp
  go_at_call 42
  refine (netDegreeOk ax cx m x y d3 _ G3.out (by omega) HM.out HK.out ox).mono ?_
  rintro e w43 ⟨rfl, hbq⟩
  refine hK.out _ _ (hbT (by assumption) hbq) (fun hHeld => ?_)
  clear hK K
  try simp only [List.getElem_toArray, List.getElem_cons_succ, List.getElem_cons_zero, Act.put, List.setIfInBounds_toArray, List.set_cons_zero, List.set_cons_succ]
  refine wpAnyH_take (i := 4) (oi := _) (v := ?vg24) rfl (by kernel_rfl) (by kernel_rfl) (by kernel_rfl) (fun _ _ _ h => h) (Or.inl ⟨by rfl, ?hyg24⟩) (by assumption) ?restg24
  case hyg24 => (intro w hSw; (try dsimp only at hSw); go_simp; first | done | rfl)
  try simp only [List.getElem_toArray, List.getElem_cons_succ, List.getElem_cons_zero, Act.put, List.setIfInBounds_toArray, List.set_cons_zero, List.set_cons_succ]
  refine wpAnyH_take (i := 5) (oi := _) (v := ?vg25) rfl (by kernel_rfl) (by kernel_rfl) (by kernel_rfl) (fun _ _ _ h => h) (Or.inl ⟨by rfl, ?hyg25⟩) (by assumption) ?restg25
  case hyg25 => (intro w hSw; (try dsimp only at hSw); go_simp; first | done | rfl)
  try simp only [List.getElem_toArray, List.getElem_cons_succ, List.getElem_cons_zero, Act.put, List.setIfInBounds_toArray, List.set_cons_zero, List.set_cons_succ]
  refine wpAnyH_take (i := 6) (oi := _) (v := ?vg26) rfl (by kernel_rfl) (by kernel_rfl) (by kernel_rfl) (fun _ _ _ h => h) (Or.inl ⟨by rfl, ?hyg26⟩) (by assumption) ?restg26
  case hyg26 => (intro w hSw; (try dsimp only at hSw); go_simp; first | done | rfl)
  try simp only [List.getElem_toArray, List.getElem_cons_succ, List.getElem_cons_zero, Act.put, List.setIfInBounds_toArray, List.set_cons_zero, List.set_cons_succ]
  refine wpAnyH_take (i := 7) (oi := _) (v := ?vg27) rfl (by kernel_rfl) (by kernel_rfl) (by kernel_rfl) (fun _ _ _ h => h) (Or.inl ⟨by rfl, ?hyg27⟩) (by assumption) ?restg27
  case hyg27 => (intro w hSw; (try dsimp only at hSw); go_simp; first | done | rfl)
  try simp only [List.getElem_toArray, List.getElem_cons_succ, List.getElem_cons_zero, Act.put, List.setIfInBounds_toArray, List.set_cons_zero, List.set_cons_succ]
  refine wpAnyH_take (i := 8) (oi := _) (v := ?vg28) rfl (by kernel_rfl) (by kernel_rfl) (by kernel_rfl) (fun _ _ _ h => h) (Or.inl ⟨by rfl, ?hyg28⟩) (by assumption) ?restg28
  case hyg28 => (intro w hSw; (try dsimp only at hSw); go_simp; first | done | rfl)
  try simp only [List.getElem_toArray, List.getElem_cons_succ, List.getElem_cons_zero, Act.put, List.setIfInBounds_toArray, List.set_cons_zero, List.set_cons_succ]
  refine wpAnyH_done (by kernel_rfl) ?_ _
  replace BW := hbT BW hHeld
  replace O17 := Lib.hid (O17.out.below hHeld)
  replace O23 := Lib.hid (O23.out.below hHeld)
  replace O29 := Lib.hid (O29.out.below hHeld)
  replace O37 := Lib.hid (O37.out.below hHeld)
  clear ox
  go_wp2_with fail
  refine wp_region_held_drew (S := (fun w' => Below w43.heap.size w43 w')) (by kernel_rfl) ?_ (fun hHeld => ?_)
  · exact below_drew (Below.refl _ _)
  refine wpAnyH_take (i := 0) (oi := _) (v := ?vg30) rfl (by kernel_rfl) (by kernel_rfl) (by kernel_rfl) (fun _ _ _ h => h) (Or.inl ⟨by rfl, ?hyg30⟩) (by assumption) ?restg30
  case hyg30 => (intro w hSw; (try dsimp only at hSw); go_simp; first | done | rfl)
  try simp only [List.getElem_toArray, List.getElem_cons_succ, List.getElem_cons_zero, Act.put, List.setIfInBounds_toArray, List.set_cons_zero, List.set_cons_succ]
  refine wpAnyH_take (i := 2) (oi := _) (v := ?vg32) rfl (by kernel_rfl) (by kernel_rfl) (by kernel_rfl) (fun _ _ _ h => h) (Or.inl ⟨by rfl, ?hyg32⟩) (by assumption) ?restg32
  case hyg32 => (intro w hSw; (try dsimp only at hSw); obtain ⟨s0, s1⟩ := Q (hbT BW hSw); go_simp; first | done | rfl)
  try simp only [List.getElem_toArray, List.getElem_cons_succ, List.getElem_cons_zero, Act.put, List.setIfInBounds_toArray, List.set_cons_zero, List.set_cons_succ]
  refine wpAnyH_ready (rs := [1]) (by kernel_rfl) (by simp) ?_
  refine AllReadyH.cons (o := _) rfl (fun K hK => ?_) AllReadyH.nil
  simp only [List.getElem_toArray, List.getElem_cons_succ, List.getElem_cons_zero]
  go_simp
  go_at_call 21
  refine (lwCopied a23 c23 t _ (by omega) (O23.out.below (by assumption))).mono ?_
  rintro e w' ⟨ax, cx, rfl, ox, hbq⟩
  refine hK.out _ _ (hbT (by assumption) hbq) (fun hHeld => ?_)
  clear hK K
  try simp only [List.getElem_toArray, List.getElem_cons_succ, List.getElem_cons_zero, Act.put, List.setIfInBounds_toArray, List.set_cons_zero, List.set_cons_succ]
  refine wpAnyH_ready (rs := [3]) (by kernel_rfl) (by simp) ?_
  refine AllReadyH.cons (o := _) rfl (fun K hK => ?_) AllReadyH.nil
  simp only [List.getElem_toArray, List.getElem_cons_succ, List.getElem_cons_zero]
  go_simp
  go_at_call 42
  refine (netDegreeOk ax cx t x y d4 _ G4.out (by omega) NT.out HK.out ox).mono ?_
  rintro e w44 ⟨rfl, hbq⟩
  refine hK.out _ _ (hbT (by assumption) hbq) (fun hHeld => ?_)
  clear hK K
  try simp only [List.getElem_toArray, List.getElem_cons_succ, List.getElem_cons_zero, Act.put, List.setIfInBounds_toArray, List.set_cons_zero, List.set_cons_succ]
  refine wpAnyH_take (i := 4) (oi := _) (v := ?vg34) rfl (by kernel_rfl) (by kernel_rfl) (by kernel_rfl) (fun _ _ _ h => h) (Or.inl ⟨by rfl, ?hyg34⟩) (by assumption) ?restg34
  case hyg34 => (intro w hSw; (try dsimp only at hSw); go_simp; first | done | rfl)
  try simp only [List.getElem_toArray, List.getElem_cons_succ, List.getElem_cons_zero, Act.put, List.setIfInBounds_toArray, List.set_cons_zero, List.set_cons_succ]
  refine wpAnyH_take (i := 5) (oi := _) (v := ?vg35) rfl (by kernel_rfl) (by kernel_rfl) (by kernel_rfl) (fun _ _ _ h => h) (Or.inl ⟨by rfl, ?hyg35⟩) (by assumption) ?restg35
  case hyg35 => (intro w hSw; (try dsimp only at hSw); go_simp; first | done | rfl)
  try simp only [List.getElem_toArray, List.getElem_cons_succ, List.getElem_cons_zero, Act.put, List.setIfInBounds_toArray, List.set_cons_zero, List.set_cons_succ]
  refine wpAnyH_take (i := 6) (oi := _) (v := ?vg36) rfl (by kernel_rfl) (by kernel_rfl) (by kernel_rfl) (fun _ _ _ h => h) (Or.inl ⟨by rfl, ?hyg36⟩) (by assumption) ?restg36
  case hyg36 => (intro w hSw; (try dsimp only at hSw); go_simp; first | done | rfl)
  try simp only [List.getElem_toArray, List.getElem_cons_succ, List.getElem_cons_zero, Act.put, List.setIfInBounds_toArray, List.set_cons_zero, List.set_cons_succ]
  refine wpAnyH_take (i := 7) (oi := _) (v := ?vg37) rfl (by kernel_rfl) (by kernel_rfl) (by kernel_rfl) (fun _ _ _ h => h) (Or.inl ⟨by rfl, ?hyg37⟩) (by assumption) ?restg37
  case hyg37 => (intro w hSw; (try dsimp only at hSw); go_simp; first | done | rfl)
  try simp only [List.getElem_toArray, List.getElem_cons_succ, List.getElem_cons_zero, Act.put, List.setIfInBounds_toArray, List.set_cons_zero, List.set_cons_succ]
  refine wpAnyH_take (i := 8) (oi := _) (v := ?vg38) rfl (by kernel_rfl) (by kernel_rfl) (by kernel_rfl) (fun _ _ _ h => h) (Or.inl ⟨by rfl, ?hyg38⟩) (by assumption) ?restg38
  case hyg38 => (intro w hSw; (try dsimp only at hSw); go_simp; first | done | rfl)
  try simp only [List.getElem_toArray, List.getElem_cons_succ, List.getElem_cons_zero, Act.put, List.setIfInBounds_toArray, List.set_cons_zero, List.set_cons_succ]
  refine wpAnyH_done (by kernel_rfl) ?_ _
  replace BW := hbT BW hHeld
  replace O17 := Lib.hid (O17.out.below hHeld)
  replace O23 := Lib.hid (O23.out.below hHeld)
  replace O29 := Lib.hid (O29.out.below hHeld)
  replace O37 := Lib.hid (O37.out.below hHeld)
  clear ox
  go_wp2_with fail
  refine (refSameNet a37 A c37 c l _ (by omega) O37.out.2.2.2 (HO.out.below (fin BW)).2.2.2).mono ?_
  rintro e w45 ⟨rfl, hb45⟩
  replace BW := hbT BW hb45
  replace O17 := Lib.hid (O17.out.below hb45)
  replace O23 := Lib.hid (O23.out.below hb45)
  replace O29 := Lib.hid (O29.out.below hb45)
  replace O37 := Lib.hid (O37.out.below hb45)
  clear hb45
  go_wp2
  go_ret
  exact ⟨rfl, fin BW⟩
theorem lawAlgebra (A : Option Addr) (c : Nat) (l : List Bar) (A' : Option Addr) (c' : Nat) (m : List Bar) (x y : Int) (w : World) (hL : LaidLen w) (hO : OKS w A c l) (hO' : OKS w A' c' m) :
    Calls Tryz.prog 13 #[.slice A l.length c, .slice A' m.length c', .agg #[.int .i64 x, .int .i64 y]] w fun e w' => e = .returned (.bool true) ∧ Below w.heap.size w w' := by
  by_cases h1 : (30 : Int) < (l.length : Int)
  · exact lawAlg1 A A' c c' l m x y w hL hO hO' h1
  by_cases h2 : (30 : Int) < (m.length : Int)
  · exact lawAlg2 A A' c c' l m x y w hL hO hO' h1 h2
  by_cases hn : netE l = 0
  · by_cases hm : netE m = 0
    · by_cases hk : knotE x y = 0
      · obtain ⟨-, hN⟩ := (netE_zero l).1 hn
        obtain ⟨-, hM⟩ := (netE_zero m).1 hm
        have ul := mergeU_length l m
        have tl := meet_le hN hM
        have vl := minus_le hN hM
        have cnt : ∀ (q : List Bar), q.length ≤ 60 → (ends q).count ⟨x, y⟩ ≤ 8000 := fun q hq => by
          have h3 := List.count_le_length (a := (⟨x, y⟩ : Knot)) (l := ends q)
          have h4 := ends_length q
          omega
        exact lawAlgM A A' c c' l m x y w hL hO hO' h1 h2 hN hM hk _ _ _ _ _ _ _ rfl (union_comm hN hM) rfl (meet_comm hN hM) rfl (back_eq hN hM) (none_eq hN hM) (mergeU_net hN hM) (meet_net hN hM) (minus_net hN hM) (by omega) (by omega) (by omega) (len_split l m) rfl rfl rfl rfl (deg_split _ l m) (cnt _ (by omega)) (cnt _ (by omega)) (cnt _ (by omega)) (cnt _ (by omega))
      · exact lawAlg5 A A' c c' l m x y w hL hO hO' h1 h2 _ rfl hn _ rfl hm _ rfl hk
    · exact lawAlg4 A A' c c' l m x y w hL hO hO' h1 h2 _ rfl hn _ rfl hm
  · exact lawAlg3 A A' c c' l m x y w hL hO hO' h1 h2 _ rfl hn
end Go.Proofs.YtdeplhihcifmeaaGreatDoor

/- A knot as an argument. -/
namespace Go.Proofs.YtdeplhihcifmeaaGreatDoor
open Go.ChangeShapes Go.WideShapes Go.ChangeAt Go.WideMaps Go.WideElems Go.RowKit

set_option maxRecDepth 100000 in
theorem open_knot {w : World} {r : Reach} {b0 : Nat} {v : Value} (h : Value.okWide Tryz.prog w r b0 26 v) : ∃ x y, v = .agg #[.int .i64 x, .int .i64 y] := by
  have hS : Tryz.prog.underlying 26 = some (.struct (Tryz.prog.fieldsOf 26)) := by kernel_rfl
  have hC : Tryz.prog.cellsOf 26 = 2 := by kernel_rfl
  simp only [Value.okWide, hS] at h
  obtain ⟨cs, rfl, hsz, hr⟩ := h
  rw [hC] at hsz
  obtain ⟨ts, hts, -, hrow⟩ := hr
  have ht : Tryz.prog.cellTypes Tryz.prog.depth 26 = some [3, 3] := by kernel_rfl
  rw [ht] at hts
  cases hts
  obtain ⟨l⟩ := cs
  match l, hsz with
  | [c0, c1], _ =>
    obtain ⟨u0, hu0, h0⟩ := hrow 0 c0 rfl
    obtain ⟨u1, hu1, h1⟩ := hrow 1 c1 rfl
    simp at hu0 hu1
    subst hu0 hu1
    obtain ⟨a, rfl, -⟩ := cell_intT Tryz.underlying3 h0
    obtain ⟨b, rfl, -⟩ := cell_intT Tryz.underlying3 h1
    exact ⟨a, b, rfl⟩
end Go.Proofs.YtdeplhihcifmeaaGreatDoor

/- An argument that is a list of bars, opened. -/
namespace Go.Proofs.YtdeplhihcifmeaaGreatDoor
open Go.ChangeShapes Go.WideShapes Go.ChangeAt Go.RowKit Go.Deep

variable {H : Type} {enc : TypeId × Value → H} {w : World} {spare : Nat → Bool} {held : Bool}
set_option maxRecDepth 100000 in
theorem bar_cells {n : Nat} {cs : List Value} {x : DataW H × List MemPlace} (h : DataW.trod enc Tryz.prog w 0 spare held n 24 cs = some x) : ∃ b : Ck.Bar, cs = bcells b := by
  obtain ⟨xs, m, _, _, hl, hx, hf⟩ := DataW.trod_struct Tryz.underlying24 h
  have hC : Tryz.prog.cellsOf 24 = 3 := by kernel_rfl
  have c3 : Tryz.prog.cellsOf 3 = 1 := by kernel_rfl
  rw [hC] at hl
  match cs, hl, xs, hx with
  | [c0, c1, c2], _, [x0, x1, x2], _ =>
    have h0 := hf 0 _ rfl
    have h1 := hf 1 _ rfl
    have h2 := hf 2 _ rfl
    simp [c3] at h0 h1 h2
    obtain ⟨n0, e0, _⟩ := DataW.trod_int Tryz.underlying3 h0
    obtain ⟨n1, e1, _⟩ := DataW.trod_int Tryz.underlying3 h1
    obtain ⟨n2, e2, _⟩ := DataW.trod_int Tryz.underlying3 h2
    simp only [List.cons.injEq, and_true] at e0 e1 e2
    exact ⟨⟨n0, n1, n2⟩, by rw [e0, e1, e2]; rfl⟩
set_option maxRecDepth 100000 in
/-- The argument is nil, or a slice that reads as bars. -/
theorem open_bars {v : Value} {d : DataW H} {p : List MemPlace} {r : Reach} {b0 : Nat} (hv : Value.okWide Tryz.prog w r b0 22 v) (h : DataW.Trod enc Tryz.prog w 0 spare held 22 v d p) (_ : ∀ x ∈ p, x.block < w.heap.size) :
    ∃ (A : Option Addr) (c : Nat) (l : List Ck.Bar), v = .slice A l.length c ∧ (A = none → c = 0) ∧ l.length ≤ c ∧ c ≤ maxLen ∧ RB w w.heap.size A l := by
  obtain ⟨a, len, cap, rfl⟩ := okWide_slice Tryz.underlying22 hv
  obtain ⟨fuel, hf⟩ := h
  have hC : Tryz.prog.cellsOf 24 = 3 := by kernel_rfl
  rcases open_slice Tryz.underlying22 hf with ⟨hcs, _⟩ | ⟨a', len', cap', m, n, D, Pl, hcs, hb, hl, hm, hmm, hx, hi⟩
  · simp [Value.cells] at hcs
    obtain ⟨rfl, rfl, rfl⟩ := hcs
    exact ⟨none, 0, [], rfl, fun _ => rfl, Nat.zero_le _, by unfold maxLen; omega, fun h => by simp at h⟩
  · simp [Value.cells] at hcs
    obtain ⟨rfl, rfl, rfl⟩ := hcs
    rw [hC] at hi hx
    have hle : len ≤ m := by rw [hmm]; split <;> omega
    have each : ∀ i, ∃ b : Ck.Bar, i < len → w.cell? (a'.add (i * 3)) = some (.int .i64 b.x) ∧ w.cell? ((a'.add (i * 3)).add 1) = some (.int .i64 b.y) ∧ w.cell? ((a'.add (i * 3)).add 2) = some (.int .i64 b.s) := fun i => by
      by_cases hi' : i < len
      · obtain ⟨cs', h1, h2⟩ := hi i (by omega)
        obtain ⟨b, rfl⟩ := bar_cells h2
        obtain ⟨_, _, h3⟩ := World.cells?_some h1
        exact ⟨b, fun _ => ⟨h3 0 (by omega), h3 1 (by omega), h3 2 (by omega)⟩⟩
      · exact ⟨⟨0, 0, 0⟩, fun h => absurd h hi'⟩
    obtain ⟨f, hf'⟩ := Classical.axiomOfChoice each
    have hlen : ((List.range len).map f).length = len := by simp
    refine ⟨some a', cap, (List.range len).map f, by rw [hlen], (fun h => by cases h), by rw [hlen]; exact hl, hm, fun hpos => ?_⟩
    rw [hlen] at hpos
    obtain ⟨blk, off, spot⟩ := a'
    have h0 := (hf' 0 hpos).1
    have hspot : spot = none := by
      cases spot with
      | none => rfl
      | some s =>
        simp [Addr.add, World.cell?] at h0
        split at h0 <;> simp at h0
    subst hspot
    have hadd : ∀ k, (⟨blk, off, none⟩ : Addr).add k = ⟨blk, off + k, none⟩ := fun k => by
      unfold Addr.add
      split
      · simp
      · rfl
    have hblk : blk < w.heap.size := by
      rw [hadd] at h0
      unfold World.cell? at h0
      cases hh : w.heap[blk]? with
      | none => simp [hh] at h0
      | some o => exact (Array.getElem?_eq_some_iff.1 hh).1
    refine ⟨blk, off, rfl, hblk, fun i hi' => ?_⟩
    rw [hlen] at hi'
    obtain ⟨k0, k1, k2⟩ := hf' i hi'
    rw [hadd] at k0 k1 k2
    have hadd2 : ∀ k j, (⟨blk, k, none⟩ : Addr).add j = ⟨blk, k + j, none⟩ := fun k j => by
      unfold Addr.add
      split
      · simp
      · rfl
    rw [hadd2] at k1 k2
    have hg : ((List.range len).map f)[i]'(by simpa using hi') = f i := by simp
    rw [hg]
    exact ⟨k0, k1, k2⟩
end Go.Proofs.YtdeplhihcifmeaaGreatDoor
