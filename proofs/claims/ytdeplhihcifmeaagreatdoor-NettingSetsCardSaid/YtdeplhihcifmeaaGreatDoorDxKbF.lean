/- Helpers: DxKbF. -/
import Derived.Test.YtdeplhihcifmeaaGreatDoorD7
import Derived.Deep.RegionHeld3
/- What the laws of netting's lists begin with: short lists, copies, the checks at every length. -/
namespace Go.Proofs.YtdeplhihcifmeaaGreatDoor
open Go.RowKit Ck

set_option maxHeartbeats 400000 in
theorem refShortYes (A : Option Addr) (c n : Nat) (k : Int) (w : World) (_ : n ≤ maxLen) (h : (n : Int) ≤ k) :
    Calls Tryz.prog 16 #[.slice A n c, .int .i64 k] w fun e w' => e = .returned (.bool true) ∧ w = w' := by
  go_enter Tryz.func16, Tryz.ntmps16
  go_wp2
  go_ret
  exact ⟨rfl, rfl⟩
set_option maxHeartbeats 400000 in
theorem refShortLong (A : Option Addr) (c n : Nat) (k : Int) (w : World) (_ : n ≤ maxLen) (h : ¬ (n : Int) ≤ k) (h1 : 4096 < (n : Int)) (h2 : (n : Int) ≤ 4098) :
    Calls Tryz.prog 16 #[.slice A n c, .int .i64 k] w fun e w' => e = .returned (.bool true) ∧ w = w' := by
  go_enter Tryz.func16, Tryz.ntmps16
  go_wp2
  go_ret
  exact ⟨by simp, rfl⟩
set_option maxHeartbeats 400000 in
theorem refShortNo1 (A : Option Addr) (c n : Nat) (k : Int) (w : World) (_ : n ≤ maxLen) (h : ¬ (n : Int) ≤ k) (h1 : ¬ 4096 < (n : Int)) :
    Calls Tryz.prog 16 #[.slice A n c, .int .i64 k] w fun e w' => e = .returned (.bool false) ∧ w = w' := by
  go_enter Tryz.func16, Tryz.ntmps16
  go_wp2
  go_ret
  exact ⟨rfl, rfl⟩
set_option maxHeartbeats 400000 in
theorem refShortNo2 (A : Option Addr) (c n : Nat) (k : Int) (w : World) (_ : n ≤ maxLen) (h : ¬ (n : Int) ≤ k) (h1 : 4096 < (n : Int)) (h2 : ¬ (n : Int) ≤ 4098) :
    Calls Tryz.prog 16 #[.slice A n c, .int .i64 k] w fun e w' => e = .returned (.bool false) ∧ w = w' := by
  go_enter Tryz.func16, Tryz.ntmps16
  go_wp2
  go_ret
  exact ⟨by simp, rfl⟩
set_option maxHeartbeats 2000000 in
set_option maxRecDepth 100000 in
theorem lwCopied1 (A : Option Addr) (c : Nat) (l : List Ck.Bar) (w : World) (hl : l.length ≤ 4098) (hne : 0 < l.length) (h : RB w w.heap.size A l) :
    Calls Tryz.prog 21 #[.slice A l.length c] w (CopyPost l w) := by
  obtain ⟨ib, hib, hb0, hb01, hb02⟩ := info_parts Tryz.info24
  obtain ⟨b, off, rfl, hB, _⟩ := h hne
  have HR := Lib.hid h
  clear h
  go_enter Tryz.func21, Tryz.ntmps21
  go_wp2_with (at_builtin; refine wpList_append_own _ rfl _ _ 22 rfl w.heap.size 24 ib (.agg #[.int .i64 0, .int .i64 0, .int .i64 0]) 3 24 Tryz.underlying22 hib hb0 hb01 hb02 rfl (by decide) _ _ _ rfl (by exact empty_row _ _ (Nat.le_refl _) _ _) ⟨b, off, none⟩ l.length c (bcellsL l) rfl (bcellsL_length l) ?c1 (bcellsL_one l) ?c3 ?c4 ?c5 ?_)
  case c1 => exact (HR.out.below ((Below.refl _ _).alloc (Nat.le_refl _) _)).news hne
  case c3 => unfold maxLen; omega
  case c4 => omega
  case c5 => simp
  intro v' w4 hown4 hgrow4 _
  have HO := Lib.hid hown4
  have hq := ((Below.refl w.heap.size w).alloc (Nat.le_refl _) (.cells #[] 24)).grown hgrow4 (by simp) (ownsRow_base (empty_row w w.heap.size (Nat.le_refl _) 24 3))
  clear hown4 hgrow4
  go_wp2
  go_ret
  exact ⟨_, rfl, by simpa using HO.out, hq⟩
set_option maxHeartbeats 2000000 in
set_option maxRecDepth 100000 in
theorem lwCopied0 (A : Option Addr) (c : Nat) (w : World) (hA : A = none → c = 0) :
    Calls Tryz.prog 21 #[.slice A 0 c] w (CopyPost [] w) := by
  obtain ⟨ib, hib, hb0, hb01, hb02⟩ := info_parts Tryz.info24
  rcases A with _ | ad
  · obtain rfl := hA rfl
    go_enter Tryz.func21, Tryz.ntmps21
    go_wp2_with (at_builtin; refine wpList_append_own_none rfl _ _ 22 rfl w.heap.size 24 ib 3 Tryz.underlying22 hib _ _ _ rfl (by exact empty_row _ _ (Nat.le_refl _) _ _) rfl ?_)
    go_ret
    exact ⟨_, rfl, empty_row _ _ (Nat.le_refl _) _ _, (Below.refl _ _).alloc (Nat.le_refl _) _⟩
  · clear hA
    go_enter Tryz.func21, Tryz.ntmps21
    go_wp2_with (at_builtin; refine wpList_append_own _ rfl _ _ 22 rfl w.heap.size 24 ib (.agg #[.int .i64 0, .int .i64 0, .int .i64 0]) 3 24 Tryz.underlying22 hib hb0 hb01 hb02 rfl (by decide) _ _ _ rfl (by exact empty_row _ _ (Nat.le_refl _) _ _) ad 0 c [] rfl rfl ?c1 ?c2 ?c3 ?c4 ?c5 ?_)
    case c1 => intro j u h; simp at h
    case c2 => intro u h; simp at h
    case c3 => unfold maxLen; omega
    case c4 => omega
    case c5 => simp
    intro v' w4 hown4 hgrow4 _
    have HO := Lib.hid hown4
    have hq := ((Below.refl w.heap.size w).alloc (Nat.le_refl _) (.cells #[] 24)).grown hgrow4 (by simp) (ownsRow_base (empty_row w w.heap.size (Nat.le_refl _) 24 3))
    clear hown4 hgrow4
    go_wp2
    go_ret
    exact ⟨v', rfl, HO.out, hq⟩
/-- copied: a slice with the same bars that is the call's own. -/
theorem lwCopied (A : Option Addr) (c : Nat) (l : List Ck.Bar) (w : World) (hl : l.length ≤ 4098) (h : OKS w A c l) :
    Calls Tryz.prog 21 #[.slice A l.length c] w (SlicePost l w) := by
  have key : Calls Tryz.prog 21 #[.slice A l.length c] w (CopyPost l w) := by
    match l, hl, h with
    | [], _, h => exact lwCopied0 A c w h.2.2.1
    | a :: r, hl, h => exact lwCopied1 A c (a :: r) w hl (by simp) h.2.2.2
  refine key.mono ?_
  rintro e w1 ⟨v, rfl, hown, hb⟩
  obtain ⟨a, c', rfl, ho⟩ := own_oks hown
  exact ⟨a, c', rfl, ho, hb⟩
theorem netE_long {l : List Ck.Bar} (h : 4096 < l.length) : netE l = 5 := by rw [netE, if_pos h]
set_option maxHeartbeats 400000 in
theorem netCheckNetL (A : Option Addr) (c n : Nat) (w : World) (hm : n ≤ maxLen) (h : 4096 < n) :
    Calls Tryz.prog 20 #[.slice A n c] w fun e w' => e = .returned (.int .i64 5) ∧ w = w' := by
  unfold maxLen at hm
  have h1 : (4096 : Int) < (n : Int) := by omega
  go_enter Tryz.func20, Tryz.ntmps20
  go_wp2
  go_ret
  exact ⟨rfl, rfl⟩
set_option maxHeartbeats 400000 in
theorem refCheckNetL (A : Option Addr) (c n : Nat) (w : World) (hm : n ≤ maxLen) (h : 4096 < n) :
    Calls Tryz.prog 17 #[.slice A n c] w fun e w' => e = .returned (.int .i64 5) ∧ w = w' := by
  unfold maxLen at hm
  have h1 : (4096 : Int) < (n : Int) := by omega
  go_enter Tryz.func17, Tryz.ntmps17
  go_wp2
  go_ret
  exact ⟨rfl, rfl⟩
theorem netCheckNetA (A : Option Addr) (c : Nat) (l : List Ck.Bar) (w : World) (h : OKS w A c l) :
    Calls Tryz.prog 20 #[.slice A l.length c] w fun e w' => e = .returned (.int .i64 (netE l)) ∧ Below w.heap.size w w' := by
  by_cases hl : l.length ≤ 4096
  · exact netCheckNet A c l w hl h.1 h.2.1 h.2.2.2
  · rw [netE_long (by omega)]
    exact (netCheckNetL A c l.length w (Nat.le_trans h.1 h.2.1) (by omega)).mono fun e w' ⟨h1, h2⟩ => ⟨h1, h2 ▸ Below.refl _ _⟩
theorem refCheckNetA (A : Option Addr) (c : Nat) (l : List Ck.Bar) (w : World) (h : OKS w A c l) :
    Calls Tryz.prog 17 #[.slice A l.length c] w fun e w' => e = .returned (.int .i64 (netE l)) ∧ Below w.heap.size w w' := by
  by_cases hl : l.length ≤ 4096
  · exact refCheckNet A c l w hl h.2.2.2
  · rw [netE_long (by omega)]
    exact (refCheckNetL A c l.length w (Nat.le_trans h.1 h.2.1) (by omega)).mono fun e w' ⟨h1, h2⟩ => ⟨h1, h2 ▸ Below.refl _ _⟩
end Go.Proofs.YtdeplhihcifmeaaGreatDoor

/- Equality of bars, and the reference's Has. -/
namespace Go.Proofs.YtdeplhihcifmeaaGreatDoor
open Go.RowKit Ck

theorem eqBar' (a b : Ck.Bar) (r : Bool) (hr : decide (a = b) = r) (w : World) :
    (Op.equalIn 10000 24 (.agg #[.int .i64 a.x, .int .i64 a.y, .int .i64 a.s]) (.agg #[.int .i64 b.x, .int .i64 b.y, .int .i64 b.s])).run Tryz.prog w = .ok r w := by
  have u3 := Tryz.underlying3
  have a3 := Tryz.isAgg3
  have z3 := Tryz.sizeOf3
  have hS : Tryz.prog.underlying 24 = some (.struct (Tryz.prog.fieldsOf 24)) := by kernel_rfl
  have hp : Tryz.prog.stoodInHeld 24 = false := by kernel_rfl
  subst hr
  have he : (a = b) = (a.x = b.x ∧ a.y = b.y ∧ a.s = b.s) := propext ⟨fun h => by subst h; exact ⟨rfl, rfl, rfl⟩, fun ⟨h1, h2, h3⟩ => Bar.ext' h1 h2 h3⟩
  rw [show (10000 : Nat) = 9999 + 1 from rfl, run_equalIn_struct w 9999 24 _ _ hS hp]
  simp only [Program.fieldsOf, Tryz.underlying24, he]
  go_simp
  by_cases h1 : a.x = b.x <;> by_cases h2 : a.y = b.y <;> by_cases h3 : a.s = b.s <;> simp [h1, h2, h3]
theorem guardBar : Tryz.prog.eqGuardType Tryz.prog.depth 24 = false := by kernel_rfl
set_option maxHeartbeats 2000000 in
set_option maxRecDepth 100000 in
theorem refHasBar (A : Option Addr) (c : Nat) (l : List Ck.Bar) (k : Ck.Bar) (w : World) (hl : l.length ≤ 10000) (h : RB w w.heap.size A l) :
    Calls Tryz.prog 31 #[.slice A l.length c, .agg #[.int .i64 k.x, .int .i64 k.y, .int .i64 k.s]] w fun e w' => e = .returned (.bool (decide (k ∈ l))) ∧ Below w.heap.size w w' := by
  have HR := Lib.hid h
  have hl' : (l.length : Int) ≤ 10000 := by omega
  have hgd := guardBar
  clear h
  go_enter Tryz.func31, Tryz.ntmps31
  go_wp2_with fail
  go_loopw [5] (fun i wi => ∃ j : Nat, j ≤ l.length ∧ i = .int .i64 j ∧ Hid (∀ q (hq : q < l.length), q < j → l[q] ≠ k) ∧ wi.cell? ⟨w.heap.size, 0, none⟩ = some (.int .i64 k.x) ∧ wi.cell? ⟨w.heap.size, 1, none⟩ = some (.int .i64 k.y) ∧ wi.cell? ⟨w.heap.size, 2, none⟩ = some (.int .i64 k.s) ∧ Below w.heap.size w wi) (fun i _ => l.length - (intOf i).toNat)
  case atStart =>
    obtain ⟨w1, hw1, e0, e1, e2, hb1, hz1⟩ := box3 w (.int .i64 k.x) (.int .i64 k.y) (.int .i64 k.s) 24
    rw [← hw1]
    exact ⟨0, Nat.zero_le _, rfl, fun q _ h => by omega, e0, e1, e2, hb1⟩
  case round =>
    obtain ⟨j, hj, rfl, hno, e0, e1, e2, hb⟩ := hrel
    by_cases hlt : j < l.length
    · obtain ⟨b, off, rfl, hB, hc⟩ := HR.out.below hb (by omega)
      obtain ⟨c0, c1, c2⟩ := hc j hlt
      have hi0 : (0 : Int) ≤ (j : Int) := by omega
      have hi1 : (j : Int) < (l.length : Int) := by omega
      have hw1 : IntKind.i64.wrap (j : Int) = (j : Int) := by rw [IntKind.wrap_i64]; omega
      clear hc
      by_cases he : l[j] = k
      · have hq := eqBar' l[j] k true (by simpa using he)
        have HF := Lib.hid (show decide (k ∈ l) = true by rw [decide_eq_true_eq, ← he]; exact List.getElem_mem hlt)
        clear he
        go_wp2_with fail
        go_quiet (fail)
        go_wp2
        go_ret
        exact ⟨ret_b HF.out.symm, below_drewN hb _⟩
      · have hq := eqBar' l[j] k false (by simpa using he)
        have HE := Lib.hid he
        clear he
        go_wp2_with fail
        go_quiet (fail)
        go_wp2
        go_roundw
        case rel => exact ⟨j + 1, by omega, by go_num, fun q hq2 hqj => by
          rcases Nat.lt_or_ge q j with h1 | h1
          · exact hno.out q hq2 h1
          · obtain rfl : q = j := by omega
            exact HE.out, e0, e1, e2, below_drewN hb _⟩
        case measure => simp [intOf]; omega
    · obtain rfl : j = l.length := by omega
      have HF := Lib.hid (show decide (k ∈ l) = false by
        rw [decide_eq_false_iff_not]
        intro hm
        obtain ⟨q, hq, e⟩ := List.getElem_of_mem hm
        exact hno.out q hq hq e)
      go_wp2
      go_ret
      exact ⟨ret_b HF.out.symm, hb⟩
end Go.Proofs.YtdeplhihcifmeaaGreatDoor

/- The reference's sheet, column by column, is the sheet: plain mathematics. -/
namespace Go.Proofs.YtdeplhihcifmeaaGreatDoor
open Go.RowKit Go.Shelf Ck

/-- The bars that the reference adds at column t of row j. -/
def cellR (x y : Int) (c j t : Nat) : List Bar := if (t + j) % 2 = 0 then (if 0 < t then [⟨x + t, y + j, -1⟩] else []) ++ (if t < 2 * c then [⟨x + t, y + j, 1⟩] else []) else []
def rowR (x y : Int) (c j t : Nat) : List Bar := (List.range t).flatMap (cellR x y c j)
theorem rowR_succ (x y : Int) (c j t : Nat) : rowR x y c j (t + 1) = rowR x y c j t ++ cellR x y c j t := by simp [rowR, List.range_succ]
theorem cellL_even {x y : Int} {j i : Nat} (h : j % 2 = 0) : cellL x y j i = [⟨x + 2 * (i : Int), y + j, 1⟩, ⟨x + 2 * (i : Int) + 2, y + j, -1⟩] := by
  have : oddB j = false := by simp [oddB]; omega
  simp [cellL, this, cel0, cel1]
theorem cellL_odd {x y : Int} {j i : Nat} (h : j % 2 = 1) : cellL x y j i = [⟨x + 2 * (i : Int) + 1, y + j, -1⟩, ⟨x + 2 * (i : Int) + 1, y + j, 1⟩] := by
  have : oddB j = true := by simp [oddB]; omega
  simp [cellL, this, cel0, cel1]
theorem rowR_even (x y : Int) (c j : Nat) (hj : j % 2 = 0) : ∀ i, i ≤ c → rowR x y c j (2 * i + 1) = rowL x y j i ++ (if i < c then [⟨x + 2 * (i : Int), y + j, 1⟩] else [])
  | 0, _ => by
    rw [rowR_succ, cellR, if_pos (by omega), if_neg (by omega)]
    by_cases h : 0 < c
    · rw [if_pos (by omega), if_pos h]; simp [rowR, rowL]
    · rw [if_neg (by omega), if_neg h]; simp [rowR, rowL]
  | i + 1, hi => by
    rw [show 2 * (i + 1) + 1 = 2 * i + 1 + 1 + 1 from by omega, rowR_succ, rowR_succ, rowR_even x y c j hj i (by omega), if_pos (by omega)]
    have e1 : cellR x y c j (2 * i + 1) = [] := by rw [cellR, if_neg (by omega)]
    have e2 : cellR x y c j (2 * i + 1 + 1) = [⟨x + 2 * (i : Int) + 2, y + j, -1⟩] ++ (if i + 1 < c then [⟨x + 2 * ((i + 1 : Nat) : Int), y + j, 1⟩] else []) := by
      rw [cellR, if_pos (by omega), if_pos (by omega)]
      congr 1
      · congr 2; omega
      · by_cases h : i + 1 < c
        · rw [if_pos (by omega), if_pos h]; congr 2
        · rw [if_neg (by omega), if_neg h]
    rw [e1, e2, rowL_succ, cellL_even hj]
    simp
theorem rowR_odd (x y : Int) (c j : Nat) (hj : j % 2 = 1) : ∀ i, i ≤ c → rowR x y c j (2 * i + 1) = rowL x y j i
  | 0, _ => by
    rw [rowR_succ, cellR, if_neg (by omega)]
    simp [rowR, rowL]
  | i + 1, hi => by
    rw [show 2 * (i + 1) + 1 = 2 * i + 1 + 1 + 1 from by omega, rowR_succ, rowR_succ, rowR_odd x y c j hj i (by omega)]
    have e1 : cellR x y c j (2 * i + 1) = [⟨x + 2 * (i : Int) + 1, y + j, -1⟩, ⟨x + 2 * (i : Int) + 1, y + j, 1⟩] := by
      rw [cellR, if_pos (by omega), if_pos (by omega), if_pos (by omega)]
      simp
      omega
    have e2 : cellR x y c j (2 * i + 1 + 1) = [] := by rw [cellR, if_neg (by omega)]
    rw [e1, e2, rowL_succ, cellL_odd hj]
    simp
theorem rowR_eq (x y : Int) (c j : Nat) : rowR x y c j (2 * c + 1) = rowL x y j c := by
  rcases Nat.mod_two_eq_zero_or_one j with h | h
  · rw [rowR_even x y c j h c (Nat.le_refl _), if_neg (by omega), List.append_nil]
  · exact rowR_odd x y c j h c (Nat.le_refl _)
end Go.Proofs.YtdeplhihcifmeaaGreatDoor

/- The reference's Sheet. -/
namespace Go.Proofs.YtdeplhihcifmeaaGreatDoor
open Go.RowKit Go.Shelf Ck

/-- What the innermost loop has added at column t: none of the two sides yet, the left one, both. -/
def sidR (x y : Int) (c j t s : Nat) : List Bar := if (t + j) % 2 = 0 then (if 0 < t ∧ 0 < s then [⟨x + t, y + j, -1⟩] else []) ++ (if t < 2 * c ∧ 1 < s then [⟨x + t, y + j, 1⟩] else []) else []
theorem sidR_two (x y : Int) (c j t : Nat) : sidR x y c j t 2 = cellR x y c j t := by simp [sidR, cellR]
theorem sidR_zero (x y : Int) (c j t : Nat) : sidR x y c j t 0 = [] := by simp [sidR]
theorem sidR_len (x y : Int) (c j t s : Nat) : (sidR x y c j t s).length ≤ 2 := by
  unfold sidR
  split
  · rw [List.length_append]; split <;> split <;> simp
  · simp
theorem rowR_len (x y : Int) (c j : Nat) : ∀ t, (rowR x y c j t).length ≤ 2 * t
  | 0 => by simp [rowR]
  | t + 1 => by
    rw [rowR_succ, List.length_append, ← sidR_two]
    have := rowR_len x y c j t
    have := sidR_len x y c j t 2
    omega
def cat3 (a b c : List Bar) : List Bar := a ++ b ++ c
theorem even_of {x y : Int} {j t : Nat} (h : (x + y) % 2 = 0) {b : Bool} (hb : decide ((t + j) % 2 = 0) = b) : evenB (x + t) (y + j) = b := by
  subst hb
  unfold evenB
  rw [decide_eq_decide]
  omega
theorem sidR_skip {x y : Int} {c j t s : Nat} (h : (t + j) % 2 ≠ 0 ∨ (s = 0 ∧ t = 0) ∨ (s = 1 ∧ 2 * c ≤ t)) : sidR x y c j t (s + 1) = sidR x y c j t s := by
  unfold sidR
  rcases h with h | ⟨rfl, rfl⟩ | ⟨rfl, h⟩
  · rw [if_neg h, if_neg h]
  · by_cases h2 : (0 + j) % 2 = 0
    · rw [if_pos h2, if_pos h2]; simp
    · rw [if_neg h2, if_neg h2]
  · by_cases h2 : (t + j) % 2 = 0
    · rw [if_pos h2, if_pos h2]
      have : ¬ t < 2 * c := by omega
      simp [this]
    · rw [if_neg h2, if_neg h2]
theorem sidR_add {x y : Int} {c j t s : Nat} (h : (t + j) % 2 = 0) (h2 : (s = 0 ∧ 0 < t) ∨ (s = 1 ∧ t < 2 * c)) : sidR x y c j t (s + 1) = sidR x y c j t s ++ [⟨x + t, y + j, 2 * (s : Int) - 1⟩] := by
  unfold sidR
  rw [if_pos h, if_pos h]
  rcases h2 with ⟨rfl, h2⟩ | ⟨rfl, h2⟩
  · simp [h2]
  · simp [h2]
def ShRow (B : Nat) (v : Value) (l : List Bar) (W : World) : Prop := W.ownsRow B 24 3 v l.length (bcellsL l)
set_option maxHeartbeats 8000000 in
set_option maxRecDepth 100000 in
theorem refSheet (x y : Int) (c r : Nat) (w : World) (hE : sheetE x y c r = 0) :
    Calls Tryz.prog 40 #[.agg #[.int .i64 x, .int .i64 y], .int .i64 c, .int .i64 r] w fun e w' => ∃ v, e = .returned v ∧ w'.ownsRow w.heap.size 24 3 v (sheetP x y c r).length (bcellsL (sheetP x y c r)) ∧ Below w.heap.size w w' := by
  obtain ⟨hs, hm, hf1, hf2⟩ := sheetE_zero hE
  obtain ⟨hk, c1, c2, r1, r2⟩ := sheet1_zero hs
  obtain ⟨x1, x2, y1, y2⟩ := knotE_zero hk
  have hev : (x + y) % 2 = 0 := by
    unfold knotE at hk
    split at hk
    · cases hk
    · split at hk
      · cases hk
      · split at hk
        · rename_i h; simpa [evenB] using h
        · cases hk
  have fx := farB_no hf1
  have fy := farB_no hf2
  have hcn : c ≤ 256 := by omega
  have hrn : r ≤ 256 := by omega
  obtain ⟨ib, hib, hb0, hb01, hb02⟩ := info_parts Tryz.info24
  have HIB := Lib.hid hib
  have HB0 := Lib.hid hb0
  have HB1 := Lib.hid hb01
  have HB2 := Lib.hid hb02
  have HEV := Lib.hid hev
  obtain ⟨w1, hw1, q0, q1, hb1, hz1⟩ := box2 w (.int .i64 x) (.int .i64 y) 26
  have HW1 := Lib.hid hw1
  clear hw1 hE hs hk hf1 hf2 hib hb0 hb01 hb02 hev
  have Q0 : ∀ {W : World}, Below w1.heap.size w1 W → W.cell? ⟨w.heap.size, 0, none⟩ = some (.int .i64 x) := fun hb => (hb.cell (p := ⟨w.heap.size, 0, none⟩) hz1).trans q0
  have Q1 : ∀ {W : World}, Below w1.heap.size w1 W → W.cell? ⟨w.heap.size, 1, none⟩ = some (.int .i64 y) := fun hb => (hb.cell (p := ⟨w.heap.size, 1, none⟩) hz1).trans q1
  have m1 : IntKind.i64.wrap (2 * (c : Int)) = 2 * (c : Int) := by rw [IntKind.wrap_i64]; omega
  have m2 : IntKind.i64.wrap (x + 2 * (c : Int)) = x + 2 * (c : Int) := by rw [IntKind.wrap_i64]; omega
  have m3 : IntKind.i64.wrap (y + (r : Int)) = y + (r : Int) := by rw [IntKind.wrap_i64]; omega
  go_enter Tryz.func40, Tryz.ntmps40
  go_wp2_with fail
  rw [← HW1.out]
  go_wp2_with fail
  go_loopw [7, 8] (fun v yv wr => ∃ j : Nat, j ≤ r ∧ yv = .int .i64 (y + j) ∧ Hid (ShRow w1.heap.size v (sheetP x y c j) wr) ∧ Below w1.heap.size w1 wr) (fun _ yv _ => r - (intOf yv - y).toNat)
  case atStart => exact ⟨0, Nat.zero_le _, by simp, Lib.hid ⟨rfl, .inl ⟨rfl, rfl⟩⟩, Below.refl _ _⟩
  case round =>
    obtain ⟨j, hj, rfl, hown, hb⟩ := hrel
    have p0 := Q0 hb
    have p1 := Q1 hb
    by_cases hlt : j < r
    · have g1 : y + (j : Int) < y + (r : Int) := by omega
      go_wp2_with fail
      go_loopw [7, 9] (fun v xv wi => ∃ t : Nat, t ≤ 2 * c + 1 ∧ xv = .int .i64 (x + t) ∧ Hid (ShRow w1.heap.size v (sheetP x y c j ++ rowR x y c j t) wi) ∧ Below w1.heap.size w1 wi) (fun _ xv _ => 2 * c + 1 - (intOf xv - x).toNat)
      case atStart => exact ⟨0, Nat.zero_le _, by simp, Lib.hid (by simpa [rowR] using hown.out), hb⟩
      case round =>
        obtain ⟨t, ht, rfl, hown2, hb2⟩ := hrel
        have s0 := Q0 hb2
        have s1 := Q1 hb2
        by_cases hlt2 : t < 2 * c + 1
        · have g2 : x + (t : Int) ≤ x + 2 * (c : Int) := by omega
          go_wp2_with fail
          go_loopw [7, 10] (fun v sv wk => ∃ s : Nat, s ≤ 2 ∧ sv = .int .i64 (2 * (s : Int) - 1) ∧ Hid (ShRow w1.heap.size v (sheetP x y c j ++ rowR x y c j t ++ sidR x y c j t s) wk) ∧ Below w1.heap.size w1 wk) (fun _ sv _ => 4 - (intOf sv).toNat)
          case atStart => exact ⟨0, Nat.zero_le _, by simp, Lib.hid (by rw [sidR_zero, List.append_nil]; exact hown2.out), hb2⟩
          case round =>
            obtain ⟨s, hs, rfl, hown3, hb3⟩ := hrel
            have t0 := Q0 hb3
            have t1 := Q1 hb3
            have hbz := hb3.size
            have hlen : (sheetP x y c j ++ rowR x y c j t ++ sidR x y c j t s).length ≤ 200000 := by
              rw [List.length_append, List.length_append, sheetP_length]
              have a1 := rowR_len x y c j t
              have a2 := sidR_len x y c j t s
              have a3 : c * j ≤ 256 * 256 := Nat.mul_le_mul hcn (by omega)
              omega
            generalize hLL : sheetP x y c j ++ rowR x y c j t ++ sidR x y c j t s = L at hown3 hlen
            have HLL := Lib.hid hLL
            clear hLL
            by_cases hlt3 : s < 2
            · have g3 : 2 * (s : Int) - 1 ≤ 1 := by omega
              have n1 : IntKind.i64.wrap (x + (t : Int) + (2 * (s : Int) - 1)) = x + (t : Int) + (2 * (s : Int) - 1) := by rw [IntKind.wrap_i64]; omega
              have n2 : IntKind.i64.wrap (2 * (s : Int) - 1 + 2) = 2 * (s : Int) - 1 + 2 := by rw [IntKind.wrap_i64]; omega
              go_wp2_with fail
              refine (refEven (x + t) (y + j) _ (by omega) (by omega) (by omega) (by omega)).mono ?_
              rintro e w4 ⟨rfl, rfl⟩
              have skip : ∀ (_ : (t + j) % 2 ≠ 0 ∨ (s = 0 ∧ t = 0) ∨ (s = 1 ∧ 2 * c ≤ t)), Hid (sheetP x y c j ++ rowR x y c j t ++ sidR x y c j t (s + 1) = L) := fun h => Lib.hid (by rw [sidR_skip h]; exact HLL.out)
              by_cases hpar : (t + j) % 2 = 0
              · rw [even_of HEV.out (decide_eq_true hpar)]
                by_cases h4 : x ≤ x + (t : Int) + (2 * (s : Int) - 1)
                · by_cases h5 : x + (t : Int) + (2 * (s : Int) - 1) ≤ x + 2 * (c : Int)
                  · have HAD := Lib.hid (show sheetP x y c j ++ rowR x y c j t ++ sidR x y c j t (s + 1) = L ++ [⟨x + t, y + j, 2 * (s : Int) - 1⟩] by rw [sidR_add hpar (by omega), ← List.append_assoc, HLL.out])
                    clear skip
                    go_wp2_with (at_builtin; refine wpList_append_own _ rfl _ _ 22 rfl w1.heap.size 24 ib (.agg #[.int .i64 0, .int .i64 0, .int .i64 0]) 3 24 Tryz.underlying22 HIB.out HB0.out HB1.out HB2.out rfl (by decide) _ _ _ rfl (World.ownsRow.alloc hown3.out _) ⟨wr.heap.size, 0, none⟩ 1 1 [.int .i64 (x + t), .int .i64 (y + j), .int .i64 (2 * (s : Int) - 1)] rfl rfl (three_new _ _ _ _ _) ?c2 ?c3 ?c4 ?c5 ?_)
                    case c2 => intro u hu; simp at hu; rcases hu with rfl | rfl | rfl <;> rfl
                    case c3 => unfold maxLen; omega
                    case c4 => omega
                    case c5 => simp; omega
                    intro v' w6 hown6 hgrow6 _
                    have B6 : Below w1.heap.size w1 w6 := (hb3.alloc hbz _).grown hgrow6 (by simp; omega) (ownsRow_base hown3.out)
                    have HO6 := Lib.hid hown6
                    clear hown6 hgrow6
                    go_wp2
                    go_roundw
                    case rel => exact ⟨s + 1, by omega, by go_num, Lib.hid (by rw [HAD.out]; unfold ShRow; rw [List.length_append, bcellsL_snoc]; exact HO6.out), B6⟩
                    case measure => simp [intOf]; omega
                  · have HSK := skip (by omega)
                    clear skip
                    go_wp2
                    go_roundw
                    case rel => exact ⟨s + 1, by omega, by go_num, Lib.hid (by rw [HSK.out]; exact hown3.out), hb3⟩
                    case measure => simp [intOf]; omega
                · have HSK := skip (by omega)
                  clear skip
                  go_wp2
                  go_roundw
                  case rel => exact ⟨s + 1, by omega, by go_num, Lib.hid (by rw [HSK.out]; exact hown3.out), hb3⟩
                  case measure => simp [intOf]; omega
              · rw [even_of HEV.out (decide_eq_false hpar)]
                have HSK := skip (.inl hpar)
                clear skip
                go_wp2
                go_roundw
                case rel => exact ⟨s + 1, by omega, by go_num, Lib.hid (by rw [HSK.out]; exact hown3.out), hb3⟩
                case measure => simp [intOf]; omega
            · have g3 : ¬ 2 * (s : Int) - 1 ≤ 1 := by omega
              obtain rfl : s = 2 := by omega
              have HLL2 := Lib.hid (show sheetP x y c j ++ rowR x y c j (t + 1) = L by rw [rowR_succ, ← sidR_two, ← List.append_assoc]; exact HLL.out)
              go_wp2
              go_roundw
              case rel => exact ⟨t + 1, by omega, by go_num, Lib.hid (by rw [HLL2.out]; exact hown3.out), hb3⟩
              case measure => simp [intOf]; omega
        · have g2 : ¬ x + (t : Int) ≤ x + 2 * (c : Int) := by omega
          obtain rfl : t = 2 * c + 1 := by omega
          go_wp2
          go_roundw
          case rel => exact ⟨j + 1, by omega, by go_num, Lib.hid (by rw [sheetP_succ, ← rowR_eq]; exact hown2.out), hb2⟩
          case measure => simp [intOf]; omega
    · have g1 : ¬ y + (j : Int) < y + (r : Int) := by omega
      obtain rfl : j = r := by omega
      go_wp2
      go_ret
      exact ⟨_, rfl, ownsRow_mono hown.out hb1.size, hb1.trans (hb.mono hb1.size)⟩
end Go.Proofs.YtdeplhihcifmeaaGreatDoor

/- Contracts of the reference's First at three errors, and of CheckSheet. -/
namespace Go.Proofs.YtdeplhihcifmeaaGreatDoor
open Go.RowKit

set_option maxHeartbeats 400000 in
theorem refFirst (b c : Nat) (es : List Int) (w : World) (hn : es.length ≤ 100) (hc : ∀ i (h : i < es.length), w.cell? ⟨b, i, none⟩ = some (.int .i64 es[i])) :
    Calls Tryz.prog 93 #[.slice (some ⟨b, 0, none⟩) es.length c] w fun e w' => e = .returned (.int .i64 (firstE es)) ∧ w = w' := by
  have HC := Lib.hid hc
  have hn' : (es.length : Int) ≤ 100 := by omega
  clear hc
  go_enter Tryz.func93, Tryz.ntmps93
  go_wp2_with fail
  go_loop [2, 3] (fun _ i => ∃ k : Nat, k ≤ es.length ∧ i = .int .i64 k ∧ firstE es = firstE (es.drop k)) (fun _ i => es.length - (intOf i).toNat)
  case atStart => exact ⟨0, Nat.zero_le _, rfl, rfl⟩
  case round =>
    obtain ⟨k, hk, rfl, he⟩ := hrel
    have HE := Lib.hid he
    clear he
    by_cases hlt : k < es.length
    · have hcell := HC.out k hlt
      by_cases hz : es[k] = 0
      · have HF := Lib.hid (show firstE (es.drop k) = firstE (es.drop (k + 1)) by
          rw [List.drop_eq_getElem_cons hlt]
          simp only [firstE, hz, if_true])
        rw [hz] at hcell
        clear hz
        go_wp2
        go_round
        case rel => exact ⟨k + 1, by omega, by go_num, HE.out.trans HF.out⟩
        case measure => simp [intOf]; omega
      · have HF := Lib.hid (show firstE (es.drop k) = es[k] by
          rw [List.drop_eq_getElem_cons hlt]
          simp only [firstE, if_neg hz])
        have hz1 : (es[k] != 0) = true := by rw [bne_iff_ne]; exact hz
        clear hz
        go_wp2
        go_ret
        exact ⟨ret_i (HE.out.trans HF.out).symm, rfl⟩
    · obtain rfl : k = es.length := by omega
      have HF := Lib.hid (show firstE (es.drop es.length) = 0 by rw [List.drop_length]; rfl)
      go_wp2
      go_ret
      exact ⟨ret_i (HE.out.trans HF.out).symm, rfl⟩

theorem refFirst3 (g d : Nat) (a b c : Int) (t : TypeId) (w : World) (h : w.heap[g]? = some (.cells #[.int .i64 a, .int .i64 b, .int .i64 c] t (0, 0))) :
    Calls Tryz.prog 93 #[.slice (some ⟨g, 0, none⟩) 3 d] w fun e w' => e = .returned (.int .i64 (firstE [a, b, c])) ∧ w = w' :=
  refFirst g d [a, b, c] w (by simp) (three_err h)
theorem refSide (n : Int) (w : World) : Calls Tryz.prog 75 #[.int .i64 n, .int .i64 1, .int .i64 256] w fun e w' => e = .returned (.int .i64 (sideR n)) ∧ w = w' := refCheckRange n 1 256 w
set_option maxHeartbeats 1000000 in
set_option maxRecDepth 100000 in
theorem refCheckSheet (x y c r : Int) (w : World) :
    Calls Tryz.prog 38 #[.agg #[.int .i64 x, .int .i64 y], .int .i64 c, .int .i64 r] w fun e w' => e = .returned (.int .i64 (sheetE x y c r)) ∧ Below w.heap.size w w' := by
  obtain ⟨w1, hw1, h0, h1, hb1, hz1⟩ := box2 w (.int .i64 x) (.int .i64 y) 26
  have HW1 := Lib.hid hw1
  clear hw1
  by_cases hs : sheet1 x y c r = 0
  · obtain ⟨hk, c1, c2, r1, r2⟩ := sheet1_zero hs
    obtain ⟨x1, x2, y1, y2⟩ := knotE_zero hk
    have HS2 : firstE [knotE x y, sideR c, sideR r] = 0 := hs
    have HSF := Lib.hid HS2
    have hm1 : -200000 ≤ 2 * c * r := by
      have := Int.mul_le_mul (a := 2 * c) (c := 512) (b := r) (d := 256) (by omega) (by omega) (by omega) (by omega)
      have := Int.mul_nonneg (a := 2 * c) (b := r) (by omega) (by omega)
      omega
    have hm2 : 2 * c * r ≤ 200000 := by
      have := Int.mul_le_mul (a := 2 * c) (c := 512) (b := r) (d := 256) (by omega) (by omega) (by omega) (by omega)
      omega
    have HSH := Lib.hid (show sheetE x y c r = (if 4096 < 2 * c * r then 5 else if farB (x + 2 * c) || farB (y + r) then 3 else 0) by simp only [sheetE, hs, if_true])
    clear HS2 hs hk
    go_enter Tryz.func38, Tryz.ntmps38
    go_wp2_with fail
    rw [← HW1.out]
    refine (refCheckKnot x y _).mono ?_
    rintro e w2 ⟨rfl, hb2⟩
    go_wp2_with fail
    refine (refSide c _).mono ?_
    rintro e w3 ⟨rfl, rfl⟩
    go_wp2_with fail
    refine (refSide r _).mono ?_
    rintro e w4 ⟨rfl, rfl⟩
    go_wp2_with fail
    refine (refFirst3 _ _ (knotE x y) (sideR c) (sideR r) 3 _ (by exact heap_alloc_new _ _)).mono ?_
    rintro e w5 ⟨rfl, rfl⟩
    rw [HSF.out]
    have hb3 : Below w.heap.size w (w2.alloc (.cells #[.int .i64 (knotE x y), .int .i64 (sideR c), .int .i64 (sideR r)] 3)) := (hb1.trans (hb2.mono (by omega))).alloc (by have := hb2.size; omega) _
    have hb4 : Below w1.heap.size w1 (w2.alloc (.cells #[.int .i64 (knotE x y), .int .i64 (sideR c), .int .i64 (sideR r)] 3)) := hb2.alloc hb2.size _
    generalize w2.alloc (.cells #[.int .i64 (knotE x y), .int .i64 (sideR c), .int .i64 (sideR r)] 3) = w6 at *
    have e0 := (hb4.cell (p := ⟨w.heap.size, 0, none⟩) hz1).trans h0
    have e1 := (hb4.cell (p := ⟨w.heap.size, 1, none⟩) hz1).trans h1
    by_cases hbig : 4096 < 2 * c * r
    · have HE := Lib.hid (HSH.out.trans (if_pos hbig))
      clear HSH
      go_wp2_with fail
      go_ret
      exact ⟨ret_i HE.out.symm, hb3⟩
    · have HE := Lib.hid (HSH.out.trans (if_neg hbig))
      clear HSH
      cases hf1 : farB (x + 2 * c)
      · cases hf2 : farB (y + r)
        all_goals
          have HF1 := Lib.hid hf1
          have HF2 := Lib.hid hf2
          rw [hf1, hf2] at HE
          clear hf1 hf2
          go_wp2_with fail
          refine (refFar _ _).mono ?_
          rintro e w7 ⟨rfl, rfl⟩
          rw [HF1.out]
          go_wp2_with fail
          refine (refFar _ _).mono ?_
          rintro e w7 ⟨rfl, rfl⟩
          rw [HF2.out]
          go_wp2_with fail
          go_ret
          exact ⟨ret_i HE.out.symm, hb3⟩
      · have HF1 := Lib.hid hf1
        rw [hf1] at HE
        clear hf1
        go_wp2_with fail
        refine (refFar _ _).mono ?_
        rintro e w7 ⟨rfl, rfl⟩
        rw [HF1.out]
        go_wp2_with fail
        go_ret
        exact ⟨ret_i HE.out.symm, hb3⟩
  · have hs1 : (sheet1 x y c r == 0) = false := by simpa using hs
    have HE := Lib.hid (show sheetE x y c r = sheet1 x y c r by simp [sheetE, hs])
    have HS1 := Lib.hid hs1
    clear hs hs1
    go_enter Tryz.func38, Tryz.ntmps38
    go_wp2_with fail
    rw [← HW1.out]
    refine (refCheckKnot x y _).mono ?_
    rintro e w2 ⟨rfl, hb2⟩
    go_wp2_with fail
    refine (refSide c _).mono ?_
    rintro e w3 ⟨rfl, rfl⟩
    go_wp2_with fail
    refine (refSide r _).mono ?_
    rintro e w4 ⟨rfl, rfl⟩
    go_wp2_with fail
    refine (refFirst3 _ _ (knotE x y) (sideR c) (sideR r) 3 _ (by exact heap_alloc_new _ _)).mono ?_
    rintro e w5 ⟨rfl, rfl⟩
    have HS2 : firstE [knotE x y, sideR c, sideR r] = sheet1 x y c r := rfl
    rw [HS2]
    generalize sheet1 x y c r = e1 at *
    have hs1 := HS1.out
    go_wp2_with fail
    go_ret
    exact ⟨ret_i HE.out.symm, (hb1.trans (hb2.mono (by omega))).alloc (by have := hb2.size; omega) _⟩
end Go.Proofs.YtdeplhihcifmeaaGreatDoor

/- Sheet with an error; net; the law of NettingSheets. -/
namespace Go.Proofs.YtdeplhihcifmeaaGreatDoor
open Go.RowKit Go.Shelf Ck

def BadPost (E : Int) (w : World) (e : Ending) (w' : World) : Prop := e = .returned (.tuple #[.slice none 0 0, .int .i64 E]) ∧ Below w.heap.size w w'
set_option maxHeartbeats 2000000 in
set_option maxRecDepth 100000 in
theorem netSheetBad (x y c r E : Int) (w : World) (hE : sheetE x y c r = E) (hne : E ≠ 0) :
    Calls Tryz.prog 39 #[.agg #[.int .i64 x, .int .i64 y], .int .i64 c, .int .i64 r] w (BadPost E w) := by
  obtain ⟨w1, hw1, h0, h1, hb1, hz1⟩ := box2 w (.int .i64 x) (.int .i64 y) 26
  have HW1 := Lib.hid hw1
  have hn0 : (E != 0) = true := by rw [bne_iff_ne]; exact hne
  clear hw1
  by_cases hs : sheet1 x y c r = 0
  · obtain ⟨hk, c1, c2, r1, r2⟩ := sheet1_zero hs
    obtain ⟨x1, x2, y1, y2⟩ := knotE_zero hk
    have HS := Lib.hid (show firstE [knotE x y, sideR c, sideR r] = 0 from hs)
    have hm1 : -200000 ≤ 2 * c * r := by
      have := Int.mul_nonneg (a := 2 * c) (b := r) (by omega) (by omega)
      omega
    have hm2 : 2 * c * r ≤ 200000 := by
      have := Int.mul_le_mul (a := 2 * c) (c := 512) (b := r) (d := 256) (by omega) (by omega) (by omega) (by omega)
      omega
    rw [sheetE, if_pos hs] at hE
    by_cases hm : 4096 < 2 * c * r
    · rw [if_pos hm] at hE
      subst hE
      clear hs hk
      go_enter Tryz.func39, Tryz.ntmps39
      go_wp2_with fail
      rw [← HW1.out]
      refine (netCheckKnot x y _).mono ?_
      rintro e w2 ⟨rfl, hb2⟩
      go_wp2_with fail
      refine (netSide c _).mono ?_
      rintro e w3 ⟨rfl, rfl⟩
      go_wp2_with fail
      refine (netSide r _).mono ?_
      rintro e w4 ⟨rfl, rfl⟩
      go_wp2_with fail
      refine (netFirst3 _ _ (knotE x y) (sideR c) (sideR r) 32 _ (by exact heap_alloc_new _ _)).mono ?_
      rintro e w5 ⟨rfl, rfl⟩
      rw [HS.out]
      have hb3 : Below w.heap.size w (w2.alloc (.cells #[.int .i64 (knotE x y), .int .i64 (sideR c), .int .i64 (sideR r)] 32)) := (hb1.trans (hb2.mono (by omega))).alloc (by have := hb2.size; omega) _
      go_wp2
      go_ret2
      exact ⟨rfl, hb3⟩
    · rw [if_neg hm] at hE
      have hfar : (farB (x + 2 * c) || farB (y + r)) = true := by
        cases hq : (farB (x + 2 * c) || farB (y + r))
        · rw [hq] at hE; exact absurd hE.symm hne
        · rfl
      rw [if_pos hfar] at hE
      subst hE
      have HP := Lib.hid (show firstE [placeE (x + 2 * c), placeE (y + r)] = 3 by
        cases ha : farB (x + 2 * c) <;> cases hb : farB (y + r) <;> simp [ha, hb] at hfar <;> simp [firstE, placeE, ha, hb])
      clear hs hk hfar
      go_enter Tryz.func39, Tryz.ntmps39
      go_wp2_with fail
      rw [← HW1.out]
      refine (netCheckKnot x y _).mono ?_
      rintro e w2 ⟨rfl, hb2⟩
      go_wp2_with fail
      refine (netSide c _).mono ?_
      rintro e w3 ⟨rfl, rfl⟩
      go_wp2_with fail
      refine (netSide r _).mono ?_
      rintro e w4 ⟨rfl, rfl⟩
      go_wp2_with fail
      refine (netFirst3 _ _ (knotE x y) (sideR c) (sideR r) 32 _ (by exact heap_alloc_new _ _)).mono ?_
      rintro e w5 ⟨rfl, rfl⟩
      rw [HS.out]
      have hb3 : Below w.heap.size w (w2.alloc (.cells #[.int .i64 (knotE x y), .int .i64 (sideR c), .int .i64 (sideR r)] 32)) := (hb1.trans (hb2.mono (by omega))).alloc (by have := hb2.size; omega) _
      have hb4 : Below w1.heap.size w1 (w2.alloc (.cells #[.int .i64 (knotE x y), .int .i64 (sideR c), .int .i64 (sideR r)] 32)) := hb2.alloc hb2.size _
      generalize w2.alloc (.cells #[.int .i64 (knotE x y), .int .i64 (sideR c), .int .i64 (sideR r)] 32) = w6 at *
      have e0 := (hb4.cell (p := ⟨w.heap.size, 0, none⟩) hz1).trans h0
      have e1 := (hb4.cell (p := ⟨w.heap.size, 1, none⟩) hz1).trans h1
      clear h0 h1
      go_wp2_with fail
      refine wp_region_still_tail 11 (by kernel_rfl) (by kernel_rfl) ?_
      simp only [List.take_succ_cons, List.take_zero, List.drop_succ_cons, List.drop_zero]
      still_step
      still_step
      still_step
      still_step
      still_step
      still_call (Calls.mono (netCheckPlace _ _) fun _ _ h => ⟨h.1, h.2.symm⟩)
      still_step
      still_step
      still_step
      still_step
      still_call (Calls.mono (netCheckPlace _ _) fun _ _ h => ⟨h.1, h.2.symm⟩)
      refine wpStill_nil ?_
      change wpList _ _ _ _ _ w6.drew
      go_wp2_with fail
      refine (netFirst2 _ _ (placeE (x + 2 * c)) (placeE (y + r)) 32 _ (by exact heap_alloc_new _ _)).mono ?_
      rintro e w7 ⟨rfl, rfl⟩
      rw [HP.out]
      have hz6 := hb4.size
      have hb5 : Below w.heap.size w (w6.alloc (.cells #[.int .i64 (placeE (x + 2 * c)), .int .i64 (placeE (y + r))] 32)).drew := below_drew (hb3.alloc (by omega) _)
      go_wp2
      go_ret2
      exact ⟨rfl, hb5⟩
  · rw [sheetE, if_neg hs] at hE
    have HS := Lib.hid (show firstE [knotE x y, sideR c, sideR r] = E from hE)
    clear hs hE
    go_enter Tryz.func39, Tryz.ntmps39
    go_wp2_with fail
    rw [← HW1.out]
    refine (netCheckKnot x y _).mono ?_
    rintro e w2 ⟨rfl, hb2⟩
    go_wp2_with fail
    refine (netSide c _).mono ?_
    rintro e w3 ⟨rfl, rfl⟩
    go_wp2_with fail
    refine (netSide r _).mono ?_
    rintro e w4 ⟨rfl, rfl⟩
    go_wp2_with fail
    refine (netFirst3 _ _ (knotE x y) (sideR c) (sideR r) 32 _ (by exact heap_alloc_new _ _)).mono ?_
    rintro e w5 ⟨rfl, rfl⟩
    rw [HS.out]
    have hb3 : Below w.heap.size w (w2.alloc (.cells #[.int .i64 (knotE x y), .int .i64 (sideR c), .int .i64 (sideR r)] 32)) := (hb1.trans (hb2.mono (by omega))).alloc (by have := hb2.size; omega) _
    go_wp2
    go_ret2
    exact ⟨rfl, hb3⟩
theorem lwNetBad (E : Int) (w : World) (h : E ≠ 0) : Calls Tryz.prog 28 #[.slice none 0 0, .int .i64 E, .int .i64 E, .slice none 0 0] w fun e w' => e = .returned (.bool true) ∧ Below w.heap.size w w' := by
  have h1 : (E != 0) = true := by rw [bne_iff_ne]; exact h
  clear h
  go_enter Tryz.func28, Tryz.ntmps28
  go_wp2
  go_ret
  exact ⟨by simp, Below.refl _ _⟩
theorem lwNetOk (A A' : Option Addr) (c c' : Nat) (l : List Bar) (w : World) (hl : l.length ≤ 4096) (h : OKS w A c l) (h' : OKS w A' c' l) :
    Calls Tryz.prog 28 #[.slice A l.length c, .int .i64 0, .int .i64 0, .slice A' l.length c'] w fun e w' => e = .returned (.bool true) ∧ Below w.heap.size w w' := by
  have H1 := Lib.hid h
  have H2 := Lib.hid h'
  clear h h'
  go_enter Tryz.func28, Tryz.ntmps28
  go_wp2_with fail
  refine (refSameNet A A' c c' l _ hl H1.out.2.2.2 H2.out.2.2.2).mono ?_
  rintro e w1 ⟨rfl, hb⟩
  go_wp2
  go_ret
  exact ⟨by simp, hb⟩
set_option maxHeartbeats 4000000 in
set_option maxRecDepth 100000 in
theorem lawSheets (x y c r : Int) (w : World) (hL : LaidLen w) : Calls Tryz.prog 5 #[.agg #[.int .i64 x, .int .i64 y], .int .i64 c, .int .i64 r] w fun e w' => e = .returned (.bool true) ∧ Below w.heap.size w w' := by
  obtain ⟨w1, hw1, h0, h1, hb1, hz1⟩ := box2 w (.int .i64 x) (.int .i64 y) 26
  have HW1 := Lib.hid hw1
  have HLL := Lib.hid hL
  have Q0 : ∀ {W : World}, Below w1.heap.size w1 W → W.cell? ⟨w.heap.size, 0, none⟩ = some (.int .i64 x) := fun hb => (hb.cell (p := ⟨w.heap.size, 0, none⟩) hz1).trans h0
  have Q1 : ∀ {W : World}, Below w1.heap.size w1 W → W.cell? ⟨w.heap.size, 1, none⟩ = some (.int .i64 y) := fun hb => (hb.cell (p := ⟨w.heap.size, 1, none⟩) hz1).trans h1
  have BW : Below w1.heap.size w1 w1 := Below.refl _ _
  have fin : ∀ {W : World}, Below w1.heap.size w1 W → Below w.heap.size w W := fun hb => hb1.trans (hb.mono hb1.size)
  clear hw1 hL
  by_cases hE : sheetE x y c r = 0
  · obtain ⟨hs, hm, hf1, hf2⟩ := sheetE_zero hE
    obtain ⟨hk, c1, c2, r1, r2⟩ := sheet1_zero hs
    obtain ⟨c, rfl⟩ : ∃ k : Nat, c = (k : Int) := ⟨c.toNat, by omega⟩
    obtain ⟨r, rfl⟩ : ∃ k : Nat, r = (k : Int) := ⟨r.toNat, by omega⟩
    have hm1 : (-9223372036854775808 : Int) ≤ 2 * (c : Int) * (r : Int) := by
      have := Int.mul_nonneg (a := 2 * (c : Int)) (b := (r : Int)) (by omega) (by omega)
      omega
    have m1 : IntKind.i64.wrap (2 * (c : Int)) = 2 * (c : Int) := by rw [IntKind.wrap_i64]; omega
    have m2 : IntKind.i64.wrap (2 * (c : Int) * (r : Int)) = 2 * (c : Int) * (r : Int) := by rw [IntKind.wrap_i64]; omega
    have HE := Lib.hid hE
    by_cases hbig : 200 < 2 * (c : Int) * (r : Int)
    · clear hE hs hk hf1 hf2
      go_enter Tryz.func5, Tryz.ntmps5
      go_wp2_with fail
      rw [← HW1.out]
      go_wp2_with fail
      refine (refCheckSheet x y c r _).mono ?_
      rintro e w2 ⟨rfl, hb2⟩
      rw [HE.out]
      replace BW := BW.trans hb2
      clear hb2
      go_wp2_with fail
      refine (awake1 _ (HLL.out.below (fin BW) HLL.out.lt)).mono ?_
      rintro e w3 ⟨rfl, hb3⟩
      replace BW := BW.trans (hb3.mono BW.size)
      clear hb3
      go_wp2_with fail
      refine (awake1 _ (HLL.out.below (fin BW) HLL.out.lt)).mono ?_
      rintro e w4 ⟨rfl, hb4⟩
      replace BW := BW.trans (hb4.mono BW.size)
      clear hb4
      go_wp2
      go_ret
      exact ⟨rfl, fin BW⟩
    · obtain ⟨l, hl⟩ : ∃ l, sheetP x y c r = l := ⟨_, rfl⟩
      have hll : l.length ≤ 4096 := by
        rw [← hl, sheetP_length]
        have : (2 * (c * r) : Nat) = ((2 * (c * r) : Nat) : Int) := rfl
        have e : ((2 * (c * r) : Nat) : Int) = 2 * (c : Int) * (r : Int) := by push_cast; rw [Int.mul_assoc]
        omega
      clear hs hk hf1 hf2 hE
      go_enter Tryz.func5, Tryz.ntmps5
      go_wp2_with fail
      rw [← HW1.out]
      go_wp2_with fail
      refine (refCheckSheet x y c r _).mono ?_
      rintro e w2 ⟨rfl, hb2⟩
      rw [HE.out]
      replace BW := BW.trans hb2
      clear hb2
      go_wp2_with fail
      refine (awake1 _ (HLL.out.below (fin BW) HLL.out.lt)).mono ?_
      rintro e w3 ⟨rfl, hb3⟩
      replace BW := BW.trans (hb3.mono BW.size)
      clear hb3
      have s0 := Q0 BW
      have s1 := Q1 BW
      go_wp2_with fail
      refine (netSheet x y c r _ HE.out).mono ?_
      rintro e w4 ⟨v, rfl, hrow, hb4⟩
      rw [hl] at hrow
      obtain ⟨a4, c4, rfl, o4⟩ := own_oks hrow
      have O4 := Lib.hid o4
      replace BW := BW.trans (hb4.mono BW.size)
      clear hb4 hrow o4 s0 s1
      have s0 := Q0 BW
      have s1 := Q1 BW
      go_wp2_with fail
      refine (refSheet x y c r _ HE.out).mono ?_
      rintro e w5 ⟨v5, rfl, hrow5, hb5⟩
      rw [hl] at hrow5
      obtain ⟨a5, c5, rfl, o5⟩ := own_oks hrow5
      replace O4 := Lib.hid (O4.out.below hb5)
      have O5 := Lib.hid o5
      replace BW := BW.trans (hb5.mono BW.size)
      clear hb5 hrow5 o5 s0 s1
      go_wp2_with fail
      refine (lwNetOk a4 a5 c4 c5 l _ hll O4.out O5.out).mono ?_
      rintro e w6 ⟨rfl, hb6⟩
      replace BW := BW.trans (hb6.mono BW.size)
      clear hb6
      go_wp2
      go_ret
      exact ⟨rfl, fin BW⟩
  · obtain ⟨E, hE2⟩ : ∃ E, sheetE x y c r = E := ⟨_, rfl⟩
    have hne : E ≠ 0 := by rw [← hE2]; exact hE
    have HE := Lib.hid hE2
    have HNE := Lib.hid hne
    have e0 : (E == 0) = false := by rw [beq_eq_false_iff_ne]; exact hne
    clear hE hE2 hne
    go_enter Tryz.func5, Tryz.ntmps5
    go_wp2_with fail
    rw [← HW1.out]
    go_wp2_with fail
    refine (refCheckSheet x y c r _).mono ?_
    rintro e w2 ⟨rfl, hb2⟩
    rw [HE.out]
    replace BW := BW.trans hb2
    clear hb2
    go_wp2_with fail
    refine (awake1 _ (HLL.out.below (fin BW) HLL.out.lt)).mono ?_
    rintro e w3 ⟨rfl, hb3⟩
    replace BW := BW.trans (hb3.mono BW.size)
    clear hb3
    have s0 := Q0 BW
    have s1 := Q1 BW
    go_wp2_with fail
    refine (netSheetBad x y c r E _ HE.out HNE.out).mono ?_
    rintro e w4 ⟨rfl, hb4⟩
    replace BW := BW.trans (hb4.mono BW.size)
    clear hb4 s0 s1
    go_wp2_with fail
    refine (lwNetBad E _ HNE.out).mono ?_
    rintro e w5 ⟨rfl, hb5⟩
    replace BW := BW.trans (hb5.mono BW.size)
    clear hb5
    go_wp2
    go_ret
    exact ⟨rfl, fin BW⟩
end Go.Proofs.YtdeplhihcifmeaaGreatDoor

/- Has of the program at valid nets. -/
namespace Go.Proofs.YtdeplhihcifmeaaGreatDoor
open Go.RowKit Go.Shelf Ck

set_option maxHeartbeats 2000000 in
set_option maxRecDepth 100000 in
theorem netHas (A : Option Addr) (c : Nat) (l : List Bar) (b : Bar) (w : World) (hl : l.length ≤ 4096) (hc : l.length ≤ c) (hcm : c ≤ maxLen) (hN : Net l) (hb : barE b.x b.y b.s = 0) (h : RB w w.heap.size A l) :
    Calls Tryz.prog 26 #[.slice A l.length c, .agg #[.int .i64 b.x, .int .i64 b.y, .int .i64 b.s]] w fun e w' => e = .returned (.tuple #[.bool (decide (b ∈ l)), .int .i64 0]) ∧ Below w.heap.size w w' := by
  have HR := Lib.hid h
  have HE := Lib.hid ((netE_zero l).2 ⟨hl, hN⟩)
  have HN := Lib.hid hN
  have HBE := Lib.hid hb
  clear h hN hb
  obtain ⟨w1, hw1, e0, e1, e2, hb1, hz1⟩ := box3 w (.int .i64 b.x) (.int .i64 b.y) (.int .i64 b.s) 24
  have HW1 := Lib.hid hw1
  clear hw1
  go_enter Tryz.func26, Tryz.ntmps26
  go_wp2_with fail
  rw [← HW1.out]
  go_region_held3 (fun w' => w'.cell? ⟨w.heap.size, 0, none⟩ = some (.int .i64 b.x) ∧ w'.cell? ⟨w.heap.size, 1, none⟩ = some (.int .i64 b.y) ∧ w'.cell? ⟨w.heap.size, 2, none⟩ = some (.int .i64 b.s) ∧ Below w.heap.size w w' ∧ w.heap.size < w'.heap.size)
    (first | exact ⟨e0, e1, e2, below_drew hb1, hz1⟩ | exact keep3 (by assumption) (by assumption) | exact keep3 (by assumption) ((Below.refl _ _).alloc (Nat.le_refl _) _) | assumption | (refine ⟨?_, ?_, ?_, ?_, ?_⟩ <;> first | assumption | (simp at *; omega)) | exact keep3 (by assumption) (below_drew (Below.refl _ _)) | go_keep)
    (first
      | (go_at_call 20; refine (netCheckNet A c l _ hl hc hcm ((HR.out.below (belowOf3 (by assumption))).more (belowOf3 (by assumption)).size)).mono ?_; rintro e w' ⟨rfl, hbq⟩; rw [HE.out])
      | (go_at_call 22; refine (netCheckBar _ _ _ _).mono ?_; rintro e w' ⟨rfl, hbq⟩; rw [HBE.out])
      | (go_at_call 84; refine (netFirst2 _ _ 0 0 32 _ (by exact heap_alloc_new _ _)).mono ?_; rintro e w' ⟨rfl, rfl⟩; rw [show firstE [0, 0] = 0 from rfl]))
  all_goals
    rename_i hS
    obtain ⟨c0, c1, c2, hbs, hzs⟩ := hS
    generalize World.alloc _ _ = w5 at c0 c1 c2 hbs hzs ⊢
    go_wp2_with fail
    refine (netHasBar A c l b.x b.y b.s _ hl HN.out.2 ((HR.out.below hbs).more hbs.size)).mono ?_
    rintro e w6 ⟨rfl, hb6⟩
    have hbf := hbs.trans (hb6.mono hbs.size)
    clear c0 c1 c2 e0 e1 e2
    go_wp2
    go_ret2
    exact ⟨rfl, hbf⟩
end Go.Proofs.YtdeplhihcifmeaaGreatDoor

/- Ends and Has of the program with errors, Around with an error; the reference's Ends. -/
namespace Go.Proofs.YtdeplhihcifmeaaGreatDoor
open Go.RowKit Go.Shelf Ck

set_option maxHeartbeats 1000000 in
set_option maxRecDepth 100000 in
theorem refEnds (x y s : Int) (w : World) (hx1 : -100000 ≤ x) (hx2 : x ≤ 100000) (hy1 : -100000 ≤ y) (hy2 : y ≤ 100000) (hs1 : -1 ≤ s) (hs2 : s ≤ 1) :
    Calls Tryz.prog 27 #[.agg #[.int .i64 x, .int .i64 y, .int .i64 s]] w fun e w' => e = .returned (.agg #[.int .i64 x, .int .i64 y, .int .i64 (x + s), .int .i64 (y + 1)]) ∧ Below w.heap.size w w' := by
  obtain ⟨w0, hw0, c0, c1, c2, hr, hb0, hz0⟩ := box34 w (.int .i64 x) (.int .i64 y) (.int .i64 s) (.int .i64 0) (.int .i64 0) (.int .i64 0) (.int .i64 0) 24 37
  obtain ⟨r0, r1, r2, r3, rf⟩ := four_cells hr
  have hz00 : w.heap.size < w0.heap.size := by omega
  have HW := Lib.hid hw0
  have HR := Lib.hid hr
  clear hw0 hr
  go_enter Tryz.func27, Tryz.ntmps27
  go_wp2_with fail
  rw [← HW.out]
  go_region_with (first
    | (go_at_call 80; refine (refLower _ _ _ _).mono ?_; rintro e w1 ⟨rfl, hb1⟩; obtain ⟨d0, d1, d2, hr1, hz1⟩ := carry34 hb1 hz0 c0 c1 c2 HR.out; have HR1 := Lib.hid hr1; obtain ⟨s0, s1, s2, s3, sf⟩ := four_cells hr1; clear hr1)
    | (go_at_call 81; refine (refUpper _ _ _ _ hx1 hx2 hy1 hy2 hs1 hs2).mono ?_; rintro e w2 ⟨rfl, hb2⟩; obtain ⟨e0, e1, e2, hr2, hz2⟩ := carry34 hb2 hz1 d0 d1 d2 HR1.out; have HR2 := Lib.hid hr2; obtain ⟨t0, t1, t2, t3, tf⟩ := four_cells hr2; clear hr2))
  all_goals go_wp2
  all_goals
    exact bodyPost_ret (v := .agg #[.int .i64 x, .int .i64 y, .int .i64 (x + s), .int .i64 (y + 1)]) (by simp [results, Tryz.results27, go_sem, t0, t1, t2, t3]) rfl
      ⟨rfl, ((((((below_drew hb0).trans (hb1.mono (by show w.heap.size ≤ w0.heap.size; omega))).trans (hb2.mono (by omega))).setCell (by simp) _).setCell (by simp) _).setCell (by simp) _).setCell (by simp) _⟩
theorem barE_in {x y s : Int} (h : barE x y s = 0) : -100000 ≤ x ∧ x ≤ 100000 ∧ -100000 ≤ y ∧ y ≤ 100000 ∧ (s = 1 ∨ s = -1) := by
  unfold barE at h
  split at h
  · rename_i hk
    split at h
    · rename_i hs
      obtain ⟨a, b, c, d⟩ := knotE_zero hk
      exact ⟨a, b, c, d, hs⟩
    · omega
  · rename_i hk; exact absurd h hk
set_option maxHeartbeats 1000000 in
set_option maxRecDepth 100000 in
theorem netAroundBad (x y E : Int) (w : World) (hE : knotE x y = E) (hne : E ≠ 0) :
    Calls Tryz.prog 25 #[.agg #[.int .i64 x, .int .i64 y]] w (BadPost E w) := by
  obtain ⟨w1, hw1, c0, c1, hb1, hz1⟩ := box2 w (.int .i64 x) (.int .i64 y) 26
  have HW1 := Lib.hid hw1
  have HE := Lib.hid hE
  have hn0 : (E != 0) = true := by rw [bne_iff_ne]; exact hne
  clear hw1 hE hne
  go_enter Tryz.func25, Tryz.ntmps25
  go_wp2_with fail
  rw [← HW1.out]
  refine (netCheckKnot x y _).mono ?_
  rintro e w2 ⟨rfl, hb2⟩
  rw [HE.out]
  have B2 := hb1.trans (hb2.mono hb1.size)
  clear c0 c1
  go_wp2
  go_ret2
  exact ⟨rfl, B2⟩
set_option maxHeartbeats 1000000 in
set_option maxRecDepth 100000 in
theorem netEndsOk (x y s : Int) (w : World) (hE : barE x y s = 0) :
    Calls Tryz.prog 24 #[.agg #[.int .i64 x, .int .i64 y, .int .i64 s]] w fun e w' => e = .returned (.tuple #[.agg #[.int .i64 x, .int .i64 y, .int .i64 (x + s), .int .i64 (y + 1)], .int .i64 0]) ∧ Below w.heap.size w w' := by
  obtain ⟨x1, x2, y1, y2, hs⟩ := barE_in hE
  have s1 : -1 ≤ s := by omega
  have s2 : s ≤ 1 := by omega
  have HE := Lib.hid hE
  clear hE hs
  obtain ⟨w0, hw0, c0, c1, c2, hr, hb0, hz0⟩ := box34 w (.int .i64 x) (.int .i64 y) (.int .i64 s) (.int .i64 0) (.int .i64 0) (.int .i64 0) (.int .i64 0) 24 37
  have HW := Lib.hid hw0
  have HR := Lib.hid hr
  clear hw0 hr
  go_enter Tryz.func24, Tryz.ntmps24
  go_wp2_with fail
  rw [← HW.out]
  refine (netCheckBar x y s _).mono ?_
  rintro e w1 ⟨rfl, hb1⟩
  rw [HE.out]
  obtain ⟨d0, d1, d2, hr1, hz1⟩ := carry34 hb1 hz0 c0 c1 c2 HR.out
  have HR1 := Lib.hid hr1
  have B1 := Lib.hid (hb0.trans (hb1.mono hb0.size))
  clear c0 c1 c2 hr1
  go_wp2_with fail
  refine (netEndsOf x y s _ x1 x2 y1 y2 s1 s2).mono ?_
  rintro e w2 ⟨rfl, hb2⟩
  obtain ⟨e0, e1, e2, hr2, hz2⟩ := carry34 hb2 hz1 d0 d1 d2 HR1.out
  obtain ⟨t0, t1, t2, t3, tf⟩ := four_cells hr2
  have B2 := Lib.hid (B1.out.trans (hb2.mono B1.out.size))
  clear d0 d1 d2 hr2 hb1 hb2 hb0
  go_wp2
  exact bodyPost_ret (v := .tuple #[.agg #[.int .i64 x, .int .i64 y, .int .i64 (x + s), .int .i64 (y + 1)], .int .i64 0]) (by simp [results, Tryz.results24, go_sem, t0, t1, t2, t3]) rfl
    ⟨rfl, (((B2.out.setCell (by simp) _).setCell (by simp) _).setCell (by simp) _).setCell (by simp) _⟩
set_option maxHeartbeats 1000000 in
set_option maxRecDepth 100000 in
theorem netEndsBad (x y s E : Int) (w : World) (hE : barE x y s = E) (hne : E ≠ 0) :
    Calls Tryz.prog 24 #[.agg #[.int .i64 x, .int .i64 y, .int .i64 s]] w fun e w' => e = .returned (.tuple #[.agg #[.int .i64 0, .int .i64 0, .int .i64 0, .int .i64 0], .int .i64 E]) ∧ Below w.heap.size w w' := by
  have HE := Lib.hid hE
  have hn0 : (E != 0) = true := by rw [bne_iff_ne]; exact hne
  clear hE hne
  obtain ⟨w0, hw0, c0, c1, c2, hr, hb0, hz0⟩ := box34 w (.int .i64 x) (.int .i64 y) (.int .i64 s) (.int .i64 0) (.int .i64 0) (.int .i64 0) (.int .i64 0) 24 37
  have HW := Lib.hid hw0
  have HR := Lib.hid hr
  clear hw0 hr
  go_enter Tryz.func24, Tryz.ntmps24
  go_wp2_with fail
  rw [← HW.out]
  refine (netCheckBar x y s _).mono ?_
  rintro e w1 ⟨rfl, hb1⟩
  rw [HE.out]
  obtain ⟨d0, d1, d2, hr1, hz1⟩ := carry34 hb1 hz0 c0 c1 c2 HR.out
  obtain ⟨t0, t1, t2, t3, tf⟩ := four_cells hr1
  have B1 := Lib.hid (hb0.trans (hb1.mono hb0.size))
  clear c0 c1 c2 hr1 d0 d1 d2 hb0 hb1
  go_wp2
  exact bodyPost_ret (v := .tuple #[.agg #[.int .i64 0, .int .i64 0, .int .i64 0, .int .i64 0], .int .i64 E]) (by simp [results, Tryz.results24, go_sem, t0, t1, t2, t3]) rfl
    ⟨rfl, (((B1.out.setCell (by simp) _).setCell (by simp) _).setCell (by simp) _).setCell (by simp) _⟩
set_option maxHeartbeats 2000000 in
set_option maxRecDepth 100000 in
theorem netHasBad (A : Option Addr) (c : Nat) (l : List Bar) (b : Bar) (E1 E2 E : Int) (w : World) (h : OKS w A c l) (h1 : netE l = E1) (h2 : barE b.x b.y b.s = E2) (hE : firstE [E1, E2] = E) (hne : E ≠ 0) :
    Calls Tryz.prog 26 #[.slice A l.length c, .agg #[.int .i64 b.x, .int .i64 b.y, .int .i64 b.s]] w fun e w' => e = .returned (.tuple #[.bool false, .int .i64 E]) ∧ Below w.heap.size w w' := by
  have HO := Lib.hid h
  have H1 := Lib.hid h1
  have H2 := Lib.hid h2
  have HE := Lib.hid hE
  have hn0 : (E != 0) = true := by rw [bne_iff_ne]; exact hne
  clear h h1 h2 hE hne
  obtain ⟨w1, hw1, e0, e1, e2, hb1, hz1⟩ := box3 w (.int .i64 b.x) (.int .i64 b.y) (.int .i64 b.s) 24
  have HW1 := Lib.hid hw1
  clear hw1
  go_enter Tryz.func26, Tryz.ntmps26
  go_wp2_with fail
  rw [← HW1.out]
  go_region_held3 (fun w' => w'.cell? ⟨w.heap.size, 0, none⟩ = some (.int .i64 b.x) ∧ w'.cell? ⟨w.heap.size, 1, none⟩ = some (.int .i64 b.y) ∧ w'.cell? ⟨w.heap.size, 2, none⟩ = some (.int .i64 b.s) ∧ Below w.heap.size w w' ∧ w.heap.size < w'.heap.size)
    (first | exact ⟨e0, e1, e2, below_drew hb1, hz1⟩ | exact keep3 (by assumption) (by assumption) | exact keep3 (by assumption) ((Below.refl _ _).alloc (Nat.le_refl _) _) | assumption | (refine ⟨?_, ?_, ?_, ?_, ?_⟩ <;> first | assumption | (simp at *; omega)) | exact keep3 (by assumption) (below_drew (Below.refl _ _)) | go_keep)
    (first
      | (go_at_call 20; refine (netCheckNetA A c l _ (HO.out.below (belowOf3 (by assumption)))).mono ?_; rintro e w' ⟨rfl, hbq⟩; rw [H1.out])
      | (go_at_call 22; refine (netCheckBar _ _ _ _).mono ?_; rintro e w' ⟨rfl, hbq⟩; rw [H2.out])
      | (go_at_call 84; refine (netFirst2 _ _ E1 E2 32 _ (by exact heap_alloc_new _ _)).mono ?_; rintro e w' ⟨rfl, rfl⟩; rw [HE.out]))
  all_goals
    rename_i hS
    obtain ⟨-, -, -, hbs, -⟩ := hS
    clear e0 e1 e2
    go_wp2
    go_ret2
    exact ⟨rfl, hbs⟩
end Go.Proofs.YtdeplhihcifmeaaGreatDoor

/- The reference's Around, the law's first, equality of two knots. -/
namespace Go.Proofs.YtdeplhihcifmeaaGreatDoor
open Go.RowKit Go.Shelf Ck

theorem infoKn : (Tryz.prog.info? 26).isSome = true := by kernel_rfl
theorem eqTwo (a b c d : Int) (w : World) : (Op.equalIn 10000 37 (.agg #[.int .i64 a, .int .i64 b, .int .i64 c, .int .i64 d]) (.agg #[.int .i64 a, .int .i64 b, .int .i64 c, .int .i64 d])).run Tryz.prog w = .ok true w := by
  have u3 := Tryz.underlying3
  have a3 := Tryz.isAgg3
  have z3 := Tryz.sizeOf3
  obtain ⟨i, hi⟩ := Option.isSome_iff_exists.1 infoKn
  have hC : Tryz.prog.cellsOf 26 = 2 := by kernel_rfl
  have hu : Tryz.prog.underlying 37 = some (.array 2 26) := by kernel_rfl
  have hS : Tryz.prog.underlying 26 = some (.struct (Tryz.prog.fieldsOf 26)) := by kernel_rfl
  have hp : Tryz.prog.stoodInHeld 26 = false := by kernel_rfl
  have key : ∀ (x y : Int) (w : World), (Op.equalIn 9999 26 (.agg #[.int .i64 x, .int .i64 y]) (.agg #[.int .i64 x, .int .i64 y])).run Tryz.prog w = .ok true w := by
    intro x y w
    rw [show (9999 : Nat) = 9998 + 1 from rfl, run_equalIn_struct w 9998 26 _ _ hS hp]
    simp only [Program.fieldsOf, Tryz.underlying26]
    go_simp
  have a26 := Tryz.isAgg26
  rw [show (10000 : Nat) = 9999 + 1 from rfl, run_equalIn_array w 9999 _ _ hu hi, hC]
  simp only [show List.range 2 = [0, 1] from rfl, Op.eqItems]
  go_simp
theorem guardTwo : Tryz.prog.eqGuardType Tryz.prog.depth 37 = false := by kernel_rfl
theorem lwFirst (E1 E2 : Int) (g d : Nat) (t : TypeId) (w : World) (h : w.heap[g]? = some (.cells #[.int .i64 E1, .int .i64 E2] t (0, 0))) :
    Calls Tryz.prog 30 #[.slice (some ⟨g, 0, none⟩) 2 d] w fun e w' => e = .returned (.int .i64 (firstE [E1, E2])) ∧ w = w' := by
  have hc : ∀ i (hi : i < [E1, E2].length), w.cell? ⟨g, i, none⟩ = some (.int .i64 [E1, E2][i]) := by
    intro i hi
    have hi' : i = 0 ∨ i = 1 := by simp at hi; omega
    rcases hi' with rfl | rfl <;> simp [World.cell?, h]
  go_enter Tryz.func30, Tryz.ntmps30
  go_wp2_with fail
  refine (refFirst g d [E1, E2] _ (by simp) hc).mono ?_
  rintro e w1 ⟨rfl, rfl⟩
  go_wp2
  go_ret
  exact ⟨rfl, rfl⟩
set_option maxHeartbeats 4000000 in
set_option maxRecDepth 100000 in
theorem refAround (x y : Int) (w : World) (hk : knotE x y = 0) :
    Calls Tryz.prog 29 #[.agg #[.int .i64 x, .int .i64 y]] w fun e w' => ∃ v, e = .returned v ∧ w'.ownsRow w.heap.size 24 3 v (aroundL x y).length (bcellsL (aroundL x y)) ∧ Below w.heap.size w w' := by
  obtain ⟨x1, x2, y1, y2⟩ := knotE_zero hk
  obtain ⟨ib, hib, hb0, hb01, hb02⟩ := info_parts Tryz.info24
  have HIB := Lib.hid hib
  have HB0 := Lib.hid hb0
  have HB1 := Lib.hid hb01
  have HB2 := Lib.hid hb02
  clear hib hb0 hb01 hb02 hk
  obtain ⟨w1, hw1, c0, c1, hb1, hz1⟩ := box2 w (.int .i64 x) (.int .i64 y) 26
  have HW1 := Lib.hid hw1
  clear hw1
  obtain ⟨w2, hw2⟩ : ∃ w2, w2 = w1.alloc (.cells #[.int .i64 (x - 1), .int .i64 (y - 1), .int .i64 1, .int .i64 (x + 1), .int .i64 (y - 1), .int .i64 (-1), .int .i64 x, .int .i64 y, .int .i64 (-1), .int .i64 x, .int .i64 y, .int .i64 1] 24) := ⟨_, rfl⟩
  have hz1' : w1.heap.size = w.heap.size + 1 := by rw [HW1.out]; simp
  have HO := Lib.hid (show OKS w2 (some ⟨w.heap.size + 1, 0, none⟩) 4 (aroundB x y) by rw [hw2, ← hz1']; exact oks_new w1 (aroundB x y) (by simp [aroundB]) _ (by simp [aroundB, bcellsL]))
  clear hz1'
  have hb2 : Below w1.heap.size w1 w2 := by rw [hw2]; exact (Below.refl _ _).alloc (Nat.le_refl _) _
  have B2 := Lib.hid (hb1.trans (hb2.mono hb1.size))
  have HW2 := Lib.hid hw2
  have hL4 : (aroundB x y).length = 4 := by simp [aroundB]
  have HAB := Lib.hid (show ∀ j, (h : j < (aroundB x y).length) → ∃ b, (aroundB x y)[j]? = some b ∧ (aroundB x y)[j] = b from fun j h => ⟨_, List.getElem?_eq_getElem h, rfl⟩)
  obtain ⟨L, hL⟩ : ∃ L, aroundB x y = L := ⟨_, rfl⟩
  have HL := Lib.hid hL
  rw [hL] at hL4 HO HAB
  clear hw2 hL
  go_enter Tryz.func29, Tryz.ntmps29
  go_wp2_with fail
  rw [← HW1.out]
  go_wp2_with fail
  rw [← HW2.out]
  clear c0 c1 hb1 hb2
  go_loopw [4, 5] (fun v i wr => ∃ j : Nat, j ≤ 4 ∧ i = .int .i64 j ∧ Hid (wr.ownsRow w2.heap.size 24 3 v ((L.take j).filter okB).length (bcellsL ((L.take j).filter okB))) ∧ Below w2.heap.size w2 wr) (fun _ i _ => 4 - (intOf i).toNat)
  case atStart => exact ⟨0, by omega, rfl, Lib.hid ⟨rfl, .inl ⟨rfl, rfl⟩⟩, Below.refl _ _⟩
  case round =>
    obtain ⟨j, hj, rfl, hown, hb⟩ := hrel
    have hbz := hb.size
    have hln := List.length_filter_le okB (L.take j)
    have hln2 : (L.take j).length ≤ 4 := by rw [List.length_take]; omega
    by_cases hlt : j < 4
    · obtain ⟨b, off, hA, hB, hc⟩ := (HO.out.below hb).2.2.2 (by omega)
      cases hA
      obtain ⟨d0, d1, d2⟩ := hc j (by omega)
      obtain ⟨k, hk, hk2⟩ := HAB.out j (by omega)
      rw [hk2] at d0 d1 d2
      simp only [Nat.zero_add] at d0 d1 d2
      have hj1 : (j : Int) < 4 := by omega
      have hj0 : (0 : Int) ≤ (j : Int) := by omega
      have HK := Lib.hid hk
      have hBr := hB
      clear hc hk hk2 hB
      have carry : ∀ {W : World}, Below wr.heap.size wr W → W.cell? ⟨w.heap.size + 1, j * 3, none⟩ = some (.int .i64 k.x) ∧ W.cell? ⟨w.heap.size + 1, j * 3 + 1, none⟩ = some (.int .i64 k.y) ∧ W.cell? ⟨w.heap.size + 1, j * 3 + 2, none⟩ = some (.int .i64 k.s) :=
        fun hq => ⟨(hq.cell (p := ⟨w.heap.size + 1, j * 3, none⟩) hBr).trans d0, (hq.cell (p := ⟨w.heap.size + 1, j * 3 + 1, none⟩) hBr).trans d1, (hq.cell (p := ⟨w.heap.size + 1, j * 3 + 2, none⟩) hBr).trans d2⟩
      by_cases hok : barE k.x k.y k.s = 0
      · have HFY := Lib.hid (show (L.take (j + 1)).filter okB = (L.take j).filter okB ++ [k] by
          rw [List.take_add_one, HK.out, List.filter_append]
          simp [okB, hok])
        have HOK := Lib.hid hok
        generalize (L.take j).filter okB = F at *
        clear hok hBr
        go_wp2_with fail
        refine (refCheckBar k.x k.y k.s _).mono ?_
        rintro e w3 ⟨rfl, hb3⟩
        rw [HOK.out]
        obtain ⟨e0, e1, e2⟩ := carry hb3
        have hO3 := ownsRow_below hown.out hb3
        have hz3 := hb3.size
        have B3 := hb.trans (hb3.mono hbz)
        clear d0 d1 d2 hown carry
        go_wp2_with (at_builtin; refine wpList_append_own _ rfl _ _ 22 rfl w2.heap.size 24 ib (.agg #[.int .i64 0, .int .i64 0, .int .i64 0]) 3 24 Tryz.underlying22 HIB.out HB0.out HB1.out HB2.out rfl (by decide) _ _ _ rfl (World.ownsRow.alloc hO3 _) ⟨w3.heap.size, 0, none⟩ 1 1 [.int .i64 k.x, .int .i64 k.y, .int .i64 k.s] rfl rfl (three_new _ _ _ _ _) ?c2 ?c3 ?c4 ?c5 ?_)
        case c2 => intro u hu; simp at hu; rcases hu with rfl | rfl | rfl <;> rfl
        case c3 => unfold maxLen; omega
        case c4 => omega
        case c5 => simp; omega
        intro v' w6 hown6 hgrow6 _
        have B6 : Below w2.heap.size w2 w6 := (B3.alloc (by omega) _).grown hgrow6 (by simp; omega) (ownsRow_base hO3)
        have HO6 := Lib.hid hown6
        clear hown6 hgrow6 hO3
        go_wp2
        go_roundw
        case rel => exact ⟨j + 1, by omega, by go_num, Lib.hid (by rw [HFY.out, List.length_append, bcellsL_snoc]; exact HO6.out), B6⟩
        case measure => simp [intOf]; omega
      · have HFY := Lib.hid (show (L.take (j + 1)).filter okB = (L.take j).filter okB by
          rw [List.take_add_one, HK.out, List.filter_append]
          simp [okB, hok])
        obtain ⟨E, hE⟩ : ∃ E, barE k.x k.y k.s = E := ⟨_, rfl⟩
        rw [hE] at hok
        have HE := Lib.hid hE
        have hq0 : (E == 0) = false := by rw [beq_eq_false_iff_ne]; exact hok
        generalize (L.take j).filter okB = F at *
        clear hok hBr hE
        go_wp2_with fail
        refine (refCheckBar k.x k.y k.s _).mono ?_
        rintro e w3 ⟨rfl, hb3⟩
        rw [HE.out]
        have hO3 := Lib.hid (ownsRow_below hown.out hb3)
        have B3 := hb.trans (hb3.mono hbz)
        clear d0 d1 d2 hown carry
        go_wp2
        go_roundw
        case rel => exact ⟨j + 1, by omega, by go_num, Lib.hid (by rw [HFY.out]; exact hO3.out), B3⟩
        case measure => simp [intOf]; omega
    · obtain rfl : j = 4 := by omega
      have HT := Lib.hid (show L.take 4 = aroundB x y by rw [List.take_of_length_le (by omega), HL.out])
      go_wp2
      go_ret
      have h9 := hown.out
      rw [HT.out] at h9
      exact ⟨_, rfl, ownsRow_mono h9 B2.out.size, B2.out.trans (hb.mono B2.out.size)⟩
end Go.Proofs.YtdeplhihcifmeaaGreatDoor

/- The law of NettingBars at each of its ways. -/
namespace Go.Proofs.YtdeplhihcifmeaaGreatDoor
open Go.RowKit Go.Shelf Ck

theorem hbT {a w w' : World} (h : Below a.heap.size a w) (hb : Below w.heap.size w w') : Below a.heap.size a w' := h.trans (hb.mono h.size)
theorem hbT2 {a b w w' : World} (h : Below a.heap.size a w ∧ Below b.heap.size b w) (hb : Below w.heap.size w w') : Below a.heap.size a w' ∧ Below b.heap.size b w' := ⟨hbT h.1 hb, hbT h.2 hb⟩
theorem hbT3 {a b w w' : World} {A : Option Addr} {c : Nat} {l : List Bar} (h : Below a.heap.size a w ∧ Below b.heap.size b w ∧ OKS w A c l) (hb : Below w.heap.size w w') : Below a.heap.size a w' ∧ Below b.heap.size b w' ∧ OKS w' A c l := ⟨hbT h.1 hb, hbT h.2.1 hb, h.2.2.below hb⟩
theorem sOf {a w : World} {P : Prop} (h : Below a.heap.size a w ∧ P) : Below a.heap.size a w := h.1
theorem bel_new (w : World) (o : Obj) : Below w.heap.size w (w.alloc o) := (Below.refl _ _).alloc (Nat.le_refl _) _
theorem aroundL_le (x y : Int) : (aroundL x y).length ≤ 4096 := by
  have := List.length_filter_le okB (aroundB x y)
  unfold aroundL
  have h4 : (aroundB x y).length = 4 := by simp [aroundB]
  omega
theorem box32Q (w : World) (x y s p q : Int) : ∃ w1, w1 = (w.alloc (.cells #[.int .i64 x, .int .i64 y, .int .i64 s] 24)).alloc (.cells #[.int .i64 p, .int .i64 q] 26) ∧
    (∀ {W : World}, Below w1.heap.size w1 W → W.cell? ⟨w.heap.size, 0, none⟩ = some (.int .i64 x) ∧ W.cell? ⟨w.heap.size, 1, none⟩ = some (.int .i64 y) ∧ W.cell? ⟨w.heap.size, 2, none⟩ = some (.int .i64 s) ∧ W.cell? ⟨w.heap.size + 1, 0, none⟩ = some (.int .i64 p) ∧ W.cell? ⟨w.heap.size + 1, 1, none⟩ = some (.int .i64 q)) ∧ Below w.heap.size w w1 ∧ w.heap.size + 1 < w1.heap.size := by
  obtain ⟨w0, rfl, h0, h1, h2, hb0, hz⟩ := box3 w (.int .i64 x) (.int .i64 y) (.int .i64 s) 24
  obtain ⟨w1, hw1, k0, k1, hb1, hz1⟩ := box2 (w.alloc (.cells #[.int .i64 x, .int .i64 y, .int .i64 s] 24)) (.int .i64 p) (.int .i64 q) 26
  have hs : (w.alloc (.cells #[.int .i64 x, .int .i64 y, .int .i64 s] 24)).heap.size = w.heap.size + 1 := by simp
  rw [hs] at k0 k1 hz1
  have e0 := (hb1.cell (p := ⟨w.heap.size, 0, none⟩) hz).trans h0
  have e1 := (hb1.cell (p := ⟨w.heap.size, 1, none⟩) hz).trans h1
  have e2 := (hb1.cell (p := ⟨w.heap.size, 2, none⟩) hz).trans h2
  have hz0 : w.heap.size < w1.heap.size := by omega
  exact ⟨w1, hw1, fun hb => ⟨(hb.cell (p := ⟨w.heap.size, 0, none⟩) hz0).trans e0, (hb.cell (p := ⟨w.heap.size, 1, none⟩) hz0).trans e1, (hb.cell (p := ⟨w.heap.size, 2, none⟩) hz0).trans e2, (hb.cell (p := ⟨w.heap.size + 1, 0, none⟩) hz1).trans k0, (hb.cell (p := ⟨w.heap.size + 1, 1, none⟩) hz1).trans k1⟩, hb0.trans (hb1.mono (by omega)), hz1⟩
theorem four_at {w W : World} {g : Nat} {a b c d : Value} {t : TypeId} (hb : Below w.heap.size w W) (h : w.heap[g]? = some (.cells #[a, b, c, d] t (0, 0))) : W.cell? ⟨g, 0, none⟩ = some a ∧ W.cell? ⟨g, 1, none⟩ = some b ∧ W.cell? ⟨g, 2, none⟩ = some c ∧ W.cell? ⟨g, 3, none⟩ = some d := by
  have h2 := (hb.block _ (Array.getElem?_eq_some_iff.1 h).1).trans h
  refine ⟨?_, ?_, ?_, ?_⟩ <;> simp [World.cell?, h2]
theorem st4 (w : World) (a b c d : Value) (t : TypeId) : ∃ wa w9, w.alloc (.cells #[.int .i64 0, .int .i64 0, .int .i64 0, .int .i64 0] t) = wa ∧ (((wa.setCell ⟨w.heap.size, 0, none⟩ a).setCell ⟨w.heap.size, 1, none⟩ b).setCell ⟨w.heap.size, 2, none⟩ c).setCell ⟨w.heap.size, 3, none⟩ d = w9 ∧
    wa.cell? ⟨w.heap.size, 0, none⟩ = some (.int .i64 0) ∧ wa.cell? ⟨w.heap.size, 1, none⟩ = some (.int .i64 0) ∧ wa.cell? ⟨w.heap.size, 2, none⟩ = some (.int .i64 0) ∧ wa.cell? ⟨w.heap.size, 3, none⟩ = some (.int .i64 0) ∧ (∀ i, wa.frozen? ⟨w.heap.size, i, none⟩ = false) ∧
    w9.heap[w.heap.size]? = some (.cells #[a, b, c, d] t (0, 0)) ∧ Below w.heap.size w w9 := by
  have h0 : (w.alloc (.cells #[.int .i64 0, .int .i64 0, .int .i64 0, .int .i64 0] t)).heap[w.heap.size]? = some (.cells #[.int .i64 0, .int .i64 0, .int .i64 0, .int .i64 0] t (0, 0)) := heap_alloc_new _ _
  obtain ⟨f0, f1, f2, f3, ff⟩ := four_cells h0
  obtain ⟨s1, g1⟩ := setBlockAt h0 0 a
  obtain ⟨s2, g2⟩ := setBlockAt s1 1 b
  obtain ⟨s3, g3⟩ := setBlockAt s2 2 c
  obtain ⟨s4, g4⟩ := setBlockAt s3 3 d
  refine ⟨_, _, rfl, rfl, f0, f1, f2, f3, ff, s4, ?_⟩
  have hb := bel_new w (.cells #[.int .i64 0, .int .i64 0, .int .i64 0, .int .i64 0] t)
  exact (((hb.setCell (by simp) _).setCell (by simp) _).setCell (by simp) _).setCell (by simp) _
set_option maxHeartbeats 8000000 in
set_option maxRecDepth 100000 in
theorem lawBarsBKF (A : Option Addr) (c : Nat) (l : List Bar) (x y s p q N B K F p0 p1 p2 p3 : Int) (h : Bool) (w : World) (hL : LaidLen w) (hO : OKS w A c l) (hlm : l.length ≤ 4098)
    (hS : ∀ W : World, Calls Tryz.prog 16 #[.slice A l.length c, .int .i64 40] W fun e w' => e = .returned (.bool true) ∧ W = w')
    (hN : netE l = N) (hB : barE x y s = B) (hK : knotE p q = K) (hF : firstE [N, B] = F)
    (hEnds : ∀ W : World, Calls Tryz.prog 24 #[.agg #[.int .i64 x, .int .i64 y, .int .i64 s]] W fun e w' => e = .returned (.tuple #[.agg #[.int .i64 p0, .int .i64 p1, .int .i64 p2, .int .i64 p3], .int .i64 B]) ∧ Below W.heap.size W w')
    (hHas : ∀ (W : World) (a : Option Addr) (c' : Nat), OKS W a c' l → Calls Tryz.prog 26 #[.slice a l.length c', .agg #[.int .i64 x, .int .i64 y, .int .i64 s]] W fun e w' => e = .returned (.tuple #[.bool h, .int .i64 F]) ∧ Below W.heap.size W w')
    (b0 : B = 0) (hREnds : ∀ W : World, Calls Tryz.prog 27 #[.agg #[.int .i64 x, .int .i64 y, .int .i64 s]] W fun e w' => e = .returned (.agg #[.int .i64 p0, .int .i64 p1, .int .i64 p2, .int .i64 p3]) ∧ Below W.heap.size W w')
    (k0 : K = 0)
    (f0 : F = 0) (hRHas : ∀ W : World, Below w.heap.size w W → Calls Tryz.prog 31 #[.slice A l.length c, .agg #[.int .i64 x, .int .i64 y, .int .i64 s]] W fun e w' => e = .returned (.bool h) ∧ Below W.heap.size W w') :
    Calls Tryz.prog 3 #[.slice A l.length c, .agg #[.int .i64 x, .int .i64 y, .int .i64 s], .agg #[.int .i64 p, .int .i64 q]] w fun e w' => e = .returned (.bool true) ∧ Below w.heap.size w w' := by
  subst b0
  subst k0
  subst f0
  obtain ⟨w1, hw1, Q, hb1, hz1⟩ := box32Q w x y s p q
  have HW1 := Lib.hid hw1
  have HLL := Lib.hid hL
  have HO := Lib.hid hO
  have HS := Lib.hid hS
  have HN := Lib.hid hN
  have HB := Lib.hid hB
  have HK := Lib.hid hK
  have HF := Lib.hid hF
  have HE := Lib.hid hEnds
  have HH := Lib.hid hHas
  have HRE := Lib.hid hREnds
  have HRH := Lib.hid hRHas
  have fin : ∀ {W : World}, Below w1.heap.size w1 W → Below w.heap.size w W := fun hb => hb1.trans (hb.mono hb1.size)
  have hq := eqTwo p0 p1 p2 p3
  have hgd := guardTwo
  have ex0 : ∀ (a b : Value) (w : World), (Instr.extract (.tuple #[a, b]) 0).run Tryz.prog w = .ok a w := fun _ _ _ => by kernel_rfl
  have ex1 : ∀ (a b : Value) (w : World), (Instr.extract (.tuple #[a, b]) 1).run Tryz.prog w = .ok b w := fun _ _ _ => by kernel_rfl
  have BW := Below.refl w1.heap.size w1
  clear hw1 hL hO hS hN hB hK hF hEnds hHas hREnds hRHas
  go_enter Tryz.func3, Tryz.ntmps3
  go_wp2_with fail
  rw [← HW1.out]
  go_wp2_with fail
  refine (awake1 _ (HLL.out.below (fin BW) HLL.out.lt)).mono ?_
  rintro e w2 ⟨rfl, hb2⟩
  replace BW := hbT BW hb2
  clear hb2
  go_wp2_with fail
  refine (HS.out _).mono ?_
  rintro e w3 ⟨rfl, rfl⟩
  go_wp2_with fail
  refine wp_region_held_drew (S := (fun w' => Below w1.heap.size w1 w')) (by kernel_rfl) ?_ (fun hHeld => ?_)
  · exact below_drew BW
  refine wpAnyH_take (i := 0) (oi := _) (v := ?va0) rfl (by kernel_rfl) (by kernel_rfl) (by kernel_rfl) (fun _ _ _ h => h) (Or.inl ⟨by rfl, ?hya0⟩) (by assumption) ?resta0
  case hya0 => (intro w hSw; (try dsimp only at hSw); go_simp; first | done | rfl)
  try simp only [List.getElem_toArray, List.getElem_cons_succ, List.getElem_cons_zero, Act.put, List.setIfInBounds_toArray, List.set_cons_zero, List.set_cons_succ]
  refine wpAnyH_take (i := 2) (oi := _) (v := ?va2) rfl (by kernel_rfl) (by kernel_rfl) (by kernel_rfl) (fun _ _ _ h => h) (Or.inl ⟨by rfl, ?hya2⟩) (by assumption) ?resta2
  case hya2 => (intro w hSw; (try dsimp only at hSw); obtain ⟨s0, s1, s2, s3, s4⟩ := Q hSw; go_simp; first | done | rfl)
  try simp only [List.getElem_toArray, List.getElem_cons_succ, List.getElem_cons_zero, Act.put, List.setIfInBounds_toArray, List.set_cons_zero, List.set_cons_succ]
  refine wpAnyH_take (i := 4) (oi := _) (v := ?va4) rfl (by kernel_rfl) (by kernel_rfl) (by kernel_rfl) (fun _ _ _ h => h) (Or.inl ⟨by rfl, ?hya4⟩) (by assumption) ?resta4
  case hya4 => (intro w hSw; (try dsimp only at hSw); obtain ⟨s0, s1, s2, s3, s4⟩ := Q hSw; go_simp; first | done | rfl)
  try simp only [List.getElem_toArray, List.getElem_cons_succ, List.getElem_cons_zero, Act.put, List.setIfInBounds_toArray, List.set_cons_zero, List.set_cons_succ]
  refine wpAnyH_ready (rs := [1]) (by kernel_rfl) (by simp) ?_
  refine AllReadyH.cons (o := _) rfl (fun K hK => ?_) AllReadyH.nil
  simp only [List.getElem_toArray, List.getElem_cons_succ, List.getElem_cons_zero]
  go_simp
  go_at_call 17
  refine (refCheckNetA A c l _ (HO.out.below (fin (by assumption)))).mono ?_
  rintro e w' ⟨rfl, hbq⟩
  rw [HN.out]
  refine hK.out _ _ (hbT (by assumption) hbq) (fun hHeld => ?_)
  clear hK K
  try simp only [List.getElem_toArray, List.getElem_cons_succ, List.getElem_cons_zero, Act.put, List.setIfInBounds_toArray, List.set_cons_zero, List.set_cons_succ]
  refine wpAnyH_ready (rs := [3]) (by kernel_rfl) (by simp) ?_
  refine AllReadyH.cons (o := _) rfl (fun K hK => ?_) AllReadyH.nil
  simp only [List.getElem_toArray, List.getElem_cons_succ, List.getElem_cons_zero]
  go_simp
  go_at_call 18
  refine (refCheckBar _ _ _ _).mono ?_
  rintro e w' ⟨rfl, hbq⟩
  rw [HB.out]
  refine hK.out _ _ (hbT (by assumption) hbq) (fun hHeld => ?_)
  clear hK K
  try simp only [List.getElem_toArray, List.getElem_cons_succ, List.getElem_cons_zero, Act.put, List.setIfInBounds_toArray, List.set_cons_zero, List.set_cons_succ]
  refine wpAnyH_ready (rs := [5]) (by kernel_rfl) (by simp) ?_
  refine AllReadyH.cons (o := _) rfl (fun K hK => ?_) AllReadyH.nil
  simp only [List.getElem_toArray, List.getElem_cons_succ, List.getElem_cons_zero]
  go_simp
  go_at_call 19
  refine (refCheckKnot _ _ _).mono ?_
  rintro e w' ⟨rfl, hbq⟩
  rw [HK.out]
  refine hK.out _ _ (hbT (by assumption) hbq) (fun hHeld => ?_)
  clear hK K
  try simp only [List.getElem_toArray, List.getElem_cons_succ, List.getElem_cons_zero, Act.put, List.setIfInBounds_toArray, List.set_cons_zero, List.set_cons_succ]
  refine wpAnyH_take (i := 6) (oi := _) (v := ?va6) rfl (by kernel_rfl) (by kernel_rfl) (by kernel_rfl) (fun _ _ _ h => h) (Or.inl ⟨by rfl, ?hya6⟩) (by assumption) ?resta6
  case hya6 => (intro w hSw; (try dsimp only at hSw); go_simp; first | done | rfl)
  try simp only [List.getElem_toArray, List.getElem_cons_succ, List.getElem_cons_zero, Act.put, List.setIfInBounds_toArray, List.set_cons_zero, List.set_cons_succ]
  refine wpAnyH_take (i := 7) (oi := _) (v := ?va7) rfl (by kernel_rfl) (by kernel_rfl) (by kernel_rfl) (fun _ _ _ h => h) (Or.inl ⟨by rfl, ?hya7⟩) (by assumption) ?resta7
  case hya7 => (intro w hSw; (try dsimp only at hSw); go_simp; first | done | rfl)
  try simp only [List.getElem_toArray, List.getElem_cons_succ, List.getElem_cons_zero, Act.put, List.setIfInBounds_toArray, List.set_cons_zero, List.set_cons_succ]
  refine wpAnyH_take (i := 8) (oi := _) (v := ?va8) rfl (by kernel_rfl) (by kernel_rfl) (by kernel_rfl) (fun _ _ _ h => h) (Or.inl ⟨by rfl, ?hya8⟩) (by assumption) ?resta8
  case hya8 => (intro w hSw; (try dsimp only at hSw); go_simp; first | done | rfl)
  try simp only [List.getElem_toArray, List.getElem_cons_succ, List.getElem_cons_zero, Act.put, List.setIfInBounds_toArray, List.set_cons_zero, List.set_cons_succ]
  refine wpAnyH_done (by kernel_rfl) ?_ _
  replace BW := hHeld
  go_wp2_with fail
  refine (lwCopied A c l _ hlm (HO.out.below (fin BW))).mono ?_
  rintro e w4 ⟨a4, c4, rfl, o4, hb4⟩
  replace BW := hbT BW hb4
  have O4 := Lib.hid o4
  clear o4 hb4
  go_wp2_with fail
  refine (netCheckNetA a4 c4 l _ O4.out).mono ?_
  rintro e w5 ⟨rfl, hb5⟩
  rw [HN.out]
  replace BW := hbT BW hb5
  clear hb5
  have qs := Q BW
  obtain ⟨s0, s1, s2, s3, s4⟩ := qs
  go_wp2_with fail
  refine (netCheckBar x y s _).mono ?_
  rintro e w6 ⟨rfl, hb6⟩
  rw [HB.out]
  replace BW := hbT BW hb6
  clear hb6 s0 s1 s2 s3 s4
  have qs := Q BW
  obtain ⟨s0, s1, s2, s3, s4⟩ := qs
  go_wp2_with fail
  refine (netCheckKnot p q _).mono ?_
  rintro e w7 ⟨rfl, hb7⟩
  rw [HK.out]
  replace BW := hbT BW hb7
  clear hb7 s0 s1 s2 s3 s4
  have qs := Q BW
  obtain ⟨s0, s1, s2, s3, s4⟩ := qs
  go_wp2_with fail
  refine (HE.out _).mono ?_
  rintro e w8 ⟨rfl, hb8⟩
  replace BW := hbT BW hb8
  clear hb8 s0 s1 s2 s3 s4
  obtain ⟨wa, w9, hwa, hw9, r0, r1, r2, r3, rf, hH9, hb9⟩ := st4 w8 (.int .i64 p0) (.int .i64 p1) (.int .i64 p2) (.int .i64 p3) 37
  have hg9 : w8.heap.size < w9.heap.size := (Array.getElem?_eq_some_iff.1 hH9).1
  replace BW := hbT BW hb9
  clear hb9
  have R : ∀ {W : World}, Below w9.heap.size w9 W → W.cell? ⟨w8.heap.size, 0, none⟩ = some (.int .i64 p0) ∧ W.cell? ⟨w8.heap.size, 1, none⟩ = some (.int .i64 p1) ∧ W.cell? ⟨w8.heap.size, 2, none⟩ = some (.int .i64 p2) ∧ W.cell? ⟨w8.heap.size, 3, none⟩ = some (.int .i64 p3) := fun hb => four_at hb hH9
  have qs := Q BW
  obtain ⟨s0, s1, s2, s3, s4⟩ := qs
  clear hH9
  go_wp2_with fail
  refine (netAround p q _ ((knotE_ok p q).1 HK.out)).mono ?_
  rintro e w10 ⟨va, rfl, rowa, hb10⟩
  obtain ⟨aa, ca, rfl, oa⟩ := own_oks rowa
  have OA := Lib.hid oa
  clear rowa oa
  have BX := Lib.hid hb10
  replace BW := hbT BW hb10
  clear hb10 s0 s1 s2 s3 s4 r0 r1 r2 r3 rf hwa hw9
  go_wp2_with fail
  refine wp_region_held_drew (S := (fun w' => Below w1.heap.size w1 w' ∧ Below w9.heap.size w9 w' ∧ OKS w' aa ca (aroundL p q))) (by kernel_rfl) ?_ (fun hHeld => ?_)
  · exact ⟨below_drew BW, below_drew BX.out, OA.out.below (below_drew (Below.refl _ _))⟩
  refine wpAnyH_take (i := 0) (oi := _) (v := ?vb0) rfl (by kernel_rfl) (by kernel_rfl) (by kernel_rfl) (fun _ _ _ h => h) (Or.inl ⟨by rfl, ?hyb0⟩) (by assumption) ?restb0
  case hyb0 => (intro w hSw; (try dsimp only at hSw); go_simp; first | done | rfl)
  try simp only [List.getElem_toArray, List.getElem_cons_succ, List.getElem_cons_zero, Act.put, List.setIfInBounds_toArray, List.set_cons_zero, List.set_cons_succ]
  refine wpAnyH_take (i := 2) (oi := _) (v := ?vb2) rfl (by kernel_rfl) (by kernel_rfl) (by kernel_rfl) (fun _ _ _ h => h) (Or.inl ⟨by rfl, ?hyb2⟩) (by assumption) ?restb2
  case hyb2 => (intro w hSw; (try dsimp only at hSw); obtain ⟨s0, s1, s2, s3, s4⟩ := Q hSw.1; obtain ⟨r0, r1, r2, r3⟩ := R hSw.2.1; go_simp; first | done | rfl)
  try simp only [List.getElem_toArray, List.getElem_cons_succ, List.getElem_cons_zero, Act.put, List.setIfInBounds_toArray, List.set_cons_zero, List.set_cons_succ]
  refine wpAnyH_ready (rs := [1]) (by kernel_rfl) (by simp) ?_
  refine AllReadyH.cons (o := _) rfl (fun K hK => ?_) AllReadyH.nil
  simp only [List.getElem_toArray, List.getElem_cons_succ, List.getElem_cons_zero]
  go_simp
  go_at_call 21
  refine (lwCopied A c l _ hlm (HO.out.below (fin (sOf (by assumption))))).mono ?_
  rintro e w' ⟨a8, c8, rfl, o8, hbq⟩
  refine hK.out _ _ (hbT3 (by assumption) hbq) (fun hHeld => ?_)
  clear hK K
  try simp only [List.getElem_toArray, List.getElem_cons_succ, List.getElem_cons_zero, Act.put, List.setIfInBounds_toArray, List.set_cons_zero, List.set_cons_succ]
  refine wpAnyH_ready (rs := [3]) (by kernel_rfl) (by simp) ?_
  refine AllReadyH.cons (o := _) rfl (fun K hK => ?_) AllReadyH.nil
  simp only [List.getElem_toArray, List.getElem_cons_succ, List.getElem_cons_zero]
  go_simp
  go_at_call 26
  refine (HH.out _ _ _ o8).mono ?_
  rintro e w' ⟨rfl, hbq⟩
  refine hK.out _ _ (hbT3 (by assumption) hbq) (fun hHeld => ?_)
  clear hK K
  try simp only [List.getElem_toArray, List.getElem_cons_succ, List.getElem_cons_zero, Act.put, List.setIfInBounds_toArray, List.set_cons_zero, List.set_cons_succ]
  refine wpAnyH_take (i := 4) (oi := _) (v := ?vb4) rfl (by kernel_rfl) (by kernel_rfl) (by kernel_rfl) (fun _ _ _ h => h) (Or.inl ⟨by rfl, ?hyb4⟩) (by assumption) ?restb4
  case hyb4 => (intro w hSw; (try dsimp only at hSw); go_simp; first | done | rfl)
  try simp only [List.getElem_toArray, List.getElem_cons_succ, List.getElem_cons_zero, Act.put, List.setIfInBounds_toArray, List.set_cons_zero, List.set_cons_succ]
  refine wpAnyH_take (i := 5) (oi := _) (v := ?vb5) rfl (by kernel_rfl) (by kernel_rfl) (by kernel_rfl) (fun _ _ _ h => h) (Or.inl ⟨by rfl, ?hyb5⟩) (by assumption) ?restb5
  case hyb5 => (intro w hSw; (try dsimp only at hSw); go_simp; first | done | rfl)
  try simp only [List.getElem_toArray, List.getElem_cons_succ, List.getElem_cons_zero, Act.put, List.setIfInBounds_toArray, List.set_cons_zero, List.set_cons_succ]
  refine wpAnyH_take (i := 6) (oi := _) (v := ?vb6) rfl (by kernel_rfl) (by kernel_rfl) (by kernel_rfl) (fun _ _ _ h => h) (Or.inl ⟨by rfl, ?hyb6⟩) (by assumption) ?restb6
  case hyb6 => (intro w hSw; (try dsimp only at hSw); go_simp; first | done | rfl)
  try simp only [List.getElem_toArray, List.getElem_cons_succ, List.getElem_cons_zero, Act.put, List.setIfInBounds_toArray, List.set_cons_zero, List.set_cons_succ]
  refine wpAnyH_take (i := 7) (oi := _) (v := ?vb7) rfl (by kernel_rfl) (by kernel_rfl) (by kernel_rfl) (fun _ _ _ h => h) (Or.inl ⟨by rfl, ?hyb7⟩) (by assumption) ?restb7
  case hyb7 => (intro w hSw; (try dsimp only at hSw); go_simp; first | done | rfl)
  try simp only [List.getElem_toArray, List.getElem_cons_succ, List.getElem_cons_zero, Act.put, List.setIfInBounds_toArray, List.set_cons_zero, List.set_cons_succ]
  refine wpAnyH_take (i := 8) (oi := _) (v := ?vb8) rfl (by kernel_rfl) (by kernel_rfl) (by kernel_rfl) (fun _ _ _ h => h) (Or.inl ⟨by rfl, ?hyb8⟩) (by assumption) ?restb8
  case hyb8 => (intro w hSw; (try dsimp only at hSw); go_simp; first | done | rfl)
  try simp only [List.getElem_toArray, List.getElem_cons_succ, List.getElem_cons_zero, Act.put, List.setIfInBounds_toArray, List.set_cons_zero, List.set_cons_succ]
  refine wpAnyH_done (by kernel_rfl) ?_ _
  have HD := Lib.hid hHeld
  clear o8
  go_wp2_with fail
  refine wp_region_held_drew (S := (fun w' => Below w1.heap.size w1 w' ∧ Below w9.heap.size w9 w' ∧ OKS w' aa ca (aroundL p q))) (by kernel_rfl) ?_ (fun hHeld => ?_)
  · exact ⟨below_drew HD.out.1, below_drew HD.out.2.1, HD.out.2.2.below (below_drew (Below.refl _ _))⟩
  refine wpAnyH_take (i := 0) (oi := _) (v := ?vc0) rfl (by kernel_rfl) (by kernel_rfl) (by kernel_rfl) (fun _ _ _ h => h) (Or.inl ⟨by rfl, ?hyc0⟩) (by assumption) ?restc0
  case hyc0 => (intro w hSw; (try dsimp only at hSw); go_simp; first | done | rfl)
  try simp only [List.getElem_toArray, List.getElem_cons_succ, List.getElem_cons_zero, Act.put, List.setIfInBounds_toArray, List.set_cons_zero, List.set_cons_succ]
  refine wpAnyH_take (i := 1) (oi := _) (v := ?vc1) rfl (by kernel_rfl) (by kernel_rfl) (by kernel_rfl) (fun _ _ _ h => h) (Or.inl ⟨by rfl, ?hyc1⟩) (by assumption) ?restc1
  case hyc1 => (intro w hSw; (try dsimp only at hSw); go_simp; first | done | rfl)
  try simp only [List.getElem_toArray, List.getElem_cons_succ, List.getElem_cons_zero, Act.put, List.setIfInBounds_toArray, List.set_cons_zero, List.set_cons_succ]
  refine wpAnyH_take (i := 2) (oi := _) (v := ?vc2) rfl (by kernel_rfl) (by kernel_rfl) (by kernel_rfl) (fun _ _ _ h => h) (Or.inl ⟨by rfl, ?hyc2⟩) (by assumption) ?restc2
  case hyc2 => (intro w hSw; (try dsimp only at hSw); go_simp; first | done | rfl)
  try simp only [List.getElem_toArray, List.getElem_cons_succ, List.getElem_cons_zero, Act.put, List.setIfInBounds_toArray, List.set_cons_zero, List.set_cons_succ]
  refine wpAnyH_take (i := 3) (oi := _) (v := undef) rfl (by kernel_rfl) (by kernel_rfl) (by kernel_rfl) (fun _ _ _ h => h) (Or.inr ⟨by rfl, rfl⟩) (by assumption) ?restc3
  try simp only [List.getElem_toArray, List.getElem_cons_succ, List.getElem_cons_zero, Act.put, List.setIfInBounds_toArray, List.set_cons_zero, List.set_cons_succ]
  refine wpAnyH_take (i := 4) (oi := _) (v := undef) rfl (by kernel_rfl) (by kernel_rfl) (by kernel_rfl) (fun _ _ _ h => h) (Or.inr ⟨by rfl, rfl⟩) (by assumption) ?restc4
  try simp only [List.getElem_toArray, List.getElem_cons_succ, List.getElem_cons_zero, Act.put, List.setIfInBounds_toArray, List.set_cons_zero, List.set_cons_succ]
  refine wpAnyH_take (i := 5) (oi := _) (v := undef) rfl (by kernel_rfl) (by kernel_rfl) (by kernel_rfl) (fun _ _ _ h => h) (Or.inr ⟨by rfl, rfl⟩) (by assumption) ?restc5
  try simp only [List.getElem_toArray, List.getElem_cons_succ, List.getElem_cons_zero, Act.put, List.setIfInBounds_toArray, List.set_cons_zero, List.set_cons_succ]
  refine wpAnyH_take (i := 6) (oi := _) (v := undef) rfl (by kernel_rfl) (by kernel_rfl) (by kernel_rfl) (fun _ _ _ h => h) (Or.inr ⟨by rfl, rfl⟩) (by assumption) ?restc6
  try simp only [List.getElem_toArray, List.getElem_cons_succ, List.getElem_cons_zero, Act.put, List.setIfInBounds_toArray, List.set_cons_zero, List.set_cons_succ]
  refine wpAnyH_take (i := 7) (oi := _) (v := undef) rfl (by kernel_rfl) (by kernel_rfl) (by kernel_rfl) (fun _ _ _ h => h) (Or.inr ⟨by rfl, rfl⟩) (by assumption) ?restc7
  try simp only [List.getElem_toArray, List.getElem_cons_succ, List.getElem_cons_zero, Act.put, List.setIfInBounds_toArray, List.set_cons_zero, List.set_cons_succ]
  refine wpAnyH_take (i := 8) (oi := _) (v := undef) rfl (by kernel_rfl) (by kernel_rfl) (by kernel_rfl) (fun _ _ _ h => h) (Or.inr ⟨by rfl, rfl⟩) (by assumption) ?restc8
  try simp only [List.getElem_toArray, List.getElem_cons_succ, List.getElem_cons_zero, Act.put, List.setIfInBounds_toArray, List.set_cons_zero, List.set_cons_succ]
  refine wpAnyH_take (i := 9) (oi := _) (v := undef) rfl (by kernel_rfl) (by kernel_rfl) (by kernel_rfl) (fun _ _ _ h => h) (Or.inr ⟨by rfl, rfl⟩) (by assumption) ?restc9
  try simp only [List.getElem_toArray, List.getElem_cons_succ, List.getElem_cons_zero, Act.put, List.setIfInBounds_toArray, List.set_cons_zero, List.set_cons_succ]
  refine wpAnyH_take (i := 10) (oi := _) (v := undef) rfl (by kernel_rfl) (by kernel_rfl) (by kernel_rfl) (fun _ _ _ h => h) (Or.inr ⟨by rfl, rfl⟩) (by assumption) ?restc10
  try simp only [List.getElem_toArray, List.getElem_cons_succ, List.getElem_cons_zero, Act.put, List.setIfInBounds_toArray, List.set_cons_zero, List.set_cons_succ]
  refine wpAnyH_take (i := 11) (oi := _) (v := ?vc11) rfl (by kernel_rfl) (by kernel_rfl) (by kernel_rfl) (fun _ _ _ h => h) (Or.inl ⟨by rfl, ?hyc11⟩) (by assumption) ?restc11
  case hyc11 => (intro w hSw; (try dsimp only at hSw); go_simp; first | done | rfl)
  try simp only [List.getElem_toArray, List.getElem_cons_succ, List.getElem_cons_zero, Act.put, List.setIfInBounds_toArray, List.set_cons_zero, List.set_cons_succ]
  refine wpAnyH_take (i := 12) (oi := _) (v := ?vc12) rfl (by kernel_rfl) (by kernel_rfl) (by kernel_rfl) (fun _ _ _ h => h) (Or.inl ⟨by rfl, ?hyc12⟩) (by assumption) ?restc12
  case hyc12 => (intro w hSw; (try dsimp only at hSw); go_simp; first | done | rfl)
  try simp only [List.getElem_toArray, List.getElem_cons_succ, List.getElem_cons_zero, Act.put, List.setIfInBounds_toArray, List.set_cons_zero, List.set_cons_succ]
  refine wpAnyH_take (i := 13) (oi := _) (v := ?vc13) rfl (by kernel_rfl) (by kernel_rfl) (by kernel_rfl) (fun _ _ _ h => h) (Or.inl ⟨by rfl, ?hyc13⟩) (by assumption) ?restc13
  case hyc13 => (intro w hSw; (try dsimp only at hSw); go_simp; first | done | rfl)
  try simp only [List.getElem_toArray, List.getElem_cons_succ, List.getElem_cons_zero, Act.put, List.setIfInBounds_toArray, List.set_cons_zero, List.set_cons_succ]
  refine wpAnyH_take (i := 14) (oi := _) (v := ?vc14) rfl (by kernel_rfl) (by kernel_rfl) (by kernel_rfl) (fun _ _ _ h => h) (Or.inl ⟨by rfl, ?hyc14⟩) (by assumption) ?restc14
  case hyc14 => (intro w hSw; (try dsimp only at hSw); go_simp; first | done | rfl)
  try simp only [List.getElem_toArray, List.getElem_cons_succ, List.getElem_cons_zero, Act.put, List.setIfInBounds_toArray, List.set_cons_zero, List.set_cons_succ]
  refine wpAnyH_take (i := 15) (oi := _) (v := ?vc15) rfl (by kernel_rfl) (by kernel_rfl) (by kernel_rfl) (fun _ _ _ h => h) (Or.inl ⟨by rfl, ?hyc15⟩) (by assumption) ?restc15
  case hyc15 => (intro w hSw; (try dsimp only at hSw); go_simp; first | done | rfl)
  try simp only [List.getElem_toArray, List.getElem_cons_succ, List.getElem_cons_zero, Act.put, List.setIfInBounds_toArray, List.set_cons_zero, List.set_cons_succ]
  refine wpAnyH_take (i := 16) (oi := _) (v := ?vc16) rfl (by kernel_rfl) (by kernel_rfl) (by kernel_rfl) (fun _ _ _ h => h) (Or.inl ⟨by rfl, ?hyc16⟩) (by assumption) ?restc16
  case hyc16 => (intro w hSw; (try dsimp only at hSw); go_simp; first | done | rfl)
  try simp only [List.getElem_toArray, List.getElem_cons_succ, List.getElem_cons_zero, Act.put, List.setIfInBounds_toArray, List.set_cons_zero, List.set_cons_succ]
  refine wpAnyH_take (i := 17) (oi := _) (v := ?vc17) rfl (by kernel_rfl) (by kernel_rfl) (by kernel_rfl) (fun _ _ _ h => h) (Or.inl ⟨by rfl, ?hyc17⟩) (by assumption) ?restc17
  case hyc17 => (intro w hSw; (try dsimp only at hSw); go_simp; first | done | rfl)
  try simp only [List.getElem_toArray, List.getElem_cons_succ, List.getElem_cons_zero, Act.put, List.setIfInBounds_toArray, List.set_cons_zero, List.set_cons_succ]
  refine wpAnyH_take (i := 18) (oi := _) (v := ?vc18) rfl (by kernel_rfl) (by kernel_rfl) (by kernel_rfl) (fun _ _ _ h => h) (Or.inl ⟨by rfl, ?hyc18⟩) (by assumption) ?restc18
  case hyc18 => (intro w hSw; (try dsimp only at hSw); go_simp; first | done | rfl)
  try simp only [List.getElem_toArray, List.getElem_cons_succ, List.getElem_cons_zero, Act.put, List.setIfInBounds_toArray, List.set_cons_zero, List.set_cons_succ]
  refine wpAnyH_take (i := 19) (oi := _) (v := ?vc19) rfl (by kernel_rfl) (by kernel_rfl) (by kernel_rfl) (fun _ _ _ h => h) (Or.inl ⟨by rfl, ?hyc19⟩) (by assumption) ?restc19
  case hyc19 => (intro w hSw; (try dsimp only at hSw); obtain ⟨s0, s1, s2, s3, s4⟩ := Q hSw.1; obtain ⟨r0, r1, r2, r3⟩ := R hSw.2.1; go_simp; first | done | rfl)
  try simp only [List.getElem_toArray, List.getElem_cons_succ, List.getElem_cons_zero, Act.put, List.setIfInBounds_toArray, List.set_cons_zero, List.set_cons_succ]
  refine wpAnyH_take (i := 20) (oi := _) (v := ?vc20) rfl (by kernel_rfl) (by kernel_rfl) (by kernel_rfl) (fun _ _ _ h => h) (Or.inl ⟨by rfl, ?hyc20⟩) (by assumption) ?restc20
  case hyc20 => (intro w hSw; (try dsimp only at hSw); obtain ⟨s0, s1, s2, s3, s4⟩ := Q hSw.1; obtain ⟨r0, r1, r2, r3⟩ := R hSw.2.1; go_simp; first | done | rfl)
  try simp only [List.getElem_toArray, List.getElem_cons_succ, List.getElem_cons_zero, Act.put, List.setIfInBounds_toArray, List.set_cons_zero, List.set_cons_succ]
  refine wpAnyH_ready (rs := [21]) (by kernel_rfl) (by simp) ?_
  refine AllReadyH.cons (o := _) rfl (fun K hK => ?_) AllReadyH.nil
  simp only [List.getElem_toArray, List.getElem_cons_succ, List.getElem_cons_zero]
  go_simp
  go_at_call 27
  refine (HRE.out _).mono ?_
  rintro e w' ⟨rfl, hbq⟩
  refine hK.out _ _ (hbT3 (by assumption) hbq) (fun hHeld => ?_)
  clear hK K
  try simp only [List.getElem_toArray, List.getElem_cons_succ, List.getElem_cons_zero, Act.put, List.setIfInBounds_toArray, List.set_cons_zero, List.set_cons_succ]
  refine wpAnyH_take (i := 22) (oi := _) (v := ?vc22) rfl (by kernel_rfl) (by kernel_rfl) (by kernel_rfl) (fun _ _ _ h => h) (Or.inl ⟨by rfl, ?hyc22⟩) (by assumption) ?restc22
  case hyc22 => (intro w hSw; (try dsimp only at hSw); go_simp; first | done | rfl)
  try simp only [List.getElem_toArray, List.getElem_cons_succ, List.getElem_cons_zero, Act.put, List.setIfInBounds_toArray, List.set_cons_zero, List.set_cons_succ]
  refine wpAnyH_take (i := 23) (oi := _) (v := ?vc23) rfl (by kernel_rfl) (by kernel_rfl) (by kernel_rfl) (fun _ _ _ h => h) (Or.inl ⟨by rfl, ?hyc23⟩) (by assumption) ?restc23
  case hyc23 => (intro w hSw; (try dsimp only at hSw); go_simp; first | done | rfl)
  try simp only [List.getElem_toArray, List.getElem_cons_succ, List.getElem_cons_zero, Act.put, List.setIfInBounds_toArray, List.set_cons_zero, List.set_cons_succ]
  refine wpAnyH_take (i := 24) (oi := _) (v := ?vc24) rfl (by kernel_rfl) (by kernel_rfl) (by kernel_rfl) (fun _ _ _ h => h) (Or.inl ⟨by rfl, ?hyc24⟩) (by assumption) ?restc24
  case hyc24 => (intro w hSw; (try dsimp only at hSw); go_simp; first | done | rfl)
  try simp only [List.getElem_toArray, List.getElem_cons_succ, List.getElem_cons_zero, Act.put, List.setIfInBounds_toArray, List.set_cons_zero, List.set_cons_succ]
  refine wpAnyH_take (i := 25) (oi := _) (v := ?vc25) rfl (by kernel_rfl) (by kernel_rfl) (by kernel_rfl) (fun _ _ _ h => h) (Or.inl ⟨by rfl, ?hyc25⟩) (by assumption) ?restc25
  case hyc25 => (intro w hSw; (try dsimp only at hSw); go_simp; first | done | rfl)
  try simp only [List.getElem_toArray, List.getElem_cons_succ, List.getElem_cons_zero, Act.put, List.setIfInBounds_toArray, List.set_cons_zero, List.set_cons_succ]
  refine wpAnyH_done (by kernel_rfl) ?_ _
  clear HD
  have HD := Lib.hid hHeld
  replace BW := HD.out.1
  have OB := Lib.hid HD.out.2.2
  have qs := Q BW
  obtain ⟨s0, s1, s2, s3, s4⟩ := qs
  go_wp2_with fail
  refine (refAround p q _ HK.out).mono ?_
  rintro e w12 ⟨vb, rfl, rowb, hb12⟩
  obtain ⟨ab, cb, rfl, ob⟩ := own_oks rowb
  have OD := Lib.hid ob
  replace BW := hbT BW hb12
  replace OB := Lib.hid (OB.out.below hb12)
  clear rowb ob hb12 s0 s1 s2 s3 s4
  go_wp2_with fail
  refine (lwNetOk aa ab ca cb (aroundL p q) _ (aroundL_le p q) OB.out OD.out).mono ?_
  rintro e w13 ⟨rfl, hb13⟩
  replace BW := hbT BW hb13
  clear hb13
  go_wp2_with fail
  refine (lwFirst N 0 _ _ 3 _ (by exact heap_alloc_new _ _)).mono ?_
  rintro e w14 ⟨rfl, rfl⟩
  rw [HF.out]
  replace BW := hbT BW (bel_new _ (.cells #[.int .i64 N, .int .i64 0] 3))
  have qs := Q BW
  obtain ⟨s0, s1, s2, s3, s4⟩ := qs
  go_wp2_with fail
  refine (HRH.out _ (fin BW)).mono ?_
  rintro e w15 ⟨rfl, hb15⟩
  replace BW := hbT BW hb15
  clear hb15 s0 s1 s2 s3 s4
  go_wp2
  go_ret
  exact ⟨by simp, fin BW⟩
set_option maxHeartbeats 8000000 in
set_option maxRecDepth 100000 in
theorem lawBarsBKf (A : Option Addr) (c : Nat) (l : List Bar) (x y s p q N B K F p0 p1 p2 p3 : Int) (h : Bool) (w : World) (hL : LaidLen w) (hO : OKS w A c l) (hlm : l.length ≤ 4098)
    (hS : ∀ W : World, Calls Tryz.prog 16 #[.slice A l.length c, .int .i64 40] W fun e w' => e = .returned (.bool true) ∧ W = w')
    (hN : netE l = N) (hB : barE x y s = B) (hK : knotE p q = K) (hF : firstE [N, B] = F)
    (hEnds : ∀ W : World, Calls Tryz.prog 24 #[.agg #[.int .i64 x, .int .i64 y, .int .i64 s]] W fun e w' => e = .returned (.tuple #[.agg #[.int .i64 p0, .int .i64 p1, .int .i64 p2, .int .i64 p3], .int .i64 B]) ∧ Below W.heap.size W w')
    (hHas : ∀ (W : World) (a : Option Addr) (c' : Nat), OKS W a c' l → Calls Tryz.prog 26 #[.slice a l.length c', .agg #[.int .i64 x, .int .i64 y, .int .i64 s]] W fun e w' => e = .returned (.tuple #[.bool h, .int .i64 F]) ∧ Below W.heap.size W w')
    (b0 : B = 0) (hREnds : ∀ W : World, Calls Tryz.prog 27 #[.agg #[.int .i64 x, .int .i64 y, .int .i64 s]] W fun e w' => e = .returned (.agg #[.int .i64 p0, .int .i64 p1, .int .i64 p2, .int .i64 p3]) ∧ Below W.heap.size W w')
    (k0 : K = 0)
    (f0 : F ≠ 0) (h0 : h = false) :
    Calls Tryz.prog 3 #[.slice A l.length c, .agg #[.int .i64 x, .int .i64 y, .int .i64 s], .agg #[.int .i64 p, .int .i64 q]] w fun e w' => e = .returned (.bool true) ∧ Below w.heap.size w w' := by
  subst b0
  subst k0
  subst h0
  have f1 : (F == 0) = false := by rw [beq_eq_false_iff_ne]; exact f0
  obtain ⟨w1, hw1, Q, hb1, hz1⟩ := box32Q w x y s p q
  have HW1 := Lib.hid hw1
  have HLL := Lib.hid hL
  have HO := Lib.hid hO
  have HS := Lib.hid hS
  have HN := Lib.hid hN
  have HB := Lib.hid hB
  have HK := Lib.hid hK
  have HF := Lib.hid hF
  have HE := Lib.hid hEnds
  have HH := Lib.hid hHas
  have HRE := Lib.hid hREnds
  have fin : ∀ {W : World}, Below w1.heap.size w1 W → Below w.heap.size w W := fun hb => hb1.trans (hb.mono hb1.size)
  have hq := eqTwo p0 p1 p2 p3
  have hgd := guardTwo
  have ex0 : ∀ (a b : Value) (w : World), (Instr.extract (.tuple #[a, b]) 0).run Tryz.prog w = .ok a w := fun _ _ _ => by kernel_rfl
  have ex1 : ∀ (a b : Value) (w : World), (Instr.extract (.tuple #[a, b]) 1).run Tryz.prog w = .ok b w := fun _ _ _ => by kernel_rfl
  have BW := Below.refl w1.heap.size w1
  clear hw1 hL hO hS hN hB hK hF hEnds hHas hREnds f0
  go_enter Tryz.func3, Tryz.ntmps3
  go_wp2_with fail
  rw [← HW1.out]
  go_wp2_with fail
  refine (awake1 _ (HLL.out.below (fin BW) HLL.out.lt)).mono ?_
  rintro e w2 ⟨rfl, hb2⟩
  replace BW := hbT BW hb2
  clear hb2
  go_wp2_with fail
  refine (HS.out _).mono ?_
  rintro e w3 ⟨rfl, rfl⟩
  go_wp2_with fail
  refine wp_region_held_drew (S := (fun w' => Below w1.heap.size w1 w')) (by kernel_rfl) ?_ (fun hHeld => ?_)
  · exact below_drew BW
  refine wpAnyH_take (i := 0) (oi := _) (v := ?va0) rfl (by kernel_rfl) (by kernel_rfl) (by kernel_rfl) (fun _ _ _ h => h) (Or.inl ⟨by rfl, ?hya0⟩) (by assumption) ?resta0
  case hya0 => (intro w hSw; (try dsimp only at hSw); go_simp; first | done | rfl)
  try simp only [List.getElem_toArray, List.getElem_cons_succ, List.getElem_cons_zero, Act.put, List.setIfInBounds_toArray, List.set_cons_zero, List.set_cons_succ]
  refine wpAnyH_take (i := 2) (oi := _) (v := ?va2) rfl (by kernel_rfl) (by kernel_rfl) (by kernel_rfl) (fun _ _ _ h => h) (Or.inl ⟨by rfl, ?hya2⟩) (by assumption) ?resta2
  case hya2 => (intro w hSw; (try dsimp only at hSw); obtain ⟨s0, s1, s2, s3, s4⟩ := Q hSw; go_simp; first | done | rfl)
  try simp only [List.getElem_toArray, List.getElem_cons_succ, List.getElem_cons_zero, Act.put, List.setIfInBounds_toArray, List.set_cons_zero, List.set_cons_succ]
  refine wpAnyH_take (i := 4) (oi := _) (v := ?va4) rfl (by kernel_rfl) (by kernel_rfl) (by kernel_rfl) (fun _ _ _ h => h) (Or.inl ⟨by rfl, ?hya4⟩) (by assumption) ?resta4
  case hya4 => (intro w hSw; (try dsimp only at hSw); obtain ⟨s0, s1, s2, s3, s4⟩ := Q hSw; go_simp; first | done | rfl)
  try simp only [List.getElem_toArray, List.getElem_cons_succ, List.getElem_cons_zero, Act.put, List.setIfInBounds_toArray, List.set_cons_zero, List.set_cons_succ]
  refine wpAnyH_ready (rs := [1]) (by kernel_rfl) (by simp) ?_
  refine AllReadyH.cons (o := _) rfl (fun K hK => ?_) AllReadyH.nil
  simp only [List.getElem_toArray, List.getElem_cons_succ, List.getElem_cons_zero]
  go_simp
  go_at_call 17
  refine (refCheckNetA A c l _ (HO.out.below (fin (by assumption)))).mono ?_
  rintro e w' ⟨rfl, hbq⟩
  rw [HN.out]
  refine hK.out _ _ (hbT (by assumption) hbq) (fun hHeld => ?_)
  clear hK K
  try simp only [List.getElem_toArray, List.getElem_cons_succ, List.getElem_cons_zero, Act.put, List.setIfInBounds_toArray, List.set_cons_zero, List.set_cons_succ]
  refine wpAnyH_ready (rs := [3]) (by kernel_rfl) (by simp) ?_
  refine AllReadyH.cons (o := _) rfl (fun K hK => ?_) AllReadyH.nil
  simp only [List.getElem_toArray, List.getElem_cons_succ, List.getElem_cons_zero]
  go_simp
  go_at_call 18
  refine (refCheckBar _ _ _ _).mono ?_
  rintro e w' ⟨rfl, hbq⟩
  rw [HB.out]
  refine hK.out _ _ (hbT (by assumption) hbq) (fun hHeld => ?_)
  clear hK K
  try simp only [List.getElem_toArray, List.getElem_cons_succ, List.getElem_cons_zero, Act.put, List.setIfInBounds_toArray, List.set_cons_zero, List.set_cons_succ]
  refine wpAnyH_ready (rs := [5]) (by kernel_rfl) (by simp) ?_
  refine AllReadyH.cons (o := _) rfl (fun K hK => ?_) AllReadyH.nil
  simp only [List.getElem_toArray, List.getElem_cons_succ, List.getElem_cons_zero]
  go_simp
  go_at_call 19
  refine (refCheckKnot _ _ _).mono ?_
  rintro e w' ⟨rfl, hbq⟩
  rw [HK.out]
  refine hK.out _ _ (hbT (by assumption) hbq) (fun hHeld => ?_)
  clear hK K
  try simp only [List.getElem_toArray, List.getElem_cons_succ, List.getElem_cons_zero, Act.put, List.setIfInBounds_toArray, List.set_cons_zero, List.set_cons_succ]
  refine wpAnyH_take (i := 6) (oi := _) (v := ?va6) rfl (by kernel_rfl) (by kernel_rfl) (by kernel_rfl) (fun _ _ _ h => h) (Or.inl ⟨by rfl, ?hya6⟩) (by assumption) ?resta6
  case hya6 => (intro w hSw; (try dsimp only at hSw); go_simp; first | done | rfl)
  try simp only [List.getElem_toArray, List.getElem_cons_succ, List.getElem_cons_zero, Act.put, List.setIfInBounds_toArray, List.set_cons_zero, List.set_cons_succ]
  refine wpAnyH_take (i := 7) (oi := _) (v := ?va7) rfl (by kernel_rfl) (by kernel_rfl) (by kernel_rfl) (fun _ _ _ h => h) (Or.inl ⟨by rfl, ?hya7⟩) (by assumption) ?resta7
  case hya7 => (intro w hSw; (try dsimp only at hSw); go_simp; first | done | rfl)
  try simp only [List.getElem_toArray, List.getElem_cons_succ, List.getElem_cons_zero, Act.put, List.setIfInBounds_toArray, List.set_cons_zero, List.set_cons_succ]
  refine wpAnyH_take (i := 8) (oi := _) (v := ?va8) rfl (by kernel_rfl) (by kernel_rfl) (by kernel_rfl) (fun _ _ _ h => h) (Or.inl ⟨by rfl, ?hya8⟩) (by assumption) ?resta8
  case hya8 => (intro w hSw; (try dsimp only at hSw); go_simp; first | done | rfl)
  try simp only [List.getElem_toArray, List.getElem_cons_succ, List.getElem_cons_zero, Act.put, List.setIfInBounds_toArray, List.set_cons_zero, List.set_cons_succ]
  refine wpAnyH_done (by kernel_rfl) ?_ _
  replace BW := hHeld
  go_wp2_with fail
  refine (lwCopied A c l _ hlm (HO.out.below (fin BW))).mono ?_
  rintro e w4 ⟨a4, c4, rfl, o4, hb4⟩
  replace BW := hbT BW hb4
  have O4 := Lib.hid o4
  clear o4 hb4
  go_wp2_with fail
  refine (netCheckNetA a4 c4 l _ O4.out).mono ?_
  rintro e w5 ⟨rfl, hb5⟩
  rw [HN.out]
  replace BW := hbT BW hb5
  clear hb5
  have qs := Q BW
  obtain ⟨s0, s1, s2, s3, s4⟩ := qs
  go_wp2_with fail
  refine (netCheckBar x y s _).mono ?_
  rintro e w6 ⟨rfl, hb6⟩
  rw [HB.out]
  replace BW := hbT BW hb6
  clear hb6 s0 s1 s2 s3 s4
  have qs := Q BW
  obtain ⟨s0, s1, s2, s3, s4⟩ := qs
  go_wp2_with fail
  refine (netCheckKnot p q _).mono ?_
  rintro e w7 ⟨rfl, hb7⟩
  rw [HK.out]
  replace BW := hbT BW hb7
  clear hb7 s0 s1 s2 s3 s4
  have qs := Q BW
  obtain ⟨s0, s1, s2, s3, s4⟩ := qs
  go_wp2_with fail
  refine (HE.out _).mono ?_
  rintro e w8 ⟨rfl, hb8⟩
  replace BW := hbT BW hb8
  clear hb8 s0 s1 s2 s3 s4
  obtain ⟨wa, w9, hwa, hw9, r0, r1, r2, r3, rf, hH9, hb9⟩ := st4 w8 (.int .i64 p0) (.int .i64 p1) (.int .i64 p2) (.int .i64 p3) 37
  have hg9 : w8.heap.size < w9.heap.size := (Array.getElem?_eq_some_iff.1 hH9).1
  replace BW := hbT BW hb9
  clear hb9
  have R : ∀ {W : World}, Below w9.heap.size w9 W → W.cell? ⟨w8.heap.size, 0, none⟩ = some (.int .i64 p0) ∧ W.cell? ⟨w8.heap.size, 1, none⟩ = some (.int .i64 p1) ∧ W.cell? ⟨w8.heap.size, 2, none⟩ = some (.int .i64 p2) ∧ W.cell? ⟨w8.heap.size, 3, none⟩ = some (.int .i64 p3) := fun hb => four_at hb hH9
  have qs := Q BW
  obtain ⟨s0, s1, s2, s3, s4⟩ := qs
  clear hH9
  go_wp2_with fail
  refine (netAround p q _ ((knotE_ok p q).1 HK.out)).mono ?_
  rintro e w10 ⟨va, rfl, rowa, hb10⟩
  obtain ⟨aa, ca, rfl, oa⟩ := own_oks rowa
  have OA := Lib.hid oa
  clear rowa oa
  have BX := Lib.hid hb10
  replace BW := hbT BW hb10
  clear hb10 s0 s1 s2 s3 s4 r0 r1 r2 r3 rf hwa hw9
  go_wp2_with fail
  refine wp_region_held_drew (S := (fun w' => Below w1.heap.size w1 w' ∧ Below w9.heap.size w9 w' ∧ OKS w' aa ca (aroundL p q))) (by kernel_rfl) ?_ (fun hHeld => ?_)
  · exact ⟨below_drew BW, below_drew BX.out, OA.out.below (below_drew (Below.refl _ _))⟩
  refine wpAnyH_take (i := 0) (oi := _) (v := ?vb0) rfl (by kernel_rfl) (by kernel_rfl) (by kernel_rfl) (fun _ _ _ h => h) (Or.inl ⟨by rfl, ?hyb0⟩) (by assumption) ?restb0
  case hyb0 => (intro w hSw; (try dsimp only at hSw); go_simp; first | done | rfl)
  try simp only [List.getElem_toArray, List.getElem_cons_succ, List.getElem_cons_zero, Act.put, List.setIfInBounds_toArray, List.set_cons_zero, List.set_cons_succ]
  refine wpAnyH_take (i := 2) (oi := _) (v := ?vb2) rfl (by kernel_rfl) (by kernel_rfl) (by kernel_rfl) (fun _ _ _ h => h) (Or.inl ⟨by rfl, ?hyb2⟩) (by assumption) ?restb2
  case hyb2 => (intro w hSw; (try dsimp only at hSw); obtain ⟨s0, s1, s2, s3, s4⟩ := Q hSw.1; obtain ⟨r0, r1, r2, r3⟩ := R hSw.2.1; go_simp; first | done | rfl)
  try simp only [List.getElem_toArray, List.getElem_cons_succ, List.getElem_cons_zero, Act.put, List.setIfInBounds_toArray, List.set_cons_zero, List.set_cons_succ]
  refine wpAnyH_ready (rs := [1]) (by kernel_rfl) (by simp) ?_
  refine AllReadyH.cons (o := _) rfl (fun K hK => ?_) AllReadyH.nil
  simp only [List.getElem_toArray, List.getElem_cons_succ, List.getElem_cons_zero]
  go_simp
  go_at_call 21
  refine (lwCopied A c l _ hlm (HO.out.below (fin (sOf (by assumption))))).mono ?_
  rintro e w' ⟨a8, c8, rfl, o8, hbq⟩
  refine hK.out _ _ (hbT3 (by assumption) hbq) (fun hHeld => ?_)
  clear hK K
  try simp only [List.getElem_toArray, List.getElem_cons_succ, List.getElem_cons_zero, Act.put, List.setIfInBounds_toArray, List.set_cons_zero, List.set_cons_succ]
  refine wpAnyH_ready (rs := [3]) (by kernel_rfl) (by simp) ?_
  refine AllReadyH.cons (o := _) rfl (fun K hK => ?_) AllReadyH.nil
  simp only [List.getElem_toArray, List.getElem_cons_succ, List.getElem_cons_zero]
  go_simp
  go_at_call 26
  refine (HH.out _ _ _ o8).mono ?_
  rintro e w' ⟨rfl, hbq⟩
  refine hK.out _ _ (hbT3 (by assumption) hbq) (fun hHeld => ?_)
  clear hK K
  try simp only [List.getElem_toArray, List.getElem_cons_succ, List.getElem_cons_zero, Act.put, List.setIfInBounds_toArray, List.set_cons_zero, List.set_cons_succ]
  refine wpAnyH_take (i := 4) (oi := _) (v := ?vb4) rfl (by kernel_rfl) (by kernel_rfl) (by kernel_rfl) (fun _ _ _ h => h) (Or.inl ⟨by rfl, ?hyb4⟩) (by assumption) ?restb4
  case hyb4 => (intro w hSw; (try dsimp only at hSw); go_simp; first | done | rfl)
  try simp only [List.getElem_toArray, List.getElem_cons_succ, List.getElem_cons_zero, Act.put, List.setIfInBounds_toArray, List.set_cons_zero, List.set_cons_succ]
  refine wpAnyH_take (i := 5) (oi := _) (v := ?vb5) rfl (by kernel_rfl) (by kernel_rfl) (by kernel_rfl) (fun _ _ _ h => h) (Or.inl ⟨by rfl, ?hyb5⟩) (by assumption) ?restb5
  case hyb5 => (intro w hSw; (try dsimp only at hSw); go_simp; first | done | rfl)
  try simp only [List.getElem_toArray, List.getElem_cons_succ, List.getElem_cons_zero, Act.put, List.setIfInBounds_toArray, List.set_cons_zero, List.set_cons_succ]
  refine wpAnyH_take (i := 6) (oi := _) (v := ?vb6) rfl (by kernel_rfl) (by kernel_rfl) (by kernel_rfl) (fun _ _ _ h => h) (Or.inl ⟨by rfl, ?hyb6⟩) (by assumption) ?restb6
  case hyb6 => (intro w hSw; (try dsimp only at hSw); go_simp; first | done | rfl)
  try simp only [List.getElem_toArray, List.getElem_cons_succ, List.getElem_cons_zero, Act.put, List.setIfInBounds_toArray, List.set_cons_zero, List.set_cons_succ]
  refine wpAnyH_take (i := 7) (oi := _) (v := ?vb7) rfl (by kernel_rfl) (by kernel_rfl) (by kernel_rfl) (fun _ _ _ h => h) (Or.inl ⟨by rfl, ?hyb7⟩) (by assumption) ?restb7
  case hyb7 => (intro w hSw; (try dsimp only at hSw); go_simp; first | done | rfl)
  try simp only [List.getElem_toArray, List.getElem_cons_succ, List.getElem_cons_zero, Act.put, List.setIfInBounds_toArray, List.set_cons_zero, List.set_cons_succ]
  refine wpAnyH_take (i := 8) (oi := _) (v := ?vb8) rfl (by kernel_rfl) (by kernel_rfl) (by kernel_rfl) (fun _ _ _ h => h) (Or.inl ⟨by rfl, ?hyb8⟩) (by assumption) ?restb8
  case hyb8 => (intro w hSw; (try dsimp only at hSw); go_simp; first | done | rfl)
  try simp only [List.getElem_toArray, List.getElem_cons_succ, List.getElem_cons_zero, Act.put, List.setIfInBounds_toArray, List.set_cons_zero, List.set_cons_succ]
  refine wpAnyH_done (by kernel_rfl) ?_ _
  have HD := Lib.hid hHeld
  clear o8
  go_wp2_with fail
  refine wp_region_held_drew (S := (fun w' => Below w1.heap.size w1 w' ∧ Below w9.heap.size w9 w' ∧ OKS w' aa ca (aroundL p q))) (by kernel_rfl) ?_ (fun hHeld => ?_)
  · exact ⟨below_drew HD.out.1, below_drew HD.out.2.1, HD.out.2.2.below (below_drew (Below.refl _ _))⟩
  refine wpAnyH_take (i := 0) (oi := _) (v := ?vc0) rfl (by kernel_rfl) (by kernel_rfl) (by kernel_rfl) (fun _ _ _ h => h) (Or.inl ⟨by rfl, ?hyc0⟩) (by assumption) ?restc0
  case hyc0 => (intro w hSw; (try dsimp only at hSw); go_simp; first | done | rfl)
  try simp only [List.getElem_toArray, List.getElem_cons_succ, List.getElem_cons_zero, Act.put, List.setIfInBounds_toArray, List.set_cons_zero, List.set_cons_succ]
  refine wpAnyH_take (i := 1) (oi := _) (v := ?vc1) rfl (by kernel_rfl) (by kernel_rfl) (by kernel_rfl) (fun _ _ _ h => h) (Or.inl ⟨by rfl, ?hyc1⟩) (by assumption) ?restc1
  case hyc1 => (intro w hSw; (try dsimp only at hSw); go_simp; first | done | rfl)
  try simp only [List.getElem_toArray, List.getElem_cons_succ, List.getElem_cons_zero, Act.put, List.setIfInBounds_toArray, List.set_cons_zero, List.set_cons_succ]
  refine wpAnyH_take (i := 2) (oi := _) (v := ?vc2) rfl (by kernel_rfl) (by kernel_rfl) (by kernel_rfl) (fun _ _ _ h => h) (Or.inl ⟨by rfl, ?hyc2⟩) (by assumption) ?restc2
  case hyc2 => (intro w hSw; (try dsimp only at hSw); go_simp; first | done | rfl)
  try simp only [List.getElem_toArray, List.getElem_cons_succ, List.getElem_cons_zero, Act.put, List.setIfInBounds_toArray, List.set_cons_zero, List.set_cons_succ]
  refine wpAnyH_take (i := 3) (oi := _) (v := undef) rfl (by kernel_rfl) (by kernel_rfl) (by kernel_rfl) (fun _ _ _ h => h) (Or.inr ⟨by rfl, rfl⟩) (by assumption) ?restc3
  try simp only [List.getElem_toArray, List.getElem_cons_succ, List.getElem_cons_zero, Act.put, List.setIfInBounds_toArray, List.set_cons_zero, List.set_cons_succ]
  refine wpAnyH_take (i := 4) (oi := _) (v := undef) rfl (by kernel_rfl) (by kernel_rfl) (by kernel_rfl) (fun _ _ _ h => h) (Or.inr ⟨by rfl, rfl⟩) (by assumption) ?restc4
  try simp only [List.getElem_toArray, List.getElem_cons_succ, List.getElem_cons_zero, Act.put, List.setIfInBounds_toArray, List.set_cons_zero, List.set_cons_succ]
  refine wpAnyH_take (i := 5) (oi := _) (v := undef) rfl (by kernel_rfl) (by kernel_rfl) (by kernel_rfl) (fun _ _ _ h => h) (Or.inr ⟨by rfl, rfl⟩) (by assumption) ?restc5
  try simp only [List.getElem_toArray, List.getElem_cons_succ, List.getElem_cons_zero, Act.put, List.setIfInBounds_toArray, List.set_cons_zero, List.set_cons_succ]
  refine wpAnyH_take (i := 6) (oi := _) (v := undef) rfl (by kernel_rfl) (by kernel_rfl) (by kernel_rfl) (fun _ _ _ h => h) (Or.inr ⟨by rfl, rfl⟩) (by assumption) ?restc6
  try simp only [List.getElem_toArray, List.getElem_cons_succ, List.getElem_cons_zero, Act.put, List.setIfInBounds_toArray, List.set_cons_zero, List.set_cons_succ]
  refine wpAnyH_take (i := 7) (oi := _) (v := undef) rfl (by kernel_rfl) (by kernel_rfl) (by kernel_rfl) (fun _ _ _ h => h) (Or.inr ⟨by rfl, rfl⟩) (by assumption) ?restc7
  try simp only [List.getElem_toArray, List.getElem_cons_succ, List.getElem_cons_zero, Act.put, List.setIfInBounds_toArray, List.set_cons_zero, List.set_cons_succ]
  refine wpAnyH_take (i := 8) (oi := _) (v := undef) rfl (by kernel_rfl) (by kernel_rfl) (by kernel_rfl) (fun _ _ _ h => h) (Or.inr ⟨by rfl, rfl⟩) (by assumption) ?restc8
  try simp only [List.getElem_toArray, List.getElem_cons_succ, List.getElem_cons_zero, Act.put, List.setIfInBounds_toArray, List.set_cons_zero, List.set_cons_succ]
  refine wpAnyH_take (i := 9) (oi := _) (v := undef) rfl (by kernel_rfl) (by kernel_rfl) (by kernel_rfl) (fun _ _ _ h => h) (Or.inr ⟨by rfl, rfl⟩) (by assumption) ?restc9
  try simp only [List.getElem_toArray, List.getElem_cons_succ, List.getElem_cons_zero, Act.put, List.setIfInBounds_toArray, List.set_cons_zero, List.set_cons_succ]
  refine wpAnyH_take (i := 10) (oi := _) (v := undef) rfl (by kernel_rfl) (by kernel_rfl) (by kernel_rfl) (fun _ _ _ h => h) (Or.inr ⟨by rfl, rfl⟩) (by assumption) ?restc10
  try simp only [List.getElem_toArray, List.getElem_cons_succ, List.getElem_cons_zero, Act.put, List.setIfInBounds_toArray, List.set_cons_zero, List.set_cons_succ]
  refine wpAnyH_take (i := 11) (oi := _) (v := ?vc11) rfl (by kernel_rfl) (by kernel_rfl) (by kernel_rfl) (fun _ _ _ h => h) (Or.inl ⟨by rfl, ?hyc11⟩) (by assumption) ?restc11
  case hyc11 => (intro w hSw; (try dsimp only at hSw); go_simp; first | done | rfl)
  try simp only [List.getElem_toArray, List.getElem_cons_succ, List.getElem_cons_zero, Act.put, List.setIfInBounds_toArray, List.set_cons_zero, List.set_cons_succ]
  refine wpAnyH_take (i := 12) (oi := _) (v := ?vc12) rfl (by kernel_rfl) (by kernel_rfl) (by kernel_rfl) (fun _ _ _ h => h) (Or.inl ⟨by rfl, ?hyc12⟩) (by assumption) ?restc12
  case hyc12 => (intro w hSw; (try dsimp only at hSw); go_simp; first | done | rfl)
  try simp only [List.getElem_toArray, List.getElem_cons_succ, List.getElem_cons_zero, Act.put, List.setIfInBounds_toArray, List.set_cons_zero, List.set_cons_succ]
  refine wpAnyH_take (i := 13) (oi := _) (v := ?vc13) rfl (by kernel_rfl) (by kernel_rfl) (by kernel_rfl) (fun _ _ _ h => h) (Or.inl ⟨by rfl, ?hyc13⟩) (by assumption) ?restc13
  case hyc13 => (intro w hSw; (try dsimp only at hSw); go_simp; first | done | rfl)
  try simp only [List.getElem_toArray, List.getElem_cons_succ, List.getElem_cons_zero, Act.put, List.setIfInBounds_toArray, List.set_cons_zero, List.set_cons_succ]
  refine wpAnyH_take (i := 14) (oi := _) (v := ?vc14) rfl (by kernel_rfl) (by kernel_rfl) (by kernel_rfl) (fun _ _ _ h => h) (Or.inl ⟨by rfl, ?hyc14⟩) (by assumption) ?restc14
  case hyc14 => (intro w hSw; (try dsimp only at hSw); go_simp; first | done | rfl)
  try simp only [List.getElem_toArray, List.getElem_cons_succ, List.getElem_cons_zero, Act.put, List.setIfInBounds_toArray, List.set_cons_zero, List.set_cons_succ]
  refine wpAnyH_take (i := 15) (oi := _) (v := ?vc15) rfl (by kernel_rfl) (by kernel_rfl) (by kernel_rfl) (fun _ _ _ h => h) (Or.inl ⟨by rfl, ?hyc15⟩) (by assumption) ?restc15
  case hyc15 => (intro w hSw; (try dsimp only at hSw); go_simp; first | done | rfl)
  try simp only [List.getElem_toArray, List.getElem_cons_succ, List.getElem_cons_zero, Act.put, List.setIfInBounds_toArray, List.set_cons_zero, List.set_cons_succ]
  refine wpAnyH_take (i := 16) (oi := _) (v := ?vc16) rfl (by kernel_rfl) (by kernel_rfl) (by kernel_rfl) (fun _ _ _ h => h) (Or.inl ⟨by rfl, ?hyc16⟩) (by assumption) ?restc16
  case hyc16 => (intro w hSw; (try dsimp only at hSw); go_simp; first | done | rfl)
  try simp only [List.getElem_toArray, List.getElem_cons_succ, List.getElem_cons_zero, Act.put, List.setIfInBounds_toArray, List.set_cons_zero, List.set_cons_succ]
  refine wpAnyH_take (i := 17) (oi := _) (v := ?vc17) rfl (by kernel_rfl) (by kernel_rfl) (by kernel_rfl) (fun _ _ _ h => h) (Or.inl ⟨by rfl, ?hyc17⟩) (by assumption) ?restc17
  case hyc17 => (intro w hSw; (try dsimp only at hSw); go_simp; first | done | rfl)
  try simp only [List.getElem_toArray, List.getElem_cons_succ, List.getElem_cons_zero, Act.put, List.setIfInBounds_toArray, List.set_cons_zero, List.set_cons_succ]
  refine wpAnyH_take (i := 18) (oi := _) (v := ?vc18) rfl (by kernel_rfl) (by kernel_rfl) (by kernel_rfl) (fun _ _ _ h => h) (Or.inl ⟨by rfl, ?hyc18⟩) (by assumption) ?restc18
  case hyc18 => (intro w hSw; (try dsimp only at hSw); go_simp; first | done | rfl)
  try simp only [List.getElem_toArray, List.getElem_cons_succ, List.getElem_cons_zero, Act.put, List.setIfInBounds_toArray, List.set_cons_zero, List.set_cons_succ]
  refine wpAnyH_take (i := 19) (oi := _) (v := ?vc19) rfl (by kernel_rfl) (by kernel_rfl) (by kernel_rfl) (fun _ _ _ h => h) (Or.inl ⟨by rfl, ?hyc19⟩) (by assumption) ?restc19
  case hyc19 => (intro w hSw; (try dsimp only at hSw); obtain ⟨s0, s1, s2, s3, s4⟩ := Q hSw.1; obtain ⟨r0, r1, r2, r3⟩ := R hSw.2.1; go_simp; first | done | rfl)
  try simp only [List.getElem_toArray, List.getElem_cons_succ, List.getElem_cons_zero, Act.put, List.setIfInBounds_toArray, List.set_cons_zero, List.set_cons_succ]
  refine wpAnyH_take (i := 20) (oi := _) (v := ?vc20) rfl (by kernel_rfl) (by kernel_rfl) (by kernel_rfl) (fun _ _ _ h => h) (Or.inl ⟨by rfl, ?hyc20⟩) (by assumption) ?restc20
  case hyc20 => (intro w hSw; (try dsimp only at hSw); obtain ⟨s0, s1, s2, s3, s4⟩ := Q hSw.1; obtain ⟨r0, r1, r2, r3⟩ := R hSw.2.1; go_simp; first | done | rfl)
  try simp only [List.getElem_toArray, List.getElem_cons_succ, List.getElem_cons_zero, Act.put, List.setIfInBounds_toArray, List.set_cons_zero, List.set_cons_succ]
  refine wpAnyH_ready (rs := [21]) (by kernel_rfl) (by simp) ?_
  refine AllReadyH.cons (o := _) rfl (fun K hK => ?_) AllReadyH.nil
  simp only [List.getElem_toArray, List.getElem_cons_succ, List.getElem_cons_zero]
  go_simp
  go_at_call 27
  refine (HRE.out _).mono ?_
  rintro e w' ⟨rfl, hbq⟩
  refine hK.out _ _ (hbT3 (by assumption) hbq) (fun hHeld => ?_)
  clear hK K
  try simp only [List.getElem_toArray, List.getElem_cons_succ, List.getElem_cons_zero, Act.put, List.setIfInBounds_toArray, List.set_cons_zero, List.set_cons_succ]
  refine wpAnyH_take (i := 22) (oi := _) (v := ?vc22) rfl (by kernel_rfl) (by kernel_rfl) (by kernel_rfl) (fun _ _ _ h => h) (Or.inl ⟨by rfl, ?hyc22⟩) (by assumption) ?restc22
  case hyc22 => (intro w hSw; (try dsimp only at hSw); go_simp; first | done | rfl)
  try simp only [List.getElem_toArray, List.getElem_cons_succ, List.getElem_cons_zero, Act.put, List.setIfInBounds_toArray, List.set_cons_zero, List.set_cons_succ]
  refine wpAnyH_take (i := 23) (oi := _) (v := ?vc23) rfl (by kernel_rfl) (by kernel_rfl) (by kernel_rfl) (fun _ _ _ h => h) (Or.inl ⟨by rfl, ?hyc23⟩) (by assumption) ?restc23
  case hyc23 => (intro w hSw; (try dsimp only at hSw); go_simp; first | done | rfl)
  try simp only [List.getElem_toArray, List.getElem_cons_succ, List.getElem_cons_zero, Act.put, List.setIfInBounds_toArray, List.set_cons_zero, List.set_cons_succ]
  refine wpAnyH_take (i := 24) (oi := _) (v := ?vc24) rfl (by kernel_rfl) (by kernel_rfl) (by kernel_rfl) (fun _ _ _ h => h) (Or.inl ⟨by rfl, ?hyc24⟩) (by assumption) ?restc24
  case hyc24 => (intro w hSw; (try dsimp only at hSw); go_simp; first | done | rfl)
  try simp only [List.getElem_toArray, List.getElem_cons_succ, List.getElem_cons_zero, Act.put, List.setIfInBounds_toArray, List.set_cons_zero, List.set_cons_succ]
  refine wpAnyH_take (i := 25) (oi := _) (v := ?vc25) rfl (by kernel_rfl) (by kernel_rfl) (by kernel_rfl) (fun _ _ _ h => h) (Or.inl ⟨by rfl, ?hyc25⟩) (by assumption) ?restc25
  case hyc25 => (intro w hSw; (try dsimp only at hSw); go_simp; first | done | rfl)
  try simp only [List.getElem_toArray, List.getElem_cons_succ, List.getElem_cons_zero, Act.put, List.setIfInBounds_toArray, List.set_cons_zero, List.set_cons_succ]
  refine wpAnyH_done (by kernel_rfl) ?_ _
  clear HD
  have HD := Lib.hid hHeld
  replace BW := HD.out.1
  have OB := Lib.hid HD.out.2.2
  have qs := Q BW
  obtain ⟨s0, s1, s2, s3, s4⟩ := qs
  go_wp2_with fail
  refine (refAround p q _ HK.out).mono ?_
  rintro e w12 ⟨vb, rfl, rowb, hb12⟩
  obtain ⟨ab, cb, rfl, ob⟩ := own_oks rowb
  have OD := Lib.hid ob
  replace BW := hbT BW hb12
  replace OB := Lib.hid (OB.out.below hb12)
  clear rowb ob hb12 s0 s1 s2 s3 s4
  go_wp2_with fail
  refine (lwNetOk aa ab ca cb (aroundL p q) _ (aroundL_le p q) OB.out OD.out).mono ?_
  rintro e w13 ⟨rfl, hb13⟩
  replace BW := hbT BW hb13
  clear hb13
  go_wp2_with fail
  refine (lwFirst N 0 _ _ 3 _ (by exact heap_alloc_new _ _)).mono ?_
  rintro e w14 ⟨rfl, rfl⟩
  rw [HF.out]
  replace BW := hbT BW (bel_new _ (.cells #[.int .i64 N, .int .i64 0] 3))
  have qs := Q BW
  obtain ⟨s0, s1, s2, s3, s4⟩ := qs
  go_wp2
  go_ret
  exact ⟨by simp, fin BW⟩
set_option maxHeartbeats 8000000 in
set_option maxRecDepth 100000 in
theorem lawBarsBkF (A : Option Addr) (c : Nat) (l : List Bar) (x y s p q N B K F p0 p1 p2 p3 : Int) (h : Bool) (w : World) (hL : LaidLen w) (hO : OKS w A c l) (hlm : l.length ≤ 4098)
    (hS : ∀ W : World, Calls Tryz.prog 16 #[.slice A l.length c, .int .i64 40] W fun e w' => e = .returned (.bool true) ∧ W = w')
    (hN : netE l = N) (hB : barE x y s = B) (hK : knotE p q = K) (hF : firstE [N, B] = F)
    (hEnds : ∀ W : World, Calls Tryz.prog 24 #[.agg #[.int .i64 x, .int .i64 y, .int .i64 s]] W fun e w' => e = .returned (.tuple #[.agg #[.int .i64 p0, .int .i64 p1, .int .i64 p2, .int .i64 p3], .int .i64 B]) ∧ Below W.heap.size W w')
    (hHas : ∀ (W : World) (a : Option Addr) (c' : Nat), OKS W a c' l → Calls Tryz.prog 26 #[.slice a l.length c', .agg #[.int .i64 x, .int .i64 y, .int .i64 s]] W fun e w' => e = .returned (.tuple #[.bool h, .int .i64 F]) ∧ Below W.heap.size W w')
    (b0 : B = 0) (hREnds : ∀ W : World, Calls Tryz.prog 27 #[.agg #[.int .i64 x, .int .i64 y, .int .i64 s]] W fun e w' => e = .returned (.agg #[.int .i64 p0, .int .i64 p1, .int .i64 p2, .int .i64 p3]) ∧ Below W.heap.size W w')
    (k0 : K ≠ 0)
    (f0 : F = 0) (hRHas : ∀ W : World, Below w.heap.size w W → Calls Tryz.prog 31 #[.slice A l.length c, .agg #[.int .i64 x, .int .i64 y, .int .i64 s]] W fun e w' => e = .returned (.bool h) ∧ Below W.heap.size W w') :
    Calls Tryz.prog 3 #[.slice A l.length c, .agg #[.int .i64 x, .int .i64 y, .int .i64 s], .agg #[.int .i64 p, .int .i64 q]] w fun e w' => e = .returned (.bool true) ∧ Below w.heap.size w w' := by
  subst b0
  have HK0 := Lib.hid k0
  have k1 : (K != 0) = true := by rw [bne_iff_ne]; exact k0
  have k2 : (K == 0) = false := by rw [beq_eq_false_iff_ne]; exact k0
  subst f0
  obtain ⟨w1, hw1, Q, hb1, hz1⟩ := box32Q w x y s p q
  have HW1 := Lib.hid hw1
  have HLL := Lib.hid hL
  have HO := Lib.hid hO
  have HS := Lib.hid hS
  have HN := Lib.hid hN
  have HB := Lib.hid hB
  have HK := Lib.hid hK
  have HF := Lib.hid hF
  have HE := Lib.hid hEnds
  have HH := Lib.hid hHas
  have HRE := Lib.hid hREnds
  have HRH := Lib.hid hRHas
  have fin : ∀ {W : World}, Below w1.heap.size w1 W → Below w.heap.size w W := fun hb => hb1.trans (hb.mono hb1.size)
  have hq := eqTwo p0 p1 p2 p3
  have hgd := guardTwo
  have ex0 : ∀ (a b : Value) (w : World), (Instr.extract (.tuple #[a, b]) 0).run Tryz.prog w = .ok a w := fun _ _ _ => by kernel_rfl
  have ex1 : ∀ (a b : Value) (w : World), (Instr.extract (.tuple #[a, b]) 1).run Tryz.prog w = .ok b w := fun _ _ _ => by kernel_rfl
  have BW := Below.refl w1.heap.size w1
  clear hw1 hL hO hS hN hB hK hF hEnds hHas hREnds k0 hRHas
  go_enter Tryz.func3, Tryz.ntmps3
  go_wp2_with fail
  rw [← HW1.out]
  go_wp2_with fail
  refine (awake1 _ (HLL.out.below (fin BW) HLL.out.lt)).mono ?_
  rintro e w2 ⟨rfl, hb2⟩
  replace BW := hbT BW hb2
  clear hb2
  go_wp2_with fail
  refine (HS.out _).mono ?_
  rintro e w3 ⟨rfl, rfl⟩
  go_wp2_with fail
  refine wp_region_held_drew (S := (fun w' => Below w1.heap.size w1 w')) (by kernel_rfl) ?_ (fun hHeld => ?_)
  · exact below_drew BW
  refine wpAnyH_take (i := 0) (oi := _) (v := ?va0) rfl (by kernel_rfl) (by kernel_rfl) (by kernel_rfl) (fun _ _ _ h => h) (Or.inl ⟨by rfl, ?hya0⟩) (by assumption) ?resta0
  case hya0 => (intro w hSw; (try dsimp only at hSw); go_simp; first | done | rfl)
  try simp only [List.getElem_toArray, List.getElem_cons_succ, List.getElem_cons_zero, Act.put, List.setIfInBounds_toArray, List.set_cons_zero, List.set_cons_succ]
  refine wpAnyH_take (i := 2) (oi := _) (v := ?va2) rfl (by kernel_rfl) (by kernel_rfl) (by kernel_rfl) (fun _ _ _ h => h) (Or.inl ⟨by rfl, ?hya2⟩) (by assumption) ?resta2
  case hya2 => (intro w hSw; (try dsimp only at hSw); obtain ⟨s0, s1, s2, s3, s4⟩ := Q hSw; go_simp; first | done | rfl)
  try simp only [List.getElem_toArray, List.getElem_cons_succ, List.getElem_cons_zero, Act.put, List.setIfInBounds_toArray, List.set_cons_zero, List.set_cons_succ]
  refine wpAnyH_take (i := 4) (oi := _) (v := ?va4) rfl (by kernel_rfl) (by kernel_rfl) (by kernel_rfl) (fun _ _ _ h => h) (Or.inl ⟨by rfl, ?hya4⟩) (by assumption) ?resta4
  case hya4 => (intro w hSw; (try dsimp only at hSw); obtain ⟨s0, s1, s2, s3, s4⟩ := Q hSw; go_simp; first | done | rfl)
  try simp only [List.getElem_toArray, List.getElem_cons_succ, List.getElem_cons_zero, Act.put, List.setIfInBounds_toArray, List.set_cons_zero, List.set_cons_succ]
  refine wpAnyH_ready (rs := [1]) (by kernel_rfl) (by simp) ?_
  refine AllReadyH.cons (o := _) rfl (fun K hK => ?_) AllReadyH.nil
  simp only [List.getElem_toArray, List.getElem_cons_succ, List.getElem_cons_zero]
  go_simp
  go_at_call 17
  refine (refCheckNetA A c l _ (HO.out.below (fin (by assumption)))).mono ?_
  rintro e w' ⟨rfl, hbq⟩
  rw [HN.out]
  refine hK.out _ _ (hbT (by assumption) hbq) (fun hHeld => ?_)
  clear hK K
  try simp only [List.getElem_toArray, List.getElem_cons_succ, List.getElem_cons_zero, Act.put, List.setIfInBounds_toArray, List.set_cons_zero, List.set_cons_succ]
  refine wpAnyH_ready (rs := [3]) (by kernel_rfl) (by simp) ?_
  refine AllReadyH.cons (o := _) rfl (fun K hK => ?_) AllReadyH.nil
  simp only [List.getElem_toArray, List.getElem_cons_succ, List.getElem_cons_zero]
  go_simp
  go_at_call 18
  refine (refCheckBar _ _ _ _).mono ?_
  rintro e w' ⟨rfl, hbq⟩
  rw [HB.out]
  refine hK.out _ _ (hbT (by assumption) hbq) (fun hHeld => ?_)
  clear hK K
  try simp only [List.getElem_toArray, List.getElem_cons_succ, List.getElem_cons_zero, Act.put, List.setIfInBounds_toArray, List.set_cons_zero, List.set_cons_succ]
  refine wpAnyH_ready (rs := [5]) (by kernel_rfl) (by simp) ?_
  refine AllReadyH.cons (o := _) rfl (fun K hK => ?_) AllReadyH.nil
  simp only [List.getElem_toArray, List.getElem_cons_succ, List.getElem_cons_zero]
  go_simp
  go_at_call 19
  refine (refCheckKnot _ _ _).mono ?_
  rintro e w' ⟨rfl, hbq⟩
  rw [HK.out]
  refine hK.out _ _ (hbT (by assumption) hbq) (fun hHeld => ?_)
  clear hK K
  try simp only [List.getElem_toArray, List.getElem_cons_succ, List.getElem_cons_zero, Act.put, List.setIfInBounds_toArray, List.set_cons_zero, List.set_cons_succ]
  refine wpAnyH_take (i := 6) (oi := _) (v := ?va6) rfl (by kernel_rfl) (by kernel_rfl) (by kernel_rfl) (fun _ _ _ h => h) (Or.inl ⟨by rfl, ?hya6⟩) (by assumption) ?resta6
  case hya6 => (intro w hSw; (try dsimp only at hSw); go_simp; first | done | rfl)
  try simp only [List.getElem_toArray, List.getElem_cons_succ, List.getElem_cons_zero, Act.put, List.setIfInBounds_toArray, List.set_cons_zero, List.set_cons_succ]
  refine wpAnyH_take (i := 7) (oi := _) (v := ?va7) rfl (by kernel_rfl) (by kernel_rfl) (by kernel_rfl) (fun _ _ _ h => h) (Or.inl ⟨by rfl, ?hya7⟩) (by assumption) ?resta7
  case hya7 => (intro w hSw; (try dsimp only at hSw); go_simp; first | done | rfl)
  try simp only [List.getElem_toArray, List.getElem_cons_succ, List.getElem_cons_zero, Act.put, List.setIfInBounds_toArray, List.set_cons_zero, List.set_cons_succ]
  refine wpAnyH_take (i := 8) (oi := _) (v := ?va8) rfl (by kernel_rfl) (by kernel_rfl) (by kernel_rfl) (fun _ _ _ h => h) (Or.inl ⟨by rfl, ?hya8⟩) (by assumption) ?resta8
  case hya8 => (intro w hSw; (try dsimp only at hSw); go_simp; first | done | rfl)
  try simp only [List.getElem_toArray, List.getElem_cons_succ, List.getElem_cons_zero, Act.put, List.setIfInBounds_toArray, List.set_cons_zero, List.set_cons_succ]
  refine wpAnyH_done (by kernel_rfl) ?_ _
  replace BW := hHeld
  go_wp2_with fail
  refine (lwCopied A c l _ hlm (HO.out.below (fin BW))).mono ?_
  rintro e w4 ⟨a4, c4, rfl, o4, hb4⟩
  replace BW := hbT BW hb4
  have O4 := Lib.hid o4
  clear o4 hb4
  go_wp2_with fail
  refine (netCheckNetA a4 c4 l _ O4.out).mono ?_
  rintro e w5 ⟨rfl, hb5⟩
  rw [HN.out]
  replace BW := hbT BW hb5
  clear hb5
  have qs := Q BW
  obtain ⟨s0, s1, s2, s3, s4⟩ := qs
  go_wp2_with fail
  refine (netCheckBar x y s _).mono ?_
  rintro e w6 ⟨rfl, hb6⟩
  rw [HB.out]
  replace BW := hbT BW hb6
  clear hb6 s0 s1 s2 s3 s4
  have qs := Q BW
  obtain ⟨s0, s1, s2, s3, s4⟩ := qs
  go_wp2_with fail
  refine (netCheckKnot p q _).mono ?_
  rintro e w7 ⟨rfl, hb7⟩
  rw [HK.out]
  replace BW := hbT BW hb7
  clear hb7 s0 s1 s2 s3 s4
  have qs := Q BW
  obtain ⟨s0, s1, s2, s3, s4⟩ := qs
  go_wp2_with fail
  refine (HE.out _).mono ?_
  rintro e w8 ⟨rfl, hb8⟩
  replace BW := hbT BW hb8
  clear hb8 s0 s1 s2 s3 s4
  obtain ⟨wa, w9, hwa, hw9, r0, r1, r2, r3, rf, hH9, hb9⟩ := st4 w8 (.int .i64 p0) (.int .i64 p1) (.int .i64 p2) (.int .i64 p3) 37
  have hg9 : w8.heap.size < w9.heap.size := (Array.getElem?_eq_some_iff.1 hH9).1
  replace BW := hbT BW hb9
  clear hb9
  have R : ∀ {W : World}, Below w9.heap.size w9 W → W.cell? ⟨w8.heap.size, 0, none⟩ = some (.int .i64 p0) ∧ W.cell? ⟨w8.heap.size, 1, none⟩ = some (.int .i64 p1) ∧ W.cell? ⟨w8.heap.size, 2, none⟩ = some (.int .i64 p2) ∧ W.cell? ⟨w8.heap.size, 3, none⟩ = some (.int .i64 p3) := fun hb => four_at hb hH9
  have qs := Q BW
  obtain ⟨s0, s1, s2, s3, s4⟩ := qs
  clear hH9
  go_wp2_with fail
  refine (netAroundBad p q K _ HK.out HK0.out).mono ?_
  rintro e w10 ⟨rfl, hb10⟩
  have BX := Lib.hid hb10
  replace BW := hbT BW hb10
  clear hb10 s0 s1 s2 s3 s4 r0 r1 r2 r3 rf hwa hw9
  go_wp2_with fail
  refine wp_region_held_drew (S := (fun w' => Below w1.heap.size w1 w' ∧ Below w9.heap.size w9 w')) (by kernel_rfl) ?_ (fun hHeld => ?_)
  · exact ⟨below_drew BW, below_drew BX.out⟩
  refine wpAnyH_take (i := 0) (oi := _) (v := ?vb0) rfl (by kernel_rfl) (by kernel_rfl) (by kernel_rfl) (fun _ _ _ h => h) (Or.inl ⟨by rfl, ?hyb0⟩) (by assumption) ?restb0
  case hyb0 => (intro w hSw; (try dsimp only at hSw); go_simp; first | done | rfl)
  try simp only [List.getElem_toArray, List.getElem_cons_succ, List.getElem_cons_zero, Act.put, List.setIfInBounds_toArray, List.set_cons_zero, List.set_cons_succ]
  refine wpAnyH_take (i := 2) (oi := _) (v := ?vb2) rfl (by kernel_rfl) (by kernel_rfl) (by kernel_rfl) (fun _ _ _ h => h) (Or.inl ⟨by rfl, ?hyb2⟩) (by assumption) ?restb2
  case hyb2 => (intro w hSw; (try dsimp only at hSw); obtain ⟨s0, s1, s2, s3, s4⟩ := Q hSw.1; obtain ⟨r0, r1, r2, r3⟩ := R hSw.2; go_simp; first | done | rfl)
  try simp only [List.getElem_toArray, List.getElem_cons_succ, List.getElem_cons_zero, Act.put, List.setIfInBounds_toArray, List.set_cons_zero, List.set_cons_succ]
  refine wpAnyH_ready (rs := [1]) (by kernel_rfl) (by simp) ?_
  refine AllReadyH.cons (o := _) rfl (fun K hK => ?_) AllReadyH.nil
  simp only [List.getElem_toArray, List.getElem_cons_succ, List.getElem_cons_zero]
  go_simp
  go_at_call 21
  refine (lwCopied A c l _ hlm (HO.out.below (fin (sOf (by assumption))))).mono ?_
  rintro e w' ⟨a8, c8, rfl, o8, hbq⟩
  refine hK.out _ _ (hbT2 (by assumption) hbq) (fun hHeld => ?_)
  clear hK K
  try simp only [List.getElem_toArray, List.getElem_cons_succ, List.getElem_cons_zero, Act.put, List.setIfInBounds_toArray, List.set_cons_zero, List.set_cons_succ]
  refine wpAnyH_ready (rs := [3]) (by kernel_rfl) (by simp) ?_
  refine AllReadyH.cons (o := _) rfl (fun K hK => ?_) AllReadyH.nil
  simp only [List.getElem_toArray, List.getElem_cons_succ, List.getElem_cons_zero]
  go_simp
  go_at_call 26
  refine (HH.out _ _ _ o8).mono ?_
  rintro e w' ⟨rfl, hbq⟩
  refine hK.out _ _ (hbT2 (by assumption) hbq) (fun hHeld => ?_)
  clear hK K
  try simp only [List.getElem_toArray, List.getElem_cons_succ, List.getElem_cons_zero, Act.put, List.setIfInBounds_toArray, List.set_cons_zero, List.set_cons_succ]
  refine wpAnyH_take (i := 4) (oi := _) (v := ?vb4) rfl (by kernel_rfl) (by kernel_rfl) (by kernel_rfl) (fun _ _ _ h => h) (Or.inl ⟨by rfl, ?hyb4⟩) (by assumption) ?restb4
  case hyb4 => (intro w hSw; (try dsimp only at hSw); go_simp; first | done | rfl)
  try simp only [List.getElem_toArray, List.getElem_cons_succ, List.getElem_cons_zero, Act.put, List.setIfInBounds_toArray, List.set_cons_zero, List.set_cons_succ]
  refine wpAnyH_take (i := 5) (oi := _) (v := ?vb5) rfl (by kernel_rfl) (by kernel_rfl) (by kernel_rfl) (fun _ _ _ h => h) (Or.inl ⟨by rfl, ?hyb5⟩) (by assumption) ?restb5
  case hyb5 => (intro w hSw; (try dsimp only at hSw); go_simp; first | done | rfl)
  try simp only [List.getElem_toArray, List.getElem_cons_succ, List.getElem_cons_zero, Act.put, List.setIfInBounds_toArray, List.set_cons_zero, List.set_cons_succ]
  refine wpAnyH_take (i := 6) (oi := _) (v := ?vb6) rfl (by kernel_rfl) (by kernel_rfl) (by kernel_rfl) (fun _ _ _ h => h) (Or.inl ⟨by rfl, ?hyb6⟩) (by assumption) ?restb6
  case hyb6 => (intro w hSw; (try dsimp only at hSw); go_simp; first | done | rfl)
  try simp only [List.getElem_toArray, List.getElem_cons_succ, List.getElem_cons_zero, Act.put, List.setIfInBounds_toArray, List.set_cons_zero, List.set_cons_succ]
  refine wpAnyH_take (i := 7) (oi := _) (v := ?vb7) rfl (by kernel_rfl) (by kernel_rfl) (by kernel_rfl) (fun _ _ _ h => h) (Or.inl ⟨by rfl, ?hyb7⟩) (by assumption) ?restb7
  case hyb7 => (intro w hSw; (try dsimp only at hSw); go_simp; first | done | rfl)
  try simp only [List.getElem_toArray, List.getElem_cons_succ, List.getElem_cons_zero, Act.put, List.setIfInBounds_toArray, List.set_cons_zero, List.set_cons_succ]
  refine wpAnyH_take (i := 8) (oi := _) (v := ?vb8) rfl (by kernel_rfl) (by kernel_rfl) (by kernel_rfl) (fun _ _ _ h => h) (Or.inl ⟨by rfl, ?hyb8⟩) (by assumption) ?restb8
  case hyb8 => (intro w hSw; (try dsimp only at hSw); go_simp; first | done | rfl)
  try simp only [List.getElem_toArray, List.getElem_cons_succ, List.getElem_cons_zero, Act.put, List.setIfInBounds_toArray, List.set_cons_zero, List.set_cons_succ]
  refine wpAnyH_done (by kernel_rfl) ?_ _
  have HD := Lib.hid hHeld
  clear o8
  go_wp2_with fail
  refine wp_region_held_drew (S := (fun w' => Below w1.heap.size w1 w' ∧ Below w9.heap.size w9 w')) (by kernel_rfl) ?_ (fun hHeld => ?_)
  · exact ⟨below_drew HD.out.1, below_drew HD.out.2⟩
  refine wpAnyH_take (i := 0) (oi := _) (v := ?vc0) rfl (by kernel_rfl) (by kernel_rfl) (by kernel_rfl) (fun _ _ _ h => h) (Or.inl ⟨by rfl, ?hyc0⟩) (by assumption) ?restc0
  case hyc0 => (intro w hSw; (try dsimp only at hSw); go_simp; first | done | rfl)
  try simp only [List.getElem_toArray, List.getElem_cons_succ, List.getElem_cons_zero, Act.put, List.setIfInBounds_toArray, List.set_cons_zero, List.set_cons_succ]
  refine wpAnyH_take (i := 1) (oi := _) (v := ?vc1) rfl (by kernel_rfl) (by kernel_rfl) (by kernel_rfl) (fun _ _ _ h => h) (Or.inl ⟨by rfl, ?hyc1⟩) (by assumption) ?restc1
  case hyc1 => (intro w hSw; (try dsimp only at hSw); go_simp; first | done | rfl)
  try simp only [List.getElem_toArray, List.getElem_cons_succ, List.getElem_cons_zero, Act.put, List.setIfInBounds_toArray, List.set_cons_zero, List.set_cons_succ]
  refine wpAnyH_take (i := 2) (oi := _) (v := ?vc2) rfl (by kernel_rfl) (by kernel_rfl) (by kernel_rfl) (fun _ _ _ h => h) (Or.inl ⟨by rfl, ?hyc2⟩) (by assumption) ?restc2
  case hyc2 => (intro w hSw; (try dsimp only at hSw); go_simp; first | done | rfl)
  try simp only [List.getElem_toArray, List.getElem_cons_succ, List.getElem_cons_zero, Act.put, List.setIfInBounds_toArray, List.set_cons_zero, List.set_cons_succ]
  refine wpAnyH_take (i := 3) (oi := _) (v := undef) rfl (by kernel_rfl) (by kernel_rfl) (by kernel_rfl) (fun _ _ _ h => h) (Or.inr ⟨by rfl, rfl⟩) (by assumption) ?restc3
  try simp only [List.getElem_toArray, List.getElem_cons_succ, List.getElem_cons_zero, Act.put, List.setIfInBounds_toArray, List.set_cons_zero, List.set_cons_succ]
  refine wpAnyH_take (i := 4) (oi := _) (v := undef) rfl (by kernel_rfl) (by kernel_rfl) (by kernel_rfl) (fun _ _ _ h => h) (Or.inr ⟨by rfl, rfl⟩) (by assumption) ?restc4
  try simp only [List.getElem_toArray, List.getElem_cons_succ, List.getElem_cons_zero, Act.put, List.setIfInBounds_toArray, List.set_cons_zero, List.set_cons_succ]
  refine wpAnyH_take (i := 5) (oi := _) (v := undef) rfl (by kernel_rfl) (by kernel_rfl) (by kernel_rfl) (fun _ _ _ h => h) (Or.inr ⟨by rfl, rfl⟩) (by assumption) ?restc5
  try simp only [List.getElem_toArray, List.getElem_cons_succ, List.getElem_cons_zero, Act.put, List.setIfInBounds_toArray, List.set_cons_zero, List.set_cons_succ]
  refine wpAnyH_take (i := 6) (oi := _) (v := undef) rfl (by kernel_rfl) (by kernel_rfl) (by kernel_rfl) (fun _ _ _ h => h) (Or.inr ⟨by rfl, rfl⟩) (by assumption) ?restc6
  try simp only [List.getElem_toArray, List.getElem_cons_succ, List.getElem_cons_zero, Act.put, List.setIfInBounds_toArray, List.set_cons_zero, List.set_cons_succ]
  refine wpAnyH_take (i := 7) (oi := _) (v := undef) rfl (by kernel_rfl) (by kernel_rfl) (by kernel_rfl) (fun _ _ _ h => h) (Or.inr ⟨by rfl, rfl⟩) (by assumption) ?restc7
  try simp only [List.getElem_toArray, List.getElem_cons_succ, List.getElem_cons_zero, Act.put, List.setIfInBounds_toArray, List.set_cons_zero, List.set_cons_succ]
  refine wpAnyH_take (i := 8) (oi := _) (v := undef) rfl (by kernel_rfl) (by kernel_rfl) (by kernel_rfl) (fun _ _ _ h => h) (Or.inr ⟨by rfl, rfl⟩) (by assumption) ?restc8
  try simp only [List.getElem_toArray, List.getElem_cons_succ, List.getElem_cons_zero, Act.put, List.setIfInBounds_toArray, List.set_cons_zero, List.set_cons_succ]
  refine wpAnyH_take (i := 9) (oi := _) (v := undef) rfl (by kernel_rfl) (by kernel_rfl) (by kernel_rfl) (fun _ _ _ h => h) (Or.inr ⟨by rfl, rfl⟩) (by assumption) ?restc9
  try simp only [List.getElem_toArray, List.getElem_cons_succ, List.getElem_cons_zero, Act.put, List.setIfInBounds_toArray, List.set_cons_zero, List.set_cons_succ]
  refine wpAnyH_take (i := 10) (oi := _) (v := undef) rfl (by kernel_rfl) (by kernel_rfl) (by kernel_rfl) (fun _ _ _ h => h) (Or.inr ⟨by rfl, rfl⟩) (by assumption) ?restc10
  try simp only [List.getElem_toArray, List.getElem_cons_succ, List.getElem_cons_zero, Act.put, List.setIfInBounds_toArray, List.set_cons_zero, List.set_cons_succ]
  refine wpAnyH_take (i := 11) (oi := _) (v := ?vc11) rfl (by kernel_rfl) (by kernel_rfl) (by kernel_rfl) (fun _ _ _ h => h) (Or.inl ⟨by rfl, ?hyc11⟩) (by assumption) ?restc11
  case hyc11 => (intro w hSw; (try dsimp only at hSw); go_simp; first | done | rfl)
  try simp only [List.getElem_toArray, List.getElem_cons_succ, List.getElem_cons_zero, Act.put, List.setIfInBounds_toArray, List.set_cons_zero, List.set_cons_succ]
  refine wpAnyH_take (i := 12) (oi := _) (v := ?vc12) rfl (by kernel_rfl) (by kernel_rfl) (by kernel_rfl) (fun _ _ _ h => h) (Or.inl ⟨by rfl, ?hyc12⟩) (by assumption) ?restc12
  case hyc12 => (intro w hSw; (try dsimp only at hSw); go_simp; first | done | rfl)
  try simp only [List.getElem_toArray, List.getElem_cons_succ, List.getElem_cons_zero, Act.put, List.setIfInBounds_toArray, List.set_cons_zero, List.set_cons_succ]
  refine wpAnyH_take (i := 13) (oi := _) (v := ?vc13) rfl (by kernel_rfl) (by kernel_rfl) (by kernel_rfl) (fun _ _ _ h => h) (Or.inl ⟨by rfl, ?hyc13⟩) (by assumption) ?restc13
  case hyc13 => (intro w hSw; (try dsimp only at hSw); go_simp; first | done | rfl)
  try simp only [List.getElem_toArray, List.getElem_cons_succ, List.getElem_cons_zero, Act.put, List.setIfInBounds_toArray, List.set_cons_zero, List.set_cons_succ]
  refine wpAnyH_take (i := 14) (oi := _) (v := ?vc14) rfl (by kernel_rfl) (by kernel_rfl) (by kernel_rfl) (fun _ _ _ h => h) (Or.inl ⟨by rfl, ?hyc14⟩) (by assumption) ?restc14
  case hyc14 => (intro w hSw; (try dsimp only at hSw); go_simp; first | done | rfl)
  try simp only [List.getElem_toArray, List.getElem_cons_succ, List.getElem_cons_zero, Act.put, List.setIfInBounds_toArray, List.set_cons_zero, List.set_cons_succ]
  refine wpAnyH_take (i := 15) (oi := _) (v := ?vc15) rfl (by kernel_rfl) (by kernel_rfl) (by kernel_rfl) (fun _ _ _ h => h) (Or.inl ⟨by rfl, ?hyc15⟩) (by assumption) ?restc15
  case hyc15 => (intro w hSw; (try dsimp only at hSw); go_simp; first | done | rfl)
  try simp only [List.getElem_toArray, List.getElem_cons_succ, List.getElem_cons_zero, Act.put, List.setIfInBounds_toArray, List.set_cons_zero, List.set_cons_succ]
  refine wpAnyH_take (i := 16) (oi := _) (v := ?vc16) rfl (by kernel_rfl) (by kernel_rfl) (by kernel_rfl) (fun _ _ _ h => h) (Or.inl ⟨by rfl, ?hyc16⟩) (by assumption) ?restc16
  case hyc16 => (intro w hSw; (try dsimp only at hSw); go_simp; first | done | rfl)
  try simp only [List.getElem_toArray, List.getElem_cons_succ, List.getElem_cons_zero, Act.put, List.setIfInBounds_toArray, List.set_cons_zero, List.set_cons_succ]
  refine wpAnyH_take (i := 17) (oi := _) (v := ?vc17) rfl (by kernel_rfl) (by kernel_rfl) (by kernel_rfl) (fun _ _ _ h => h) (Or.inl ⟨by rfl, ?hyc17⟩) (by assumption) ?restc17
  case hyc17 => (intro w hSw; (try dsimp only at hSw); go_simp; first | done | rfl)
  try simp only [List.getElem_toArray, List.getElem_cons_succ, List.getElem_cons_zero, Act.put, List.setIfInBounds_toArray, List.set_cons_zero, List.set_cons_succ]
  refine wpAnyH_take (i := 18) (oi := _) (v := ?vc18) rfl (by kernel_rfl) (by kernel_rfl) (by kernel_rfl) (fun _ _ _ h => h) (Or.inl ⟨by rfl, ?hyc18⟩) (by assumption) ?restc18
  case hyc18 => (intro w hSw; (try dsimp only at hSw); go_simp; first | done | rfl)
  try simp only [List.getElem_toArray, List.getElem_cons_succ, List.getElem_cons_zero, Act.put, List.setIfInBounds_toArray, List.set_cons_zero, List.set_cons_succ]
  refine wpAnyH_take (i := 19) (oi := _) (v := ?vc19) rfl (by kernel_rfl) (by kernel_rfl) (by kernel_rfl) (fun _ _ _ h => h) (Or.inl ⟨by rfl, ?hyc19⟩) (by assumption) ?restc19
  case hyc19 => (intro w hSw; (try dsimp only at hSw); obtain ⟨s0, s1, s2, s3, s4⟩ := Q hSw.1; obtain ⟨r0, r1, r2, r3⟩ := R hSw.2; go_simp; first | done | rfl)
  try simp only [List.getElem_toArray, List.getElem_cons_succ, List.getElem_cons_zero, Act.put, List.setIfInBounds_toArray, List.set_cons_zero, List.set_cons_succ]
  refine wpAnyH_take (i := 20) (oi := _) (v := ?vc20) rfl (by kernel_rfl) (by kernel_rfl) (by kernel_rfl) (fun _ _ _ h => h) (Or.inl ⟨by rfl, ?hyc20⟩) (by assumption) ?restc20
  case hyc20 => (intro w hSw; (try dsimp only at hSw); obtain ⟨s0, s1, s2, s3, s4⟩ := Q hSw.1; obtain ⟨r0, r1, r2, r3⟩ := R hSw.2; go_simp; first | done | rfl)
  try simp only [List.getElem_toArray, List.getElem_cons_succ, List.getElem_cons_zero, Act.put, List.setIfInBounds_toArray, List.set_cons_zero, List.set_cons_succ]
  refine wpAnyH_ready (rs := [21]) (by kernel_rfl) (by simp) ?_
  refine AllReadyH.cons (o := _) rfl (fun K hK => ?_) AllReadyH.nil
  simp only [List.getElem_toArray, List.getElem_cons_succ, List.getElem_cons_zero]
  go_simp
  go_at_call 27
  refine (HRE.out _).mono ?_
  rintro e w' ⟨rfl, hbq⟩
  refine hK.out _ _ (hbT2 (by assumption) hbq) (fun hHeld => ?_)
  clear hK K
  try simp only [List.getElem_toArray, List.getElem_cons_succ, List.getElem_cons_zero, Act.put, List.setIfInBounds_toArray, List.set_cons_zero, List.set_cons_succ]
  refine wpAnyH_take (i := 22) (oi := _) (v := ?vc22) rfl (by kernel_rfl) (by kernel_rfl) (by kernel_rfl) (fun _ _ _ h => h) (Or.inl ⟨by rfl, ?hyc22⟩) (by assumption) ?restc22
  case hyc22 => (intro w hSw; (try dsimp only at hSw); go_simp; first | done | rfl)
  try simp only [List.getElem_toArray, List.getElem_cons_succ, List.getElem_cons_zero, Act.put, List.setIfInBounds_toArray, List.set_cons_zero, List.set_cons_succ]
  refine wpAnyH_take (i := 23) (oi := _) (v := ?vc23) rfl (by kernel_rfl) (by kernel_rfl) (by kernel_rfl) (fun _ _ _ h => h) (Or.inl ⟨by rfl, ?hyc23⟩) (by assumption) ?restc23
  case hyc23 => (intro w hSw; (try dsimp only at hSw); go_simp; first | done | rfl)
  try simp only [List.getElem_toArray, List.getElem_cons_succ, List.getElem_cons_zero, Act.put, List.setIfInBounds_toArray, List.set_cons_zero, List.set_cons_succ]
  refine wpAnyH_take (i := 24) (oi := _) (v := ?vc24) rfl (by kernel_rfl) (by kernel_rfl) (by kernel_rfl) (fun _ _ _ h => h) (Or.inl ⟨by rfl, ?hyc24⟩) (by assumption) ?restc24
  case hyc24 => (intro w hSw; (try dsimp only at hSw); go_simp; first | done | rfl)
  try simp only [List.getElem_toArray, List.getElem_cons_succ, List.getElem_cons_zero, Act.put, List.setIfInBounds_toArray, List.set_cons_zero, List.set_cons_succ]
  refine wpAnyH_take (i := 25) (oi := _) (v := ?vc25) rfl (by kernel_rfl) (by kernel_rfl) (by kernel_rfl) (fun _ _ _ h => h) (Or.inl ⟨by rfl, ?hyc25⟩) (by assumption) ?restc25
  case hyc25 => (intro w hSw; (try dsimp only at hSw); go_simp; first | done | rfl)
  try simp only [List.getElem_toArray, List.getElem_cons_succ, List.getElem_cons_zero, Act.put, List.setIfInBounds_toArray, List.set_cons_zero, List.set_cons_succ]
  refine wpAnyH_done (by kernel_rfl) ?_ _
  clear HD
  have HD := Lib.hid hHeld
  replace BW := HD.out.1
  go_wp2_with fail
  refine (lwNetBad K _ HK0.out).mono ?_
  rintro e w13 ⟨rfl, hb13⟩
  replace BW := hbT BW hb13
  clear hb13
  go_wp2_with fail
  refine (lwFirst N 0 _ _ 3 _ (by exact heap_alloc_new _ _)).mono ?_
  rintro e w14 ⟨rfl, rfl⟩
  rw [HF.out]
  replace BW := hbT BW (bel_new _ (.cells #[.int .i64 N, .int .i64 0] 3))
  have qs := Q BW
  obtain ⟨s0, s1, s2, s3, s4⟩ := qs
  go_wp2_with fail
  refine (HRH.out _ (fin BW)).mono ?_
  rintro e w15 ⟨rfl, hb15⟩
  replace BW := hbT BW hb15
  clear hb15 s0 s1 s2 s3 s4
  go_wp2
  go_ret
  exact ⟨by simp, fin BW⟩
set_option maxHeartbeats 8000000 in
set_option maxRecDepth 100000 in
theorem lawBarsBkf (A : Option Addr) (c : Nat) (l : List Bar) (x y s p q N B K F p0 p1 p2 p3 : Int) (h : Bool) (w : World) (hL : LaidLen w) (hO : OKS w A c l) (hlm : l.length ≤ 4098)
    (hS : ∀ W : World, Calls Tryz.prog 16 #[.slice A l.length c, .int .i64 40] W fun e w' => e = .returned (.bool true) ∧ W = w')
    (hN : netE l = N) (hB : barE x y s = B) (hK : knotE p q = K) (hF : firstE [N, B] = F)
    (hEnds : ∀ W : World, Calls Tryz.prog 24 #[.agg #[.int .i64 x, .int .i64 y, .int .i64 s]] W fun e w' => e = .returned (.tuple #[.agg #[.int .i64 p0, .int .i64 p1, .int .i64 p2, .int .i64 p3], .int .i64 B]) ∧ Below W.heap.size W w')
    (hHas : ∀ (W : World) (a : Option Addr) (c' : Nat), OKS W a c' l → Calls Tryz.prog 26 #[.slice a l.length c', .agg #[.int .i64 x, .int .i64 y, .int .i64 s]] W fun e w' => e = .returned (.tuple #[.bool h, .int .i64 F]) ∧ Below W.heap.size W w')
    (b0 : B = 0) (hREnds : ∀ W : World, Calls Tryz.prog 27 #[.agg #[.int .i64 x, .int .i64 y, .int .i64 s]] W fun e w' => e = .returned (.agg #[.int .i64 p0, .int .i64 p1, .int .i64 p2, .int .i64 p3]) ∧ Below W.heap.size W w')
    (k0 : K ≠ 0)
    (f0 : F ≠ 0) (h0 : h = false) :
    Calls Tryz.prog 3 #[.slice A l.length c, .agg #[.int .i64 x, .int .i64 y, .int .i64 s], .agg #[.int .i64 p, .int .i64 q]] w fun e w' => e = .returned (.bool true) ∧ Below w.heap.size w w' := by
  subst b0
  have HK0 := Lib.hid k0
  have k1 : (K != 0) = true := by rw [bne_iff_ne]; exact k0
  have k2 : (K == 0) = false := by rw [beq_eq_false_iff_ne]; exact k0
  subst h0
  have f1 : (F == 0) = false := by rw [beq_eq_false_iff_ne]; exact f0
  obtain ⟨w1, hw1, Q, hb1, hz1⟩ := box32Q w x y s p q
  have HW1 := Lib.hid hw1
  have HLL := Lib.hid hL
  have HO := Lib.hid hO
  have HS := Lib.hid hS
  have HN := Lib.hid hN
  have HB := Lib.hid hB
  have HK := Lib.hid hK
  have HF := Lib.hid hF
  have HE := Lib.hid hEnds
  have HH := Lib.hid hHas
  have HRE := Lib.hid hREnds
  have fin : ∀ {W : World}, Below w1.heap.size w1 W → Below w.heap.size w W := fun hb => hb1.trans (hb.mono hb1.size)
  have hq := eqTwo p0 p1 p2 p3
  have hgd := guardTwo
  have ex0 : ∀ (a b : Value) (w : World), (Instr.extract (.tuple #[a, b]) 0).run Tryz.prog w = .ok a w := fun _ _ _ => by kernel_rfl
  have ex1 : ∀ (a b : Value) (w : World), (Instr.extract (.tuple #[a, b]) 1).run Tryz.prog w = .ok b w := fun _ _ _ => by kernel_rfl
  have BW := Below.refl w1.heap.size w1
  clear hw1 hL hO hS hN hB hK hF hEnds hHas hREnds k0 f0
  go_enter Tryz.func3, Tryz.ntmps3
  go_wp2_with fail
  rw [← HW1.out]
  go_wp2_with fail
  refine (awake1 _ (HLL.out.below (fin BW) HLL.out.lt)).mono ?_
  rintro e w2 ⟨rfl, hb2⟩
  replace BW := hbT BW hb2
  clear hb2
  go_wp2_with fail
  refine (HS.out _).mono ?_
  rintro e w3 ⟨rfl, rfl⟩
  go_wp2_with fail
  refine wp_region_held_drew (S := (fun w' => Below w1.heap.size w1 w')) (by kernel_rfl) ?_ (fun hHeld => ?_)
  · exact below_drew BW
  refine wpAnyH_take (i := 0) (oi := _) (v := ?va0) rfl (by kernel_rfl) (by kernel_rfl) (by kernel_rfl) (fun _ _ _ h => h) (Or.inl ⟨by rfl, ?hya0⟩) (by assumption) ?resta0
  case hya0 => (intro w hSw; (try dsimp only at hSw); go_simp; first | done | rfl)
  try simp only [List.getElem_toArray, List.getElem_cons_succ, List.getElem_cons_zero, Act.put, List.setIfInBounds_toArray, List.set_cons_zero, List.set_cons_succ]
  refine wpAnyH_take (i := 2) (oi := _) (v := ?va2) rfl (by kernel_rfl) (by kernel_rfl) (by kernel_rfl) (fun _ _ _ h => h) (Or.inl ⟨by rfl, ?hya2⟩) (by assumption) ?resta2
  case hya2 => (intro w hSw; (try dsimp only at hSw); obtain ⟨s0, s1, s2, s3, s4⟩ := Q hSw; go_simp; first | done | rfl)
  try simp only [List.getElem_toArray, List.getElem_cons_succ, List.getElem_cons_zero, Act.put, List.setIfInBounds_toArray, List.set_cons_zero, List.set_cons_succ]
  refine wpAnyH_take (i := 4) (oi := _) (v := ?va4) rfl (by kernel_rfl) (by kernel_rfl) (by kernel_rfl) (fun _ _ _ h => h) (Or.inl ⟨by rfl, ?hya4⟩) (by assumption) ?resta4
  case hya4 => (intro w hSw; (try dsimp only at hSw); obtain ⟨s0, s1, s2, s3, s4⟩ := Q hSw; go_simp; first | done | rfl)
  try simp only [List.getElem_toArray, List.getElem_cons_succ, List.getElem_cons_zero, Act.put, List.setIfInBounds_toArray, List.set_cons_zero, List.set_cons_succ]
  refine wpAnyH_ready (rs := [1]) (by kernel_rfl) (by simp) ?_
  refine AllReadyH.cons (o := _) rfl (fun K hK => ?_) AllReadyH.nil
  simp only [List.getElem_toArray, List.getElem_cons_succ, List.getElem_cons_zero]
  go_simp
  go_at_call 17
  refine (refCheckNetA A c l _ (HO.out.below (fin (by assumption)))).mono ?_
  rintro e w' ⟨rfl, hbq⟩
  rw [HN.out]
  refine hK.out _ _ (hbT (by assumption) hbq) (fun hHeld => ?_)
  clear hK K
  try simp only [List.getElem_toArray, List.getElem_cons_succ, List.getElem_cons_zero, Act.put, List.setIfInBounds_toArray, List.set_cons_zero, List.set_cons_succ]
  refine wpAnyH_ready (rs := [3]) (by kernel_rfl) (by simp) ?_
  refine AllReadyH.cons (o := _) rfl (fun K hK => ?_) AllReadyH.nil
  simp only [List.getElem_toArray, List.getElem_cons_succ, List.getElem_cons_zero]
  go_simp
  go_at_call 18
  refine (refCheckBar _ _ _ _).mono ?_
  rintro e w' ⟨rfl, hbq⟩
  rw [HB.out]
  refine hK.out _ _ (hbT (by assumption) hbq) (fun hHeld => ?_)
  clear hK K
  try simp only [List.getElem_toArray, List.getElem_cons_succ, List.getElem_cons_zero, Act.put, List.setIfInBounds_toArray, List.set_cons_zero, List.set_cons_succ]
  refine wpAnyH_ready (rs := [5]) (by kernel_rfl) (by simp) ?_
  refine AllReadyH.cons (o := _) rfl (fun K hK => ?_) AllReadyH.nil
  simp only [List.getElem_toArray, List.getElem_cons_succ, List.getElem_cons_zero]
  go_simp
  go_at_call 19
  refine (refCheckKnot _ _ _).mono ?_
  rintro e w' ⟨rfl, hbq⟩
  rw [HK.out]
  refine hK.out _ _ (hbT (by assumption) hbq) (fun hHeld => ?_)
  clear hK K
  try simp only [List.getElem_toArray, List.getElem_cons_succ, List.getElem_cons_zero, Act.put, List.setIfInBounds_toArray, List.set_cons_zero, List.set_cons_succ]
  refine wpAnyH_take (i := 6) (oi := _) (v := ?va6) rfl (by kernel_rfl) (by kernel_rfl) (by kernel_rfl) (fun _ _ _ h => h) (Or.inl ⟨by rfl, ?hya6⟩) (by assumption) ?resta6
  case hya6 => (intro w hSw; (try dsimp only at hSw); go_simp; first | done | rfl)
  try simp only [List.getElem_toArray, List.getElem_cons_succ, List.getElem_cons_zero, Act.put, List.setIfInBounds_toArray, List.set_cons_zero, List.set_cons_succ]
  refine wpAnyH_take (i := 7) (oi := _) (v := ?va7) rfl (by kernel_rfl) (by kernel_rfl) (by kernel_rfl) (fun _ _ _ h => h) (Or.inl ⟨by rfl, ?hya7⟩) (by assumption) ?resta7
  case hya7 => (intro w hSw; (try dsimp only at hSw); go_simp; first | done | rfl)
  try simp only [List.getElem_toArray, List.getElem_cons_succ, List.getElem_cons_zero, Act.put, List.setIfInBounds_toArray, List.set_cons_zero, List.set_cons_succ]
  refine wpAnyH_take (i := 8) (oi := _) (v := ?va8) rfl (by kernel_rfl) (by kernel_rfl) (by kernel_rfl) (fun _ _ _ h => h) (Or.inl ⟨by rfl, ?hya8⟩) (by assumption) ?resta8
  case hya8 => (intro w hSw; (try dsimp only at hSw); go_simp; first | done | rfl)
  try simp only [List.getElem_toArray, List.getElem_cons_succ, List.getElem_cons_zero, Act.put, List.setIfInBounds_toArray, List.set_cons_zero, List.set_cons_succ]
  refine wpAnyH_done (by kernel_rfl) ?_ _
  replace BW := hHeld
  go_wp2_with fail
  refine (lwCopied A c l _ hlm (HO.out.below (fin BW))).mono ?_
  rintro e w4 ⟨a4, c4, rfl, o4, hb4⟩
  replace BW := hbT BW hb4
  have O4 := Lib.hid o4
  clear o4 hb4
  go_wp2_with fail
  refine (netCheckNetA a4 c4 l _ O4.out).mono ?_
  rintro e w5 ⟨rfl, hb5⟩
  rw [HN.out]
  replace BW := hbT BW hb5
  clear hb5
  have qs := Q BW
  obtain ⟨s0, s1, s2, s3, s4⟩ := qs
  go_wp2_with fail
  refine (netCheckBar x y s _).mono ?_
  rintro e w6 ⟨rfl, hb6⟩
  rw [HB.out]
  replace BW := hbT BW hb6
  clear hb6 s0 s1 s2 s3 s4
  have qs := Q BW
  obtain ⟨s0, s1, s2, s3, s4⟩ := qs
  go_wp2_with fail
  refine (netCheckKnot p q _).mono ?_
  rintro e w7 ⟨rfl, hb7⟩
  rw [HK.out]
  replace BW := hbT BW hb7
  clear hb7 s0 s1 s2 s3 s4
  have qs := Q BW
  obtain ⟨s0, s1, s2, s3, s4⟩ := qs
  go_wp2_with fail
  refine (HE.out _).mono ?_
  rintro e w8 ⟨rfl, hb8⟩
  replace BW := hbT BW hb8
  clear hb8 s0 s1 s2 s3 s4
  obtain ⟨wa, w9, hwa, hw9, r0, r1, r2, r3, rf, hH9, hb9⟩ := st4 w8 (.int .i64 p0) (.int .i64 p1) (.int .i64 p2) (.int .i64 p3) 37
  have hg9 : w8.heap.size < w9.heap.size := (Array.getElem?_eq_some_iff.1 hH9).1
  replace BW := hbT BW hb9
  clear hb9
  have R : ∀ {W : World}, Below w9.heap.size w9 W → W.cell? ⟨w8.heap.size, 0, none⟩ = some (.int .i64 p0) ∧ W.cell? ⟨w8.heap.size, 1, none⟩ = some (.int .i64 p1) ∧ W.cell? ⟨w8.heap.size, 2, none⟩ = some (.int .i64 p2) ∧ W.cell? ⟨w8.heap.size, 3, none⟩ = some (.int .i64 p3) := fun hb => four_at hb hH9
  have qs := Q BW
  obtain ⟨s0, s1, s2, s3, s4⟩ := qs
  clear hH9
  go_wp2_with fail
  refine (netAroundBad p q K _ HK.out HK0.out).mono ?_
  rintro e w10 ⟨rfl, hb10⟩
  have BX := Lib.hid hb10
  replace BW := hbT BW hb10
  clear hb10 s0 s1 s2 s3 s4 r0 r1 r2 r3 rf hwa hw9
  go_wp2_with fail
  refine wp_region_held_drew (S := (fun w' => Below w1.heap.size w1 w' ∧ Below w9.heap.size w9 w')) (by kernel_rfl) ?_ (fun hHeld => ?_)
  · exact ⟨below_drew BW, below_drew BX.out⟩
  refine wpAnyH_take (i := 0) (oi := _) (v := ?vb0) rfl (by kernel_rfl) (by kernel_rfl) (by kernel_rfl) (fun _ _ _ h => h) (Or.inl ⟨by rfl, ?hyb0⟩) (by assumption) ?restb0
  case hyb0 => (intro w hSw; (try dsimp only at hSw); go_simp; first | done | rfl)
  try simp only [List.getElem_toArray, List.getElem_cons_succ, List.getElem_cons_zero, Act.put, List.setIfInBounds_toArray, List.set_cons_zero, List.set_cons_succ]
  refine wpAnyH_take (i := 2) (oi := _) (v := ?vb2) rfl (by kernel_rfl) (by kernel_rfl) (by kernel_rfl) (fun _ _ _ h => h) (Or.inl ⟨by rfl, ?hyb2⟩) (by assumption) ?restb2
  case hyb2 => (intro w hSw; (try dsimp only at hSw); obtain ⟨s0, s1, s2, s3, s4⟩ := Q hSw.1; obtain ⟨r0, r1, r2, r3⟩ := R hSw.2; go_simp; first | done | rfl)
  try simp only [List.getElem_toArray, List.getElem_cons_succ, List.getElem_cons_zero, Act.put, List.setIfInBounds_toArray, List.set_cons_zero, List.set_cons_succ]
  refine wpAnyH_ready (rs := [1]) (by kernel_rfl) (by simp) ?_
  refine AllReadyH.cons (o := _) rfl (fun K hK => ?_) AllReadyH.nil
  simp only [List.getElem_toArray, List.getElem_cons_succ, List.getElem_cons_zero]
  go_simp
  go_at_call 21
  refine (lwCopied A c l _ hlm (HO.out.below (fin (sOf (by assumption))))).mono ?_
  rintro e w' ⟨a8, c8, rfl, o8, hbq⟩
  refine hK.out _ _ (hbT2 (by assumption) hbq) (fun hHeld => ?_)
  clear hK K
  try simp only [List.getElem_toArray, List.getElem_cons_succ, List.getElem_cons_zero, Act.put, List.setIfInBounds_toArray, List.set_cons_zero, List.set_cons_succ]
  refine wpAnyH_ready (rs := [3]) (by kernel_rfl) (by simp) ?_
  refine AllReadyH.cons (o := _) rfl (fun K hK => ?_) AllReadyH.nil
  simp only [List.getElem_toArray, List.getElem_cons_succ, List.getElem_cons_zero]
  go_simp
  go_at_call 26
  refine (HH.out _ _ _ o8).mono ?_
  rintro e w' ⟨rfl, hbq⟩
  refine hK.out _ _ (hbT2 (by assumption) hbq) (fun hHeld => ?_)
  clear hK K
  try simp only [List.getElem_toArray, List.getElem_cons_succ, List.getElem_cons_zero, Act.put, List.setIfInBounds_toArray, List.set_cons_zero, List.set_cons_succ]
  refine wpAnyH_take (i := 4) (oi := _) (v := ?vb4) rfl (by kernel_rfl) (by kernel_rfl) (by kernel_rfl) (fun _ _ _ h => h) (Or.inl ⟨by rfl, ?hyb4⟩) (by assumption) ?restb4
  case hyb4 => (intro w hSw; (try dsimp only at hSw); go_simp; first | done | rfl)
  try simp only [List.getElem_toArray, List.getElem_cons_succ, List.getElem_cons_zero, Act.put, List.setIfInBounds_toArray, List.set_cons_zero, List.set_cons_succ]
  refine wpAnyH_take (i := 5) (oi := _) (v := ?vb5) rfl (by kernel_rfl) (by kernel_rfl) (by kernel_rfl) (fun _ _ _ h => h) (Or.inl ⟨by rfl, ?hyb5⟩) (by assumption) ?restb5
  case hyb5 => (intro w hSw; (try dsimp only at hSw); go_simp; first | done | rfl)
  try simp only [List.getElem_toArray, List.getElem_cons_succ, List.getElem_cons_zero, Act.put, List.setIfInBounds_toArray, List.set_cons_zero, List.set_cons_succ]
  refine wpAnyH_take (i := 6) (oi := _) (v := ?vb6) rfl (by kernel_rfl) (by kernel_rfl) (by kernel_rfl) (fun _ _ _ h => h) (Or.inl ⟨by rfl, ?hyb6⟩) (by assumption) ?restb6
  case hyb6 => (intro w hSw; (try dsimp only at hSw); go_simp; first | done | rfl)
  try simp only [List.getElem_toArray, List.getElem_cons_succ, List.getElem_cons_zero, Act.put, List.setIfInBounds_toArray, List.set_cons_zero, List.set_cons_succ]
  refine wpAnyH_take (i := 7) (oi := _) (v := ?vb7) rfl (by kernel_rfl) (by kernel_rfl) (by kernel_rfl) (fun _ _ _ h => h) (Or.inl ⟨by rfl, ?hyb7⟩) (by assumption) ?restb7
  case hyb7 => (intro w hSw; (try dsimp only at hSw); go_simp; first | done | rfl)
  try simp only [List.getElem_toArray, List.getElem_cons_succ, List.getElem_cons_zero, Act.put, List.setIfInBounds_toArray, List.set_cons_zero, List.set_cons_succ]
  refine wpAnyH_take (i := 8) (oi := _) (v := ?vb8) rfl (by kernel_rfl) (by kernel_rfl) (by kernel_rfl) (fun _ _ _ h => h) (Or.inl ⟨by rfl, ?hyb8⟩) (by assumption) ?restb8
  case hyb8 => (intro w hSw; (try dsimp only at hSw); go_simp; first | done | rfl)
  try simp only [List.getElem_toArray, List.getElem_cons_succ, List.getElem_cons_zero, Act.put, List.setIfInBounds_toArray, List.set_cons_zero, List.set_cons_succ]
  refine wpAnyH_done (by kernel_rfl) ?_ _
  have HD := Lib.hid hHeld
  clear o8
  go_wp2_with fail
  refine wp_region_held_drew (S := (fun w' => Below w1.heap.size w1 w' ∧ Below w9.heap.size w9 w')) (by kernel_rfl) ?_ (fun hHeld => ?_)
  · exact ⟨below_drew HD.out.1, below_drew HD.out.2⟩
  refine wpAnyH_take (i := 0) (oi := _) (v := ?vc0) rfl (by kernel_rfl) (by kernel_rfl) (by kernel_rfl) (fun _ _ _ h => h) (Or.inl ⟨by rfl, ?hyc0⟩) (by assumption) ?restc0
  case hyc0 => (intro w hSw; (try dsimp only at hSw); go_simp; first | done | rfl)
  try simp only [List.getElem_toArray, List.getElem_cons_succ, List.getElem_cons_zero, Act.put, List.setIfInBounds_toArray, List.set_cons_zero, List.set_cons_succ]
  refine wpAnyH_take (i := 1) (oi := _) (v := ?vc1) rfl (by kernel_rfl) (by kernel_rfl) (by kernel_rfl) (fun _ _ _ h => h) (Or.inl ⟨by rfl, ?hyc1⟩) (by assumption) ?restc1
  case hyc1 => (intro w hSw; (try dsimp only at hSw); go_simp; first | done | rfl)
  try simp only [List.getElem_toArray, List.getElem_cons_succ, List.getElem_cons_zero, Act.put, List.setIfInBounds_toArray, List.set_cons_zero, List.set_cons_succ]
  refine wpAnyH_take (i := 2) (oi := _) (v := ?vc2) rfl (by kernel_rfl) (by kernel_rfl) (by kernel_rfl) (fun _ _ _ h => h) (Or.inl ⟨by rfl, ?hyc2⟩) (by assumption) ?restc2
  case hyc2 => (intro w hSw; (try dsimp only at hSw); go_simp; first | done | rfl)
  try simp only [List.getElem_toArray, List.getElem_cons_succ, List.getElem_cons_zero, Act.put, List.setIfInBounds_toArray, List.set_cons_zero, List.set_cons_succ]
  refine wpAnyH_take (i := 3) (oi := _) (v := undef) rfl (by kernel_rfl) (by kernel_rfl) (by kernel_rfl) (fun _ _ _ h => h) (Or.inr ⟨by rfl, rfl⟩) (by assumption) ?restc3
  try simp only [List.getElem_toArray, List.getElem_cons_succ, List.getElem_cons_zero, Act.put, List.setIfInBounds_toArray, List.set_cons_zero, List.set_cons_succ]
  refine wpAnyH_take (i := 4) (oi := _) (v := undef) rfl (by kernel_rfl) (by kernel_rfl) (by kernel_rfl) (fun _ _ _ h => h) (Or.inr ⟨by rfl, rfl⟩) (by assumption) ?restc4
  try simp only [List.getElem_toArray, List.getElem_cons_succ, List.getElem_cons_zero, Act.put, List.setIfInBounds_toArray, List.set_cons_zero, List.set_cons_succ]
  refine wpAnyH_take (i := 5) (oi := _) (v := undef) rfl (by kernel_rfl) (by kernel_rfl) (by kernel_rfl) (fun _ _ _ h => h) (Or.inr ⟨by rfl, rfl⟩) (by assumption) ?restc5
  try simp only [List.getElem_toArray, List.getElem_cons_succ, List.getElem_cons_zero, Act.put, List.setIfInBounds_toArray, List.set_cons_zero, List.set_cons_succ]
  refine wpAnyH_take (i := 6) (oi := _) (v := undef) rfl (by kernel_rfl) (by kernel_rfl) (by kernel_rfl) (fun _ _ _ h => h) (Or.inr ⟨by rfl, rfl⟩) (by assumption) ?restc6
  try simp only [List.getElem_toArray, List.getElem_cons_succ, List.getElem_cons_zero, Act.put, List.setIfInBounds_toArray, List.set_cons_zero, List.set_cons_succ]
  refine wpAnyH_take (i := 7) (oi := _) (v := undef) rfl (by kernel_rfl) (by kernel_rfl) (by kernel_rfl) (fun _ _ _ h => h) (Or.inr ⟨by rfl, rfl⟩) (by assumption) ?restc7
  try simp only [List.getElem_toArray, List.getElem_cons_succ, List.getElem_cons_zero, Act.put, List.setIfInBounds_toArray, List.set_cons_zero, List.set_cons_succ]
  refine wpAnyH_take (i := 8) (oi := _) (v := undef) rfl (by kernel_rfl) (by kernel_rfl) (by kernel_rfl) (fun _ _ _ h => h) (Or.inr ⟨by rfl, rfl⟩) (by assumption) ?restc8
  try simp only [List.getElem_toArray, List.getElem_cons_succ, List.getElem_cons_zero, Act.put, List.setIfInBounds_toArray, List.set_cons_zero, List.set_cons_succ]
  refine wpAnyH_take (i := 9) (oi := _) (v := undef) rfl (by kernel_rfl) (by kernel_rfl) (by kernel_rfl) (fun _ _ _ h => h) (Or.inr ⟨by rfl, rfl⟩) (by assumption) ?restc9
  try simp only [List.getElem_toArray, List.getElem_cons_succ, List.getElem_cons_zero, Act.put, List.setIfInBounds_toArray, List.set_cons_zero, List.set_cons_succ]
  refine wpAnyH_take (i := 10) (oi := _) (v := undef) rfl (by kernel_rfl) (by kernel_rfl) (by kernel_rfl) (fun _ _ _ h => h) (Or.inr ⟨by rfl, rfl⟩) (by assumption) ?restc10
  try simp only [List.getElem_toArray, List.getElem_cons_succ, List.getElem_cons_zero, Act.put, List.setIfInBounds_toArray, List.set_cons_zero, List.set_cons_succ]
  refine wpAnyH_take (i := 11) (oi := _) (v := ?vc11) rfl (by kernel_rfl) (by kernel_rfl) (by kernel_rfl) (fun _ _ _ h => h) (Or.inl ⟨by rfl, ?hyc11⟩) (by assumption) ?restc11
  case hyc11 => (intro w hSw; (try dsimp only at hSw); go_simp; first | done | rfl)
  try simp only [List.getElem_toArray, List.getElem_cons_succ, List.getElem_cons_zero, Act.put, List.setIfInBounds_toArray, List.set_cons_zero, List.set_cons_succ]
  refine wpAnyH_take (i := 12) (oi := _) (v := ?vc12) rfl (by kernel_rfl) (by kernel_rfl) (by kernel_rfl) (fun _ _ _ h => h) (Or.inl ⟨by rfl, ?hyc12⟩) (by assumption) ?restc12
  case hyc12 => (intro w hSw; (try dsimp only at hSw); go_simp; first | done | rfl)
  try simp only [List.getElem_toArray, List.getElem_cons_succ, List.getElem_cons_zero, Act.put, List.setIfInBounds_toArray, List.set_cons_zero, List.set_cons_succ]
  refine wpAnyH_take (i := 13) (oi := _) (v := ?vc13) rfl (by kernel_rfl) (by kernel_rfl) (by kernel_rfl) (fun _ _ _ h => h) (Or.inl ⟨by rfl, ?hyc13⟩) (by assumption) ?restc13
  case hyc13 => (intro w hSw; (try dsimp only at hSw); go_simp; first | done | rfl)
  try simp only [List.getElem_toArray, List.getElem_cons_succ, List.getElem_cons_zero, Act.put, List.setIfInBounds_toArray, List.set_cons_zero, List.set_cons_succ]
  refine wpAnyH_take (i := 14) (oi := _) (v := ?vc14) rfl (by kernel_rfl) (by kernel_rfl) (by kernel_rfl) (fun _ _ _ h => h) (Or.inl ⟨by rfl, ?hyc14⟩) (by assumption) ?restc14
  case hyc14 => (intro w hSw; (try dsimp only at hSw); go_simp; first | done | rfl)
  try simp only [List.getElem_toArray, List.getElem_cons_succ, List.getElem_cons_zero, Act.put, List.setIfInBounds_toArray, List.set_cons_zero, List.set_cons_succ]
  refine wpAnyH_take (i := 15) (oi := _) (v := ?vc15) rfl (by kernel_rfl) (by kernel_rfl) (by kernel_rfl) (fun _ _ _ h => h) (Or.inl ⟨by rfl, ?hyc15⟩) (by assumption) ?restc15
  case hyc15 => (intro w hSw; (try dsimp only at hSw); go_simp; first | done | rfl)
  try simp only [List.getElem_toArray, List.getElem_cons_succ, List.getElem_cons_zero, Act.put, List.setIfInBounds_toArray, List.set_cons_zero, List.set_cons_succ]
  refine wpAnyH_take (i := 16) (oi := _) (v := ?vc16) rfl (by kernel_rfl) (by kernel_rfl) (by kernel_rfl) (fun _ _ _ h => h) (Or.inl ⟨by rfl, ?hyc16⟩) (by assumption) ?restc16
  case hyc16 => (intro w hSw; (try dsimp only at hSw); go_simp; first | done | rfl)
  try simp only [List.getElem_toArray, List.getElem_cons_succ, List.getElem_cons_zero, Act.put, List.setIfInBounds_toArray, List.set_cons_zero, List.set_cons_succ]
  refine wpAnyH_take (i := 17) (oi := _) (v := ?vc17) rfl (by kernel_rfl) (by kernel_rfl) (by kernel_rfl) (fun _ _ _ h => h) (Or.inl ⟨by rfl, ?hyc17⟩) (by assumption) ?restc17
  case hyc17 => (intro w hSw; (try dsimp only at hSw); go_simp; first | done | rfl)
  try simp only [List.getElem_toArray, List.getElem_cons_succ, List.getElem_cons_zero, Act.put, List.setIfInBounds_toArray, List.set_cons_zero, List.set_cons_succ]
  refine wpAnyH_take (i := 18) (oi := _) (v := ?vc18) rfl (by kernel_rfl) (by kernel_rfl) (by kernel_rfl) (fun _ _ _ h => h) (Or.inl ⟨by rfl, ?hyc18⟩) (by assumption) ?restc18
  case hyc18 => (intro w hSw; (try dsimp only at hSw); go_simp; first | done | rfl)
  try simp only [List.getElem_toArray, List.getElem_cons_succ, List.getElem_cons_zero, Act.put, List.setIfInBounds_toArray, List.set_cons_zero, List.set_cons_succ]
  refine wpAnyH_take (i := 19) (oi := _) (v := ?vc19) rfl (by kernel_rfl) (by kernel_rfl) (by kernel_rfl) (fun _ _ _ h => h) (Or.inl ⟨by rfl, ?hyc19⟩) (by assumption) ?restc19
  case hyc19 => (intro w hSw; (try dsimp only at hSw); obtain ⟨s0, s1, s2, s3, s4⟩ := Q hSw.1; obtain ⟨r0, r1, r2, r3⟩ := R hSw.2; go_simp; first | done | rfl)
  try simp only [List.getElem_toArray, List.getElem_cons_succ, List.getElem_cons_zero, Act.put, List.setIfInBounds_toArray, List.set_cons_zero, List.set_cons_succ]
  refine wpAnyH_take (i := 20) (oi := _) (v := ?vc20) rfl (by kernel_rfl) (by kernel_rfl) (by kernel_rfl) (fun _ _ _ h => h) (Or.inl ⟨by rfl, ?hyc20⟩) (by assumption) ?restc20
  case hyc20 => (intro w hSw; (try dsimp only at hSw); obtain ⟨s0, s1, s2, s3, s4⟩ := Q hSw.1; obtain ⟨r0, r1, r2, r3⟩ := R hSw.2; go_simp; first | done | rfl)
  try simp only [List.getElem_toArray, List.getElem_cons_succ, List.getElem_cons_zero, Act.put, List.setIfInBounds_toArray, List.set_cons_zero, List.set_cons_succ]
  refine wpAnyH_ready (rs := [21]) (by kernel_rfl) (by simp) ?_
  refine AllReadyH.cons (o := _) rfl (fun K hK => ?_) AllReadyH.nil
  simp only [List.getElem_toArray, List.getElem_cons_succ, List.getElem_cons_zero]
  go_simp
  go_at_call 27
  refine (HRE.out _).mono ?_
  rintro e w' ⟨rfl, hbq⟩
  refine hK.out _ _ (hbT2 (by assumption) hbq) (fun hHeld => ?_)
  clear hK K
  try simp only [List.getElem_toArray, List.getElem_cons_succ, List.getElem_cons_zero, Act.put, List.setIfInBounds_toArray, List.set_cons_zero, List.set_cons_succ]
  refine wpAnyH_take (i := 22) (oi := _) (v := ?vc22) rfl (by kernel_rfl) (by kernel_rfl) (by kernel_rfl) (fun _ _ _ h => h) (Or.inl ⟨by rfl, ?hyc22⟩) (by assumption) ?restc22
  case hyc22 => (intro w hSw; (try dsimp only at hSw); go_simp; first | done | rfl)
  try simp only [List.getElem_toArray, List.getElem_cons_succ, List.getElem_cons_zero, Act.put, List.setIfInBounds_toArray, List.set_cons_zero, List.set_cons_succ]
  refine wpAnyH_take (i := 23) (oi := _) (v := ?vc23) rfl (by kernel_rfl) (by kernel_rfl) (by kernel_rfl) (fun _ _ _ h => h) (Or.inl ⟨by rfl, ?hyc23⟩) (by assumption) ?restc23
  case hyc23 => (intro w hSw; (try dsimp only at hSw); go_simp; first | done | rfl)
  try simp only [List.getElem_toArray, List.getElem_cons_succ, List.getElem_cons_zero, Act.put, List.setIfInBounds_toArray, List.set_cons_zero, List.set_cons_succ]
  refine wpAnyH_take (i := 24) (oi := _) (v := ?vc24) rfl (by kernel_rfl) (by kernel_rfl) (by kernel_rfl) (fun _ _ _ h => h) (Or.inl ⟨by rfl, ?hyc24⟩) (by assumption) ?restc24
  case hyc24 => (intro w hSw; (try dsimp only at hSw); go_simp; first | done | rfl)
  try simp only [List.getElem_toArray, List.getElem_cons_succ, List.getElem_cons_zero, Act.put, List.setIfInBounds_toArray, List.set_cons_zero, List.set_cons_succ]
  refine wpAnyH_take (i := 25) (oi := _) (v := ?vc25) rfl (by kernel_rfl) (by kernel_rfl) (by kernel_rfl) (fun _ _ _ h => h) (Or.inl ⟨by rfl, ?hyc25⟩) (by assumption) ?restc25
  case hyc25 => (intro w hSw; (try dsimp only at hSw); go_simp; first | done | rfl)
  try simp only [List.getElem_toArray, List.getElem_cons_succ, List.getElem_cons_zero, Act.put, List.setIfInBounds_toArray, List.set_cons_zero, List.set_cons_succ]
  refine wpAnyH_done (by kernel_rfl) ?_ _
  clear HD
  have HD := Lib.hid hHeld
  replace BW := HD.out.1
  go_wp2_with fail
  refine (lwNetBad K _ HK0.out).mono ?_
  rintro e w13 ⟨rfl, hb13⟩
  replace BW := hbT BW hb13
  clear hb13
  go_wp2_with fail
  refine (lwFirst N 0 _ _ 3 _ (by exact heap_alloc_new _ _)).mono ?_
  rintro e w14 ⟨rfl, rfl⟩
  rw [HF.out]
  replace BW := hbT BW (bel_new _ (.cells #[.int .i64 N, .int .i64 0] 3))
  have qs := Q BW
  obtain ⟨s0, s1, s2, s3, s4⟩ := qs
  go_wp2
  go_ret
  exact ⟨by simp, fin BW⟩
set_option maxHeartbeats 8000000 in
set_option maxRecDepth 100000 in
theorem lawBarsbKf (A : Option Addr) (c : Nat) (l : List Bar) (x y s p q N B K F p0 p1 p2 p3 : Int) (h : Bool) (w : World) (hL : LaidLen w) (hO : OKS w A c l) (hlm : l.length ≤ 4098)
    (hS : ∀ W : World, Calls Tryz.prog 16 #[.slice A l.length c, .int .i64 40] W fun e w' => e = .returned (.bool true) ∧ W = w')
    (hN : netE l = N) (hB : barE x y s = B) (hK : knotE p q = K) (hF : firstE [N, B] = F)
    (hEnds : ∀ W : World, Calls Tryz.prog 24 #[.agg #[.int .i64 x, .int .i64 y, .int .i64 s]] W fun e w' => e = .returned (.tuple #[.agg #[.int .i64 p0, .int .i64 p1, .int .i64 p2, .int .i64 p3], .int .i64 B]) ∧ Below W.heap.size W w')
    (hHas : ∀ (W : World) (a : Option Addr) (c' : Nat), OKS W a c' l → Calls Tryz.prog 26 #[.slice a l.length c', .agg #[.int .i64 x, .int .i64 y, .int .i64 s]] W fun e w' => e = .returned (.tuple #[.bool h, .int .i64 F]) ∧ Below W.heap.size W w')
    (b0 : B ≠ 0) (z0 : p0 = 0) (z1 : p1 = 0) (z2 : p2 = 0) (z3 : p3 = 0)
    (k0 : K = 0)
    (f0 : F ≠ 0) (h0 : h = false) :
    Calls Tryz.prog 3 #[.slice A l.length c, .agg #[.int .i64 x, .int .i64 y, .int .i64 s], .agg #[.int .i64 p, .int .i64 q]] w fun e w' => e = .returned (.bool true) ∧ Below w.heap.size w w' := by
  subst z0 z1 z2 z3
  have b1 : (B != 0) = true := by rw [bne_iff_ne]; exact b0
  have b2 : (B == 0) = false := by rw [beq_eq_false_iff_ne]; exact b0
  subst k0
  subst h0
  have f1 : (F == 0) = false := by rw [beq_eq_false_iff_ne]; exact f0
  obtain ⟨w1, hw1, Q, hb1, hz1⟩ := box32Q w x y s p q
  have HW1 := Lib.hid hw1
  have HLL := Lib.hid hL
  have HO := Lib.hid hO
  have HS := Lib.hid hS
  have HN := Lib.hid hN
  have HB := Lib.hid hB
  have HK := Lib.hid hK
  have HF := Lib.hid hF
  have HE := Lib.hid hEnds
  have HH := Lib.hid hHas
  have fin : ∀ {W : World}, Below w1.heap.size w1 W → Below w.heap.size w W := fun hb => hb1.trans (hb.mono hb1.size)
  have hq := eqTwo 0 0 0 0
  have hgd := guardTwo
  have ex0 : ∀ (a b : Value) (w : World), (Instr.extract (.tuple #[a, b]) 0).run Tryz.prog w = .ok a w := fun _ _ _ => by kernel_rfl
  have ex1 : ∀ (a b : Value) (w : World), (Instr.extract (.tuple #[a, b]) 1).run Tryz.prog w = .ok b w := fun _ _ _ => by kernel_rfl
  have BW := Below.refl w1.heap.size w1
  clear hw1 hL hO hS hN hB hK hF hEnds hHas b0 f0
  go_enter Tryz.func3, Tryz.ntmps3
  go_wp2_with fail
  rw [← HW1.out]
  go_wp2_with fail
  refine (awake1 _ (HLL.out.below (fin BW) HLL.out.lt)).mono ?_
  rintro e w2 ⟨rfl, hb2⟩
  replace BW := hbT BW hb2
  clear hb2
  go_wp2_with fail
  refine (HS.out _).mono ?_
  rintro e w3 ⟨rfl, rfl⟩
  go_wp2_with fail
  refine wp_region_held_drew (S := (fun w' => Below w1.heap.size w1 w')) (by kernel_rfl) ?_ (fun hHeld => ?_)
  · exact below_drew BW
  refine wpAnyH_take (i := 0) (oi := _) (v := ?va0) rfl (by kernel_rfl) (by kernel_rfl) (by kernel_rfl) (fun _ _ _ h => h) (Or.inl ⟨by rfl, ?hya0⟩) (by assumption) ?resta0
  case hya0 => (intro w hSw; (try dsimp only at hSw); go_simp; first | done | rfl)
  try simp only [List.getElem_toArray, List.getElem_cons_succ, List.getElem_cons_zero, Act.put, List.setIfInBounds_toArray, List.set_cons_zero, List.set_cons_succ]
  refine wpAnyH_take (i := 2) (oi := _) (v := ?va2) rfl (by kernel_rfl) (by kernel_rfl) (by kernel_rfl) (fun _ _ _ h => h) (Or.inl ⟨by rfl, ?hya2⟩) (by assumption) ?resta2
  case hya2 => (intro w hSw; (try dsimp only at hSw); obtain ⟨s0, s1, s2, s3, s4⟩ := Q hSw; go_simp; first | done | rfl)
  try simp only [List.getElem_toArray, List.getElem_cons_succ, List.getElem_cons_zero, Act.put, List.setIfInBounds_toArray, List.set_cons_zero, List.set_cons_succ]
  refine wpAnyH_take (i := 4) (oi := _) (v := ?va4) rfl (by kernel_rfl) (by kernel_rfl) (by kernel_rfl) (fun _ _ _ h => h) (Or.inl ⟨by rfl, ?hya4⟩) (by assumption) ?resta4
  case hya4 => (intro w hSw; (try dsimp only at hSw); obtain ⟨s0, s1, s2, s3, s4⟩ := Q hSw; go_simp; first | done | rfl)
  try simp only [List.getElem_toArray, List.getElem_cons_succ, List.getElem_cons_zero, Act.put, List.setIfInBounds_toArray, List.set_cons_zero, List.set_cons_succ]
  refine wpAnyH_ready (rs := [1]) (by kernel_rfl) (by simp) ?_
  refine AllReadyH.cons (o := _) rfl (fun K hK => ?_) AllReadyH.nil
  simp only [List.getElem_toArray, List.getElem_cons_succ, List.getElem_cons_zero]
  go_simp
  go_at_call 17
  refine (refCheckNetA A c l _ (HO.out.below (fin (by assumption)))).mono ?_
  rintro e w' ⟨rfl, hbq⟩
  rw [HN.out]
  refine hK.out _ _ (hbT (by assumption) hbq) (fun hHeld => ?_)
  clear hK K
  try simp only [List.getElem_toArray, List.getElem_cons_succ, List.getElem_cons_zero, Act.put, List.setIfInBounds_toArray, List.set_cons_zero, List.set_cons_succ]
  refine wpAnyH_ready (rs := [3]) (by kernel_rfl) (by simp) ?_
  refine AllReadyH.cons (o := _) rfl (fun K hK => ?_) AllReadyH.nil
  simp only [List.getElem_toArray, List.getElem_cons_succ, List.getElem_cons_zero]
  go_simp
  go_at_call 18
  refine (refCheckBar _ _ _ _).mono ?_
  rintro e w' ⟨rfl, hbq⟩
  rw [HB.out]
  refine hK.out _ _ (hbT (by assumption) hbq) (fun hHeld => ?_)
  clear hK K
  try simp only [List.getElem_toArray, List.getElem_cons_succ, List.getElem_cons_zero, Act.put, List.setIfInBounds_toArray, List.set_cons_zero, List.set_cons_succ]
  refine wpAnyH_ready (rs := [5]) (by kernel_rfl) (by simp) ?_
  refine AllReadyH.cons (o := _) rfl (fun K hK => ?_) AllReadyH.nil
  simp only [List.getElem_toArray, List.getElem_cons_succ, List.getElem_cons_zero]
  go_simp
  go_at_call 19
  refine (refCheckKnot _ _ _).mono ?_
  rintro e w' ⟨rfl, hbq⟩
  rw [HK.out]
  refine hK.out _ _ (hbT (by assumption) hbq) (fun hHeld => ?_)
  clear hK K
  try simp only [List.getElem_toArray, List.getElem_cons_succ, List.getElem_cons_zero, Act.put, List.setIfInBounds_toArray, List.set_cons_zero, List.set_cons_succ]
  refine wpAnyH_take (i := 6) (oi := _) (v := ?va6) rfl (by kernel_rfl) (by kernel_rfl) (by kernel_rfl) (fun _ _ _ h => h) (Or.inl ⟨by rfl, ?hya6⟩) (by assumption) ?resta6
  case hya6 => (intro w hSw; (try dsimp only at hSw); go_simp; first | done | rfl)
  try simp only [List.getElem_toArray, List.getElem_cons_succ, List.getElem_cons_zero, Act.put, List.setIfInBounds_toArray, List.set_cons_zero, List.set_cons_succ]
  refine wpAnyH_take (i := 7) (oi := _) (v := ?va7) rfl (by kernel_rfl) (by kernel_rfl) (by kernel_rfl) (fun _ _ _ h => h) (Or.inl ⟨by rfl, ?hya7⟩) (by assumption) ?resta7
  case hya7 => (intro w hSw; (try dsimp only at hSw); go_simp; first | done | rfl)
  try simp only [List.getElem_toArray, List.getElem_cons_succ, List.getElem_cons_zero, Act.put, List.setIfInBounds_toArray, List.set_cons_zero, List.set_cons_succ]
  refine wpAnyH_take (i := 8) (oi := _) (v := ?va8) rfl (by kernel_rfl) (by kernel_rfl) (by kernel_rfl) (fun _ _ _ h => h) (Or.inl ⟨by rfl, ?hya8⟩) (by assumption) ?resta8
  case hya8 => (intro w hSw; (try dsimp only at hSw); go_simp; first | done | rfl)
  try simp only [List.getElem_toArray, List.getElem_cons_succ, List.getElem_cons_zero, Act.put, List.setIfInBounds_toArray, List.set_cons_zero, List.set_cons_succ]
  refine wpAnyH_done (by kernel_rfl) ?_ _
  replace BW := hHeld
  go_wp2_with fail
  refine (lwCopied A c l _ hlm (HO.out.below (fin BW))).mono ?_
  rintro e w4 ⟨a4, c4, rfl, o4, hb4⟩
  replace BW := hbT BW hb4
  have O4 := Lib.hid o4
  clear o4 hb4
  go_wp2_with fail
  refine (netCheckNetA a4 c4 l _ O4.out).mono ?_
  rintro e w5 ⟨rfl, hb5⟩
  rw [HN.out]
  replace BW := hbT BW hb5
  clear hb5
  have qs := Q BW
  obtain ⟨s0, s1, s2, s3, s4⟩ := qs
  go_wp2_with fail
  refine (netCheckBar x y s _).mono ?_
  rintro e w6 ⟨rfl, hb6⟩
  rw [HB.out]
  replace BW := hbT BW hb6
  clear hb6 s0 s1 s2 s3 s4
  have qs := Q BW
  obtain ⟨s0, s1, s2, s3, s4⟩ := qs
  go_wp2_with fail
  refine (netCheckKnot p q _).mono ?_
  rintro e w7 ⟨rfl, hb7⟩
  rw [HK.out]
  replace BW := hbT BW hb7
  clear hb7 s0 s1 s2 s3 s4
  have qs := Q BW
  obtain ⟨s0, s1, s2, s3, s4⟩ := qs
  go_wp2_with fail
  refine (HE.out _).mono ?_
  rintro e w8 ⟨rfl, hb8⟩
  replace BW := hbT BW hb8
  clear hb8 s0 s1 s2 s3 s4
  obtain ⟨wa, w9, hwa, hw9, r0, r1, r2, r3, rf, hH9, hb9⟩ := st4 w8 (.int .i64 0) (.int .i64 0) (.int .i64 0) (.int .i64 0) 37
  have hg9 : w8.heap.size < w9.heap.size := (Array.getElem?_eq_some_iff.1 hH9).1
  replace BW := hbT BW hb9
  clear hb9
  have R : ∀ {W : World}, Below w9.heap.size w9 W → W.cell? ⟨w8.heap.size, 0, none⟩ = some (.int .i64 0) ∧ W.cell? ⟨w8.heap.size, 1, none⟩ = some (.int .i64 0) ∧ W.cell? ⟨w8.heap.size, 2, none⟩ = some (.int .i64 0) ∧ W.cell? ⟨w8.heap.size, 3, none⟩ = some (.int .i64 0) := fun hb => four_at hb hH9
  have qs := Q BW
  obtain ⟨s0, s1, s2, s3, s4⟩ := qs
  clear hH9
  go_wp2_with fail
  refine (netAround p q _ ((knotE_ok p q).1 HK.out)).mono ?_
  rintro e w10 ⟨va, rfl, rowa, hb10⟩
  obtain ⟨aa, ca, rfl, oa⟩ := own_oks rowa
  have OA := Lib.hid oa
  clear rowa oa
  have BX := Lib.hid hb10
  replace BW := hbT BW hb10
  clear hb10 s0 s1 s2 s3 s4 r0 r1 r2 r3 rf hwa hw9
  go_wp2_with fail
  refine wp_region_held_drew (S := (fun w' => Below w1.heap.size w1 w' ∧ Below w9.heap.size w9 w' ∧ OKS w' aa ca (aroundL p q))) (by kernel_rfl) ?_ (fun hHeld => ?_)
  · exact ⟨below_drew BW, below_drew BX.out, OA.out.below (below_drew (Below.refl _ _))⟩
  refine wpAnyH_take (i := 0) (oi := _) (v := ?vb0) rfl (by kernel_rfl) (by kernel_rfl) (by kernel_rfl) (fun _ _ _ h => h) (Or.inl ⟨by rfl, ?hyb0⟩) (by assumption) ?restb0
  case hyb0 => (intro w hSw; (try dsimp only at hSw); go_simp; first | done | rfl)
  try simp only [List.getElem_toArray, List.getElem_cons_succ, List.getElem_cons_zero, Act.put, List.setIfInBounds_toArray, List.set_cons_zero, List.set_cons_succ]
  refine wpAnyH_take (i := 2) (oi := _) (v := ?vb2) rfl (by kernel_rfl) (by kernel_rfl) (by kernel_rfl) (fun _ _ _ h => h) (Or.inl ⟨by rfl, ?hyb2⟩) (by assumption) ?restb2
  case hyb2 => (intro w hSw; (try dsimp only at hSw); obtain ⟨s0, s1, s2, s3, s4⟩ := Q hSw.1; obtain ⟨r0, r1, r2, r3⟩ := R hSw.2.1; go_simp; first | done | rfl)
  try simp only [List.getElem_toArray, List.getElem_cons_succ, List.getElem_cons_zero, Act.put, List.setIfInBounds_toArray, List.set_cons_zero, List.set_cons_succ]
  refine wpAnyH_ready (rs := [1]) (by kernel_rfl) (by simp) ?_
  refine AllReadyH.cons (o := _) rfl (fun K hK => ?_) AllReadyH.nil
  simp only [List.getElem_toArray, List.getElem_cons_succ, List.getElem_cons_zero]
  go_simp
  go_at_call 21
  refine (lwCopied A c l _ hlm (HO.out.below (fin (sOf (by assumption))))).mono ?_
  rintro e w' ⟨a8, c8, rfl, o8, hbq⟩
  refine hK.out _ _ (hbT3 (by assumption) hbq) (fun hHeld => ?_)
  clear hK K
  try simp only [List.getElem_toArray, List.getElem_cons_succ, List.getElem_cons_zero, Act.put, List.setIfInBounds_toArray, List.set_cons_zero, List.set_cons_succ]
  refine wpAnyH_ready (rs := [3]) (by kernel_rfl) (by simp) ?_
  refine AllReadyH.cons (o := _) rfl (fun K hK => ?_) AllReadyH.nil
  simp only [List.getElem_toArray, List.getElem_cons_succ, List.getElem_cons_zero]
  go_simp
  go_at_call 26
  refine (HH.out _ _ _ o8).mono ?_
  rintro e w' ⟨rfl, hbq⟩
  refine hK.out _ _ (hbT3 (by assumption) hbq) (fun hHeld => ?_)
  clear hK K
  try simp only [List.getElem_toArray, List.getElem_cons_succ, List.getElem_cons_zero, Act.put, List.setIfInBounds_toArray, List.set_cons_zero, List.set_cons_succ]
  refine wpAnyH_take (i := 4) (oi := _) (v := ?vb4) rfl (by kernel_rfl) (by kernel_rfl) (by kernel_rfl) (fun _ _ _ h => h) (Or.inl ⟨by rfl, ?hyb4⟩) (by assumption) ?restb4
  case hyb4 => (intro w hSw; (try dsimp only at hSw); go_simp; first | done | rfl)
  try simp only [List.getElem_toArray, List.getElem_cons_succ, List.getElem_cons_zero, Act.put, List.setIfInBounds_toArray, List.set_cons_zero, List.set_cons_succ]
  refine wpAnyH_take (i := 5) (oi := _) (v := ?vb5) rfl (by kernel_rfl) (by kernel_rfl) (by kernel_rfl) (fun _ _ _ h => h) (Or.inl ⟨by rfl, ?hyb5⟩) (by assumption) ?restb5
  case hyb5 => (intro w hSw; (try dsimp only at hSw); go_simp; first | done | rfl)
  try simp only [List.getElem_toArray, List.getElem_cons_succ, List.getElem_cons_zero, Act.put, List.setIfInBounds_toArray, List.set_cons_zero, List.set_cons_succ]
  refine wpAnyH_take (i := 6) (oi := _) (v := ?vb6) rfl (by kernel_rfl) (by kernel_rfl) (by kernel_rfl) (fun _ _ _ h => h) (Or.inl ⟨by rfl, ?hyb6⟩) (by assumption) ?restb6
  case hyb6 => (intro w hSw; (try dsimp only at hSw); go_simp; first | done | rfl)
  try simp only [List.getElem_toArray, List.getElem_cons_succ, List.getElem_cons_zero, Act.put, List.setIfInBounds_toArray, List.set_cons_zero, List.set_cons_succ]
  refine wpAnyH_take (i := 7) (oi := _) (v := ?vb7) rfl (by kernel_rfl) (by kernel_rfl) (by kernel_rfl) (fun _ _ _ h => h) (Or.inl ⟨by rfl, ?hyb7⟩) (by assumption) ?restb7
  case hyb7 => (intro w hSw; (try dsimp only at hSw); go_simp; first | done | rfl)
  try simp only [List.getElem_toArray, List.getElem_cons_succ, List.getElem_cons_zero, Act.put, List.setIfInBounds_toArray, List.set_cons_zero, List.set_cons_succ]
  refine wpAnyH_take (i := 8) (oi := _) (v := ?vb8) rfl (by kernel_rfl) (by kernel_rfl) (by kernel_rfl) (fun _ _ _ h => h) (Or.inl ⟨by rfl, ?hyb8⟩) (by assumption) ?restb8
  case hyb8 => (intro w hSw; (try dsimp only at hSw); go_simp; first | done | rfl)
  try simp only [List.getElem_toArray, List.getElem_cons_succ, List.getElem_cons_zero, Act.put, List.setIfInBounds_toArray, List.set_cons_zero, List.set_cons_succ]
  refine wpAnyH_done (by kernel_rfl) ?_ _
  have HD := Lib.hid hHeld
  clear o8
  go_wp2_with fail
  refine wp_region_held_drew (S := (fun w' => Below w1.heap.size w1 w' ∧ Below w9.heap.size w9 w' ∧ OKS w' aa ca (aroundL p q))) (by kernel_rfl) ?_ (fun hHeld => ?_)
  · exact ⟨below_drew HD.out.1, below_drew HD.out.2.1, HD.out.2.2.below (below_drew (Below.refl _ _))⟩
  refine wpAnyH_take (i := 0) (oi := _) (v := ?vc0) rfl (by kernel_rfl) (by kernel_rfl) (by kernel_rfl) (fun _ _ _ h => h) (Or.inl ⟨by rfl, ?hyc0⟩) (by assumption) ?restc0
  case hyc0 => (intro w hSw; (try dsimp only at hSw); go_simp; first | done | rfl)
  try simp only [List.getElem_toArray, List.getElem_cons_succ, List.getElem_cons_zero, Act.put, List.setIfInBounds_toArray, List.set_cons_zero, List.set_cons_succ]
  refine wpAnyH_take (i := 1) (oi := _) (v := ?vc1) rfl (by kernel_rfl) (by kernel_rfl) (by kernel_rfl) (fun _ _ _ h => h) (Or.inl ⟨by rfl, ?hyc1⟩) (by assumption) ?restc1
  case hyc1 => (intro w hSw; (try dsimp only at hSw); go_simp; first | done | rfl)
  try simp only [List.getElem_toArray, List.getElem_cons_succ, List.getElem_cons_zero, Act.put, List.setIfInBounds_toArray, List.set_cons_zero, List.set_cons_succ]
  refine wpAnyH_take (i := 2) (oi := _) (v := ?vc2) rfl (by kernel_rfl) (by kernel_rfl) (by kernel_rfl) (fun _ _ _ h => h) (Or.inl ⟨by rfl, ?hyc2⟩) (by assumption) ?restc2
  case hyc2 => (intro w hSw; (try dsimp only at hSw); go_simp; first | done | rfl)
  try simp only [List.getElem_toArray, List.getElem_cons_succ, List.getElem_cons_zero, Act.put, List.setIfInBounds_toArray, List.set_cons_zero, List.set_cons_succ]
  refine wpAnyH_take (i := 3) (oi := _) (v := ?vc3) rfl (by kernel_rfl) (by kernel_rfl) (by kernel_rfl) (fun _ _ _ h => h) (Or.inl ⟨by rfl, ?hyc3⟩) (by assumption) ?restc3
  case hyc3 => (intro w hSw; (try dsimp only at hSw); obtain ⟨s0, s1, s2, s3, s4⟩ := Q hSw.1; obtain ⟨r0, r1, r2, r3⟩ := R hSw.2.1; go_simp; first | done | rfl)
  try simp only [List.getElem_toArray, List.getElem_cons_succ, List.getElem_cons_zero, Act.put, List.setIfInBounds_toArray, List.set_cons_zero, List.set_cons_succ]
  refine wpAnyH_take (i := 4) (oi := _) (v := ?vc4) rfl (by kernel_rfl) (by kernel_rfl) (by kernel_rfl) (fun _ _ _ h => h) (Or.inl ⟨by rfl, ?hyc4⟩) (by assumption) ?restc4
  case hyc4 => (intro w hSw; (try dsimp only at hSw); go_simp; first | done | rfl)
  try simp only [List.getElem_toArray, List.getElem_cons_succ, List.getElem_cons_zero, Act.put, List.setIfInBounds_toArray, List.set_cons_zero, List.set_cons_succ]
  refine wpAnyH_take (i := 5) (oi := _) (v := ?vc5) rfl (by kernel_rfl) (by kernel_rfl) (by kernel_rfl) (fun _ _ _ h => h) (Or.inl ⟨by rfl, ?hyc5⟩) (by assumption) ?restc5
  case hyc5 => (intro w hSw; (try dsimp only at hSw); go_simp; first | done | rfl)
  try simp only [List.getElem_toArray, List.getElem_cons_succ, List.getElem_cons_zero, Act.put, List.setIfInBounds_toArray, List.set_cons_zero, List.set_cons_succ]
  refine wpAnyH_take (i := 6) (oi := _) (v := ?vc6) rfl (by kernel_rfl) (by kernel_rfl) (by kernel_rfl) (fun _ _ _ h => h) (Or.inl ⟨by rfl, ?hyc6⟩) (by assumption) ?restc6
  case hyc6 => (intro w hSw; (try dsimp only at hSw); go_simp; first | done | rfl)
  try simp only [List.getElem_toArray, List.getElem_cons_succ, List.getElem_cons_zero, Act.put, List.setIfInBounds_toArray, List.set_cons_zero, List.set_cons_succ]
  refine wpAnyH_take (i := 7) (oi := _) (v := ?vc7) rfl (by kernel_rfl) (by kernel_rfl) (by kernel_rfl) (fun _ _ _ h => h) (Or.inl ⟨by rfl, ?hyc7⟩) (by assumption) ?restc7
  case hyc7 => (intro w hSw; (try dsimp only at hSw); go_simp; first | done | rfl)
  try simp only [List.getElem_toArray, List.getElem_cons_succ, List.getElem_cons_zero, Act.put, List.setIfInBounds_toArray, List.set_cons_zero, List.set_cons_succ]
  refine wpAnyH_take (i := 8) (oi := _) (v := ?vc8) rfl (by kernel_rfl) (by kernel_rfl) (by kernel_rfl) (fun _ _ _ h => h) (Or.inl ⟨by rfl, ?hyc8⟩) (by assumption) ?restc8
  case hyc8 => (intro w hSw; (try dsimp only at hSw); go_simp; first | done | rfl)
  try simp only [List.getElem_toArray, List.getElem_cons_succ, List.getElem_cons_zero, Act.put, List.setIfInBounds_toArray, List.set_cons_zero, List.set_cons_succ]
  refine wpAnyH_take (i := 9) (oi := _) (v := ?vc9) rfl (by kernel_rfl) (by kernel_rfl) (by kernel_rfl) (fun _ _ _ h => h) (Or.inl ⟨by rfl, ?hyc9⟩) (by assumption) ?restc9
  case hyc9 => (intro w hSw; (try dsimp only at hSw); go_simp; first | done | rfl)
  try simp only [List.getElem_toArray, List.getElem_cons_succ, List.getElem_cons_zero, Act.put, List.setIfInBounds_toArray, List.set_cons_zero, List.set_cons_succ]
  refine wpAnyH_take (i := 10) (oi := _) (v := ?vc10) rfl (by kernel_rfl) (by kernel_rfl) (by kernel_rfl) (fun _ _ _ h => h) (Or.inl ⟨by rfl, ?hyc10⟩) (by assumption) ?restc10
  case hyc10 => (intro w hSw; (try dsimp only at hSw); go_simp; first | done | rfl)
  try simp only [List.getElem_toArray, List.getElem_cons_succ, List.getElem_cons_zero, Act.put, List.setIfInBounds_toArray, List.set_cons_zero, List.set_cons_succ]
  refine wpAnyH_take (i := 11) (oi := _) (v := ?vc11) rfl (by kernel_rfl) (by kernel_rfl) (by kernel_rfl) (fun _ _ _ h => h) (Or.inl ⟨by rfl, ?hyc11⟩) (by assumption) ?restc11
  case hyc11 => (intro w hSw; (try dsimp only at hSw); go_simp; first | done | rfl)
  try simp only [List.getElem_toArray, List.getElem_cons_succ, List.getElem_cons_zero, Act.put, List.setIfInBounds_toArray, List.set_cons_zero, List.set_cons_succ]
  refine wpAnyH_take (i := 12) (oi := _) (v := ?vc12) rfl (by kernel_rfl) (by kernel_rfl) (by kernel_rfl) (fun _ _ _ h => h) (Or.inl ⟨by rfl, ?hyc12⟩) (by assumption) ?restc12
  case hyc12 => (intro w hSw; (try dsimp only at hSw); go_simp; first | done | rfl)
  try simp only [List.getElem_toArray, List.getElem_cons_succ, List.getElem_cons_zero, Act.put, List.setIfInBounds_toArray, List.set_cons_zero, List.set_cons_succ]
  refine wpAnyH_take (i := 13) (oi := _) (v := ?vc13) rfl (by kernel_rfl) (by kernel_rfl) (by kernel_rfl) (fun _ _ _ h => h) (Or.inl ⟨by rfl, ?hyc13⟩) (by assumption) ?restc13
  case hyc13 => (intro w hSw; (try dsimp only at hSw); go_simp; first | done | rfl)
  try simp only [List.getElem_toArray, List.getElem_cons_succ, List.getElem_cons_zero, Act.put, List.setIfInBounds_toArray, List.set_cons_zero, List.set_cons_succ]
  refine wpAnyH_take (i := 14) (oi := _) (v := ?vc14) rfl (by kernel_rfl) (by kernel_rfl) (by kernel_rfl) (fun _ _ _ h => h) (Or.inl ⟨by rfl, ?hyc14⟩) (by assumption) ?restc14
  case hyc14 => (intro w hSw; (try dsimp only at hSw); go_simp; first | done | rfl)
  try simp only [List.getElem_toArray, List.getElem_cons_succ, List.getElem_cons_zero, Act.put, List.setIfInBounds_toArray, List.set_cons_zero, List.set_cons_succ]
  refine wpAnyH_take (i := 15) (oi := _) (v := ?vc15) rfl (by kernel_rfl) (by kernel_rfl) (by kernel_rfl) (fun _ _ _ h => h) (Or.inl ⟨by rfl, ?hyc15⟩) (by assumption) ?restc15
  case hyc15 => (intro w hSw; (try dsimp only at hSw); go_simp; first | done | rfl)
  try simp only [List.getElem_toArray, List.getElem_cons_succ, List.getElem_cons_zero, Act.put, List.setIfInBounds_toArray, List.set_cons_zero, List.set_cons_succ]
  refine wpAnyH_take (i := 16) (oi := _) (v := undef) rfl (by kernel_rfl) (by kernel_rfl) (by kernel_rfl) (fun _ _ _ h => h) (Or.inr ⟨by rfl, rfl⟩) (by assumption) ?restc16
  try simp only [List.getElem_toArray, List.getElem_cons_succ, List.getElem_cons_zero, Act.put, List.setIfInBounds_toArray, List.set_cons_zero, List.set_cons_succ]
  refine wpAnyH_take (i := 17) (oi := _) (v := undef) rfl (by kernel_rfl) (by kernel_rfl) (by kernel_rfl) (fun _ _ _ h => h) (Or.inr ⟨by rfl, rfl⟩) (by assumption) ?restc17
  try simp only [List.getElem_toArray, List.getElem_cons_succ, List.getElem_cons_zero, Act.put, List.setIfInBounds_toArray, List.set_cons_zero, List.set_cons_succ]
  refine wpAnyH_take (i := 18) (oi := _) (v := undef) rfl (by kernel_rfl) (by kernel_rfl) (by kernel_rfl) (fun _ _ _ h => h) (Or.inr ⟨by rfl, rfl⟩) (by assumption) ?restc18
  try simp only [List.getElem_toArray, List.getElem_cons_succ, List.getElem_cons_zero, Act.put, List.setIfInBounds_toArray, List.set_cons_zero, List.set_cons_succ]
  refine wpAnyH_take (i := 19) (oi := _) (v := undef) rfl (by kernel_rfl) (by kernel_rfl) (by kernel_rfl) (fun _ _ _ h => h) (Or.inr ⟨by rfl, rfl⟩) (by assumption) ?restc19
  try simp only [List.getElem_toArray, List.getElem_cons_succ, List.getElem_cons_zero, Act.put, List.setIfInBounds_toArray, List.set_cons_zero, List.set_cons_succ]
  refine wpAnyH_take (i := 20) (oi := _) (v := undef) rfl (by kernel_rfl) (by kernel_rfl) (by kernel_rfl) (fun _ _ _ h => h) (Or.inr ⟨by rfl, rfl⟩) (by assumption) ?restc20
  try simp only [List.getElem_toArray, List.getElem_cons_succ, List.getElem_cons_zero, Act.put, List.setIfInBounds_toArray, List.set_cons_zero, List.set_cons_succ]
  refine wpAnyH_take (i := 21) (oi := _) (v := undef) rfl (by kernel_rfl) (by kernel_rfl) (by kernel_rfl) (fun _ _ _ h => h) (Or.inr ⟨by rfl, rfl⟩) (by assumption) ?restc21
  try simp only [List.getElem_toArray, List.getElem_cons_succ, List.getElem_cons_zero, Act.put, List.setIfInBounds_toArray, List.set_cons_zero, List.set_cons_succ]
  refine wpAnyH_take (i := 22) (oi := _) (v := undef) rfl (by kernel_rfl) (by kernel_rfl) (by kernel_rfl) (fun _ _ _ h => h) (Or.inr ⟨by rfl, rfl⟩) (by assumption) ?restc22
  try simp only [List.getElem_toArray, List.getElem_cons_succ, List.getElem_cons_zero, Act.put, List.setIfInBounds_toArray, List.set_cons_zero, List.set_cons_succ]
  refine wpAnyH_take (i := 23) (oi := _) (v := undef) rfl (by kernel_rfl) (by kernel_rfl) (by kernel_rfl) (fun _ _ _ h => h) (Or.inr ⟨by rfl, rfl⟩) (by assumption) ?restc23
  try simp only [List.getElem_toArray, List.getElem_cons_succ, List.getElem_cons_zero, Act.put, List.setIfInBounds_toArray, List.set_cons_zero, List.set_cons_succ]
  refine wpAnyH_take (i := 24) (oi := _) (v := ?vc24) rfl (by kernel_rfl) (by kernel_rfl) (by kernel_rfl) (fun _ _ _ h => h) (Or.inl ⟨by rfl, ?hyc24⟩) (by assumption) ?restc24
  case hyc24 => (intro w hSw; (try dsimp only at hSw); go_simp; first | done | rfl)
  try simp only [List.getElem_toArray, List.getElem_cons_succ, List.getElem_cons_zero, Act.put, List.setIfInBounds_toArray, List.set_cons_zero, List.set_cons_succ]
  refine wpAnyH_take (i := 25) (oi := _) (v := ?vc25) rfl (by kernel_rfl) (by kernel_rfl) (by kernel_rfl) (fun _ _ _ h => h) (Or.inl ⟨by rfl, ?hyc25⟩) (by assumption) ?restc25
  case hyc25 => (intro w hSw; (try dsimp only at hSw); go_simp; first | done | rfl)
  try simp only [List.getElem_toArray, List.getElem_cons_succ, List.getElem_cons_zero, Act.put, List.setIfInBounds_toArray, List.set_cons_zero, List.set_cons_succ]
  refine wpAnyH_done (by kernel_rfl) ?_ _
  clear HD
  have HD := Lib.hid hHeld
  replace BW := HD.out.1
  have OB := Lib.hid HD.out.2.2
  have qs := Q BW
  obtain ⟨s0, s1, s2, s3, s4⟩ := qs
  go_wp2_with fail
  refine (refAround p q _ HK.out).mono ?_
  rintro e w12 ⟨vb, rfl, rowb, hb12⟩
  obtain ⟨ab, cb, rfl, ob⟩ := own_oks rowb
  have OD := Lib.hid ob
  replace BW := hbT BW hb12
  replace OB := Lib.hid (OB.out.below hb12)
  clear rowb ob hb12 s0 s1 s2 s3 s4
  go_wp2_with fail
  refine (lwNetOk aa ab ca cb (aroundL p q) _ (aroundL_le p q) OB.out OD.out).mono ?_
  rintro e w13 ⟨rfl, hb13⟩
  replace BW := hbT BW hb13
  clear hb13
  go_wp2_with fail
  refine (lwFirst N B _ _ 3 _ (by exact heap_alloc_new _ _)).mono ?_
  rintro e w14 ⟨rfl, rfl⟩
  rw [HF.out]
  replace BW := hbT BW (bel_new _ (.cells #[.int .i64 N, .int .i64 B] 3))
  have qs := Q BW
  obtain ⟨s0, s1, s2, s3, s4⟩ := qs
  go_wp2
  go_ret
  exact ⟨by simp, fin BW⟩
set_option maxHeartbeats 8000000 in
set_option maxRecDepth 100000 in
theorem lawBarsbkf (A : Option Addr) (c : Nat) (l : List Bar) (x y s p q N B K F p0 p1 p2 p3 : Int) (h : Bool) (w : World) (hL : LaidLen w) (hO : OKS w A c l) (hlm : l.length ≤ 4098)
    (hS : ∀ W : World, Calls Tryz.prog 16 #[.slice A l.length c, .int .i64 40] W fun e w' => e = .returned (.bool true) ∧ W = w')
    (hN : netE l = N) (hB : barE x y s = B) (hK : knotE p q = K) (hF : firstE [N, B] = F)
    (hEnds : ∀ W : World, Calls Tryz.prog 24 #[.agg #[.int .i64 x, .int .i64 y, .int .i64 s]] W fun e w' => e = .returned (.tuple #[.agg #[.int .i64 p0, .int .i64 p1, .int .i64 p2, .int .i64 p3], .int .i64 B]) ∧ Below W.heap.size W w')
    (hHas : ∀ (W : World) (a : Option Addr) (c' : Nat), OKS W a c' l → Calls Tryz.prog 26 #[.slice a l.length c', .agg #[.int .i64 x, .int .i64 y, .int .i64 s]] W fun e w' => e = .returned (.tuple #[.bool h, .int .i64 F]) ∧ Below W.heap.size W w')
    (b0 : B ≠ 0) (z0 : p0 = 0) (z1 : p1 = 0) (z2 : p2 = 0) (z3 : p3 = 0)
    (k0 : K ≠ 0)
    (f0 : F ≠ 0) (h0 : h = false) :
    Calls Tryz.prog 3 #[.slice A l.length c, .agg #[.int .i64 x, .int .i64 y, .int .i64 s], .agg #[.int .i64 p, .int .i64 q]] w fun e w' => e = .returned (.bool true) ∧ Below w.heap.size w w' := by
  subst z0 z1 z2 z3
  have b1 : (B != 0) = true := by rw [bne_iff_ne]; exact b0
  have b2 : (B == 0) = false := by rw [beq_eq_false_iff_ne]; exact b0
  have HK0 := Lib.hid k0
  have k1 : (K != 0) = true := by rw [bne_iff_ne]; exact k0
  have k2 : (K == 0) = false := by rw [beq_eq_false_iff_ne]; exact k0
  subst h0
  have f1 : (F == 0) = false := by rw [beq_eq_false_iff_ne]; exact f0
  obtain ⟨w1, hw1, Q, hb1, hz1⟩ := box32Q w x y s p q
  have HW1 := Lib.hid hw1
  have HLL := Lib.hid hL
  have HO := Lib.hid hO
  have HS := Lib.hid hS
  have HN := Lib.hid hN
  have HB := Lib.hid hB
  have HK := Lib.hid hK
  have HF := Lib.hid hF
  have HE := Lib.hid hEnds
  have HH := Lib.hid hHas
  have fin : ∀ {W : World}, Below w1.heap.size w1 W → Below w.heap.size w W := fun hb => hb1.trans (hb.mono hb1.size)
  have hq := eqTwo 0 0 0 0
  have hgd := guardTwo
  have ex0 : ∀ (a b : Value) (w : World), (Instr.extract (.tuple #[a, b]) 0).run Tryz.prog w = .ok a w := fun _ _ _ => by kernel_rfl
  have ex1 : ∀ (a b : Value) (w : World), (Instr.extract (.tuple #[a, b]) 1).run Tryz.prog w = .ok b w := fun _ _ _ => by kernel_rfl
  have BW := Below.refl w1.heap.size w1
  clear hw1 hL hO hS hN hB hK hF hEnds hHas b0 k0 f0
  go_enter Tryz.func3, Tryz.ntmps3
  go_wp2_with fail
  rw [← HW1.out]
  go_wp2_with fail
  refine (awake1 _ (HLL.out.below (fin BW) HLL.out.lt)).mono ?_
  rintro e w2 ⟨rfl, hb2⟩
  replace BW := hbT BW hb2
  clear hb2
  go_wp2_with fail
  refine (HS.out _).mono ?_
  rintro e w3 ⟨rfl, rfl⟩
  go_wp2_with fail
  refine wp_region_held_drew (S := (fun w' => Below w1.heap.size w1 w')) (by kernel_rfl) ?_ (fun hHeld => ?_)
  · exact below_drew BW
  refine wpAnyH_take (i := 0) (oi := _) (v := ?va0) rfl (by kernel_rfl) (by kernel_rfl) (by kernel_rfl) (fun _ _ _ h => h) (Or.inl ⟨by rfl, ?hya0⟩) (by assumption) ?resta0
  case hya0 => (intro w hSw; (try dsimp only at hSw); go_simp; first | done | rfl)
  try simp only [List.getElem_toArray, List.getElem_cons_succ, List.getElem_cons_zero, Act.put, List.setIfInBounds_toArray, List.set_cons_zero, List.set_cons_succ]
  refine wpAnyH_take (i := 2) (oi := _) (v := ?va2) rfl (by kernel_rfl) (by kernel_rfl) (by kernel_rfl) (fun _ _ _ h => h) (Or.inl ⟨by rfl, ?hya2⟩) (by assumption) ?resta2
  case hya2 => (intro w hSw; (try dsimp only at hSw); obtain ⟨s0, s1, s2, s3, s4⟩ := Q hSw; go_simp; first | done | rfl)
  try simp only [List.getElem_toArray, List.getElem_cons_succ, List.getElem_cons_zero, Act.put, List.setIfInBounds_toArray, List.set_cons_zero, List.set_cons_succ]
  refine wpAnyH_take (i := 4) (oi := _) (v := ?va4) rfl (by kernel_rfl) (by kernel_rfl) (by kernel_rfl) (fun _ _ _ h => h) (Or.inl ⟨by rfl, ?hya4⟩) (by assumption) ?resta4
  case hya4 => (intro w hSw; (try dsimp only at hSw); obtain ⟨s0, s1, s2, s3, s4⟩ := Q hSw; go_simp; first | done | rfl)
  try simp only [List.getElem_toArray, List.getElem_cons_succ, List.getElem_cons_zero, Act.put, List.setIfInBounds_toArray, List.set_cons_zero, List.set_cons_succ]
  refine wpAnyH_ready (rs := [1]) (by kernel_rfl) (by simp) ?_
  refine AllReadyH.cons (o := _) rfl (fun K hK => ?_) AllReadyH.nil
  simp only [List.getElem_toArray, List.getElem_cons_succ, List.getElem_cons_zero]
  go_simp
  go_at_call 17
  refine (refCheckNetA A c l _ (HO.out.below (fin (by assumption)))).mono ?_
  rintro e w' ⟨rfl, hbq⟩
  rw [HN.out]
  refine hK.out _ _ (hbT (by assumption) hbq) (fun hHeld => ?_)
  clear hK K
  try simp only [List.getElem_toArray, List.getElem_cons_succ, List.getElem_cons_zero, Act.put, List.setIfInBounds_toArray, List.set_cons_zero, List.set_cons_succ]
  refine wpAnyH_ready (rs := [3]) (by kernel_rfl) (by simp) ?_
  refine AllReadyH.cons (o := _) rfl (fun K hK => ?_) AllReadyH.nil
  simp only [List.getElem_toArray, List.getElem_cons_succ, List.getElem_cons_zero]
  go_simp
  go_at_call 18
  refine (refCheckBar _ _ _ _).mono ?_
  rintro e w' ⟨rfl, hbq⟩
  rw [HB.out]
  refine hK.out _ _ (hbT (by assumption) hbq) (fun hHeld => ?_)
  clear hK K
  try simp only [List.getElem_toArray, List.getElem_cons_succ, List.getElem_cons_zero, Act.put, List.setIfInBounds_toArray, List.set_cons_zero, List.set_cons_succ]
  refine wpAnyH_ready (rs := [5]) (by kernel_rfl) (by simp) ?_
  refine AllReadyH.cons (o := _) rfl (fun K hK => ?_) AllReadyH.nil
  simp only [List.getElem_toArray, List.getElem_cons_succ, List.getElem_cons_zero]
  go_simp
  go_at_call 19
  refine (refCheckKnot _ _ _).mono ?_
  rintro e w' ⟨rfl, hbq⟩
  rw [HK.out]
  refine hK.out _ _ (hbT (by assumption) hbq) (fun hHeld => ?_)
  clear hK K
  try simp only [List.getElem_toArray, List.getElem_cons_succ, List.getElem_cons_zero, Act.put, List.setIfInBounds_toArray, List.set_cons_zero, List.set_cons_succ]
  refine wpAnyH_take (i := 6) (oi := _) (v := ?va6) rfl (by kernel_rfl) (by kernel_rfl) (by kernel_rfl) (fun _ _ _ h => h) (Or.inl ⟨by rfl, ?hya6⟩) (by assumption) ?resta6
  case hya6 => (intro w hSw; (try dsimp only at hSw); go_simp; first | done | rfl)
  try simp only [List.getElem_toArray, List.getElem_cons_succ, List.getElem_cons_zero, Act.put, List.setIfInBounds_toArray, List.set_cons_zero, List.set_cons_succ]
  refine wpAnyH_take (i := 7) (oi := _) (v := ?va7) rfl (by kernel_rfl) (by kernel_rfl) (by kernel_rfl) (fun _ _ _ h => h) (Or.inl ⟨by rfl, ?hya7⟩) (by assumption) ?resta7
  case hya7 => (intro w hSw; (try dsimp only at hSw); go_simp; first | done | rfl)
  try simp only [List.getElem_toArray, List.getElem_cons_succ, List.getElem_cons_zero, Act.put, List.setIfInBounds_toArray, List.set_cons_zero, List.set_cons_succ]
  refine wpAnyH_take (i := 8) (oi := _) (v := ?va8) rfl (by kernel_rfl) (by kernel_rfl) (by kernel_rfl) (fun _ _ _ h => h) (Or.inl ⟨by rfl, ?hya8⟩) (by assumption) ?resta8
  case hya8 => (intro w hSw; (try dsimp only at hSw); go_simp; first | done | rfl)
  try simp only [List.getElem_toArray, List.getElem_cons_succ, List.getElem_cons_zero, Act.put, List.setIfInBounds_toArray, List.set_cons_zero, List.set_cons_succ]
  refine wpAnyH_done (by kernel_rfl) ?_ _
  replace BW := hHeld
  go_wp2_with fail
  refine (lwCopied A c l _ hlm (HO.out.below (fin BW))).mono ?_
  rintro e w4 ⟨a4, c4, rfl, o4, hb4⟩
  replace BW := hbT BW hb4
  have O4 := Lib.hid o4
  clear o4 hb4
  go_wp2_with fail
  refine (netCheckNetA a4 c4 l _ O4.out).mono ?_
  rintro e w5 ⟨rfl, hb5⟩
  rw [HN.out]
  replace BW := hbT BW hb5
  clear hb5
  have qs := Q BW
  obtain ⟨s0, s1, s2, s3, s4⟩ := qs
  go_wp2_with fail
  refine (netCheckBar x y s _).mono ?_
  rintro e w6 ⟨rfl, hb6⟩
  rw [HB.out]
  replace BW := hbT BW hb6
  clear hb6 s0 s1 s2 s3 s4
  have qs := Q BW
  obtain ⟨s0, s1, s2, s3, s4⟩ := qs
  go_wp2_with fail
  refine (netCheckKnot p q _).mono ?_
  rintro e w7 ⟨rfl, hb7⟩
  rw [HK.out]
  replace BW := hbT BW hb7
  clear hb7 s0 s1 s2 s3 s4
  have qs := Q BW
  obtain ⟨s0, s1, s2, s3, s4⟩ := qs
  go_wp2_with fail
  refine (HE.out _).mono ?_
  rintro e w8 ⟨rfl, hb8⟩
  replace BW := hbT BW hb8
  clear hb8 s0 s1 s2 s3 s4
  obtain ⟨wa, w9, hwa, hw9, r0, r1, r2, r3, rf, hH9, hb9⟩ := st4 w8 (.int .i64 0) (.int .i64 0) (.int .i64 0) (.int .i64 0) 37
  have hg9 : w8.heap.size < w9.heap.size := (Array.getElem?_eq_some_iff.1 hH9).1
  replace BW := hbT BW hb9
  clear hb9
  have R : ∀ {W : World}, Below w9.heap.size w9 W → W.cell? ⟨w8.heap.size, 0, none⟩ = some (.int .i64 0) ∧ W.cell? ⟨w8.heap.size, 1, none⟩ = some (.int .i64 0) ∧ W.cell? ⟨w8.heap.size, 2, none⟩ = some (.int .i64 0) ∧ W.cell? ⟨w8.heap.size, 3, none⟩ = some (.int .i64 0) := fun hb => four_at hb hH9
  have qs := Q BW
  obtain ⟨s0, s1, s2, s3, s4⟩ := qs
  clear hH9
  go_wp2_with fail
  refine (netAroundBad p q K _ HK.out HK0.out).mono ?_
  rintro e w10 ⟨rfl, hb10⟩
  have BX := Lib.hid hb10
  replace BW := hbT BW hb10
  clear hb10 s0 s1 s2 s3 s4 r0 r1 r2 r3 rf hwa hw9
  go_wp2_with fail
  refine wp_region_held_drew (S := (fun w' => Below w1.heap.size w1 w' ∧ Below w9.heap.size w9 w')) (by kernel_rfl) ?_ (fun hHeld => ?_)
  · exact ⟨below_drew BW, below_drew BX.out⟩
  refine wpAnyH_take (i := 0) (oi := _) (v := ?vb0) rfl (by kernel_rfl) (by kernel_rfl) (by kernel_rfl) (fun _ _ _ h => h) (Or.inl ⟨by rfl, ?hyb0⟩) (by assumption) ?restb0
  case hyb0 => (intro w hSw; (try dsimp only at hSw); go_simp; first | done | rfl)
  try simp only [List.getElem_toArray, List.getElem_cons_succ, List.getElem_cons_zero, Act.put, List.setIfInBounds_toArray, List.set_cons_zero, List.set_cons_succ]
  refine wpAnyH_take (i := 2) (oi := _) (v := ?vb2) rfl (by kernel_rfl) (by kernel_rfl) (by kernel_rfl) (fun _ _ _ h => h) (Or.inl ⟨by rfl, ?hyb2⟩) (by assumption) ?restb2
  case hyb2 => (intro w hSw; (try dsimp only at hSw); obtain ⟨s0, s1, s2, s3, s4⟩ := Q hSw.1; obtain ⟨r0, r1, r2, r3⟩ := R hSw.2; go_simp; first | done | rfl)
  try simp only [List.getElem_toArray, List.getElem_cons_succ, List.getElem_cons_zero, Act.put, List.setIfInBounds_toArray, List.set_cons_zero, List.set_cons_succ]
  refine wpAnyH_ready (rs := [1]) (by kernel_rfl) (by simp) ?_
  refine AllReadyH.cons (o := _) rfl (fun K hK => ?_) AllReadyH.nil
  simp only [List.getElem_toArray, List.getElem_cons_succ, List.getElem_cons_zero]
  go_simp
  go_at_call 21
  refine (lwCopied A c l _ hlm (HO.out.below (fin (sOf (by assumption))))).mono ?_
  rintro e w' ⟨a8, c8, rfl, o8, hbq⟩
  refine hK.out _ _ (hbT2 (by assumption) hbq) (fun hHeld => ?_)
  clear hK K
  try simp only [List.getElem_toArray, List.getElem_cons_succ, List.getElem_cons_zero, Act.put, List.setIfInBounds_toArray, List.set_cons_zero, List.set_cons_succ]
  refine wpAnyH_ready (rs := [3]) (by kernel_rfl) (by simp) ?_
  refine AllReadyH.cons (o := _) rfl (fun K hK => ?_) AllReadyH.nil
  simp only [List.getElem_toArray, List.getElem_cons_succ, List.getElem_cons_zero]
  go_simp
  go_at_call 26
  refine (HH.out _ _ _ o8).mono ?_
  rintro e w' ⟨rfl, hbq⟩
  refine hK.out _ _ (hbT2 (by assumption) hbq) (fun hHeld => ?_)
  clear hK K
  try simp only [List.getElem_toArray, List.getElem_cons_succ, List.getElem_cons_zero, Act.put, List.setIfInBounds_toArray, List.set_cons_zero, List.set_cons_succ]
  refine wpAnyH_take (i := 4) (oi := _) (v := ?vb4) rfl (by kernel_rfl) (by kernel_rfl) (by kernel_rfl) (fun _ _ _ h => h) (Or.inl ⟨by rfl, ?hyb4⟩) (by assumption) ?restb4
  case hyb4 => (intro w hSw; (try dsimp only at hSw); go_simp; first | done | rfl)
  try simp only [List.getElem_toArray, List.getElem_cons_succ, List.getElem_cons_zero, Act.put, List.setIfInBounds_toArray, List.set_cons_zero, List.set_cons_succ]
  refine wpAnyH_take (i := 5) (oi := _) (v := ?vb5) rfl (by kernel_rfl) (by kernel_rfl) (by kernel_rfl) (fun _ _ _ h => h) (Or.inl ⟨by rfl, ?hyb5⟩) (by assumption) ?restb5
  case hyb5 => (intro w hSw; (try dsimp only at hSw); go_simp; first | done | rfl)
  try simp only [List.getElem_toArray, List.getElem_cons_succ, List.getElem_cons_zero, Act.put, List.setIfInBounds_toArray, List.set_cons_zero, List.set_cons_succ]
  refine wpAnyH_take (i := 6) (oi := _) (v := ?vb6) rfl (by kernel_rfl) (by kernel_rfl) (by kernel_rfl) (fun _ _ _ h => h) (Or.inl ⟨by rfl, ?hyb6⟩) (by assumption) ?restb6
  case hyb6 => (intro w hSw; (try dsimp only at hSw); go_simp; first | done | rfl)
  try simp only [List.getElem_toArray, List.getElem_cons_succ, List.getElem_cons_zero, Act.put, List.setIfInBounds_toArray, List.set_cons_zero, List.set_cons_succ]
  refine wpAnyH_take (i := 7) (oi := _) (v := ?vb7) rfl (by kernel_rfl) (by kernel_rfl) (by kernel_rfl) (fun _ _ _ h => h) (Or.inl ⟨by rfl, ?hyb7⟩) (by assumption) ?restb7
  case hyb7 => (intro w hSw; (try dsimp only at hSw); go_simp; first | done | rfl)
  try simp only [List.getElem_toArray, List.getElem_cons_succ, List.getElem_cons_zero, Act.put, List.setIfInBounds_toArray, List.set_cons_zero, List.set_cons_succ]
  refine wpAnyH_take (i := 8) (oi := _) (v := ?vb8) rfl (by kernel_rfl) (by kernel_rfl) (by kernel_rfl) (fun _ _ _ h => h) (Or.inl ⟨by rfl, ?hyb8⟩) (by assumption) ?restb8
  case hyb8 => (intro w hSw; (try dsimp only at hSw); go_simp; first | done | rfl)
  try simp only [List.getElem_toArray, List.getElem_cons_succ, List.getElem_cons_zero, Act.put, List.setIfInBounds_toArray, List.set_cons_zero, List.set_cons_succ]
  refine wpAnyH_done (by kernel_rfl) ?_ _
  have HD := Lib.hid hHeld
  clear o8
  go_wp2_with fail
  refine wp_region_held_drew (S := (fun w' => Below w1.heap.size w1 w' ∧ Below w9.heap.size w9 w')) (by kernel_rfl) ?_ (fun hHeld => ?_)
  · exact ⟨below_drew HD.out.1, below_drew HD.out.2⟩
  refine wpAnyH_take (i := 0) (oi := _) (v := ?vc0) rfl (by kernel_rfl) (by kernel_rfl) (by kernel_rfl) (fun _ _ _ h => h) (Or.inl ⟨by rfl, ?hyc0⟩) (by assumption) ?restc0
  case hyc0 => (intro w hSw; (try dsimp only at hSw); go_simp; first | done | rfl)
  try simp only [List.getElem_toArray, List.getElem_cons_succ, List.getElem_cons_zero, Act.put, List.setIfInBounds_toArray, List.set_cons_zero, List.set_cons_succ]
  refine wpAnyH_take (i := 1) (oi := _) (v := ?vc1) rfl (by kernel_rfl) (by kernel_rfl) (by kernel_rfl) (fun _ _ _ h => h) (Or.inl ⟨by rfl, ?hyc1⟩) (by assumption) ?restc1
  case hyc1 => (intro w hSw; (try dsimp only at hSw); go_simp; first | done | rfl)
  try simp only [List.getElem_toArray, List.getElem_cons_succ, List.getElem_cons_zero, Act.put, List.setIfInBounds_toArray, List.set_cons_zero, List.set_cons_succ]
  refine wpAnyH_take (i := 2) (oi := _) (v := ?vc2) rfl (by kernel_rfl) (by kernel_rfl) (by kernel_rfl) (fun _ _ _ h => h) (Or.inl ⟨by rfl, ?hyc2⟩) (by assumption) ?restc2
  case hyc2 => (intro w hSw; (try dsimp only at hSw); go_simp; first | done | rfl)
  try simp only [List.getElem_toArray, List.getElem_cons_succ, List.getElem_cons_zero, Act.put, List.setIfInBounds_toArray, List.set_cons_zero, List.set_cons_succ]
  refine wpAnyH_take (i := 3) (oi := _) (v := ?vc3) rfl (by kernel_rfl) (by kernel_rfl) (by kernel_rfl) (fun _ _ _ h => h) (Or.inl ⟨by rfl, ?hyc3⟩) (by assumption) ?restc3
  case hyc3 => (intro w hSw; (try dsimp only at hSw); obtain ⟨s0, s1, s2, s3, s4⟩ := Q hSw.1; obtain ⟨r0, r1, r2, r3⟩ := R hSw.2; go_simp; first | done | rfl)
  try simp only [List.getElem_toArray, List.getElem_cons_succ, List.getElem_cons_zero, Act.put, List.setIfInBounds_toArray, List.set_cons_zero, List.set_cons_succ]
  refine wpAnyH_take (i := 4) (oi := _) (v := ?vc4) rfl (by kernel_rfl) (by kernel_rfl) (by kernel_rfl) (fun _ _ _ h => h) (Or.inl ⟨by rfl, ?hyc4⟩) (by assumption) ?restc4
  case hyc4 => (intro w hSw; (try dsimp only at hSw); go_simp; first | done | rfl)
  try simp only [List.getElem_toArray, List.getElem_cons_succ, List.getElem_cons_zero, Act.put, List.setIfInBounds_toArray, List.set_cons_zero, List.set_cons_succ]
  refine wpAnyH_take (i := 5) (oi := _) (v := ?vc5) rfl (by kernel_rfl) (by kernel_rfl) (by kernel_rfl) (fun _ _ _ h => h) (Or.inl ⟨by rfl, ?hyc5⟩) (by assumption) ?restc5
  case hyc5 => (intro w hSw; (try dsimp only at hSw); go_simp; first | done | rfl)
  try simp only [List.getElem_toArray, List.getElem_cons_succ, List.getElem_cons_zero, Act.put, List.setIfInBounds_toArray, List.set_cons_zero, List.set_cons_succ]
  refine wpAnyH_take (i := 6) (oi := _) (v := ?vc6) rfl (by kernel_rfl) (by kernel_rfl) (by kernel_rfl) (fun _ _ _ h => h) (Or.inl ⟨by rfl, ?hyc6⟩) (by assumption) ?restc6
  case hyc6 => (intro w hSw; (try dsimp only at hSw); go_simp; first | done | rfl)
  try simp only [List.getElem_toArray, List.getElem_cons_succ, List.getElem_cons_zero, Act.put, List.setIfInBounds_toArray, List.set_cons_zero, List.set_cons_succ]
  refine wpAnyH_take (i := 7) (oi := _) (v := ?vc7) rfl (by kernel_rfl) (by kernel_rfl) (by kernel_rfl) (fun _ _ _ h => h) (Or.inl ⟨by rfl, ?hyc7⟩) (by assumption) ?restc7
  case hyc7 => (intro w hSw; (try dsimp only at hSw); go_simp; first | done | rfl)
  try simp only [List.getElem_toArray, List.getElem_cons_succ, List.getElem_cons_zero, Act.put, List.setIfInBounds_toArray, List.set_cons_zero, List.set_cons_succ]
  refine wpAnyH_take (i := 8) (oi := _) (v := ?vc8) rfl (by kernel_rfl) (by kernel_rfl) (by kernel_rfl) (fun _ _ _ h => h) (Or.inl ⟨by rfl, ?hyc8⟩) (by assumption) ?restc8
  case hyc8 => (intro w hSw; (try dsimp only at hSw); go_simp; first | done | rfl)
  try simp only [List.getElem_toArray, List.getElem_cons_succ, List.getElem_cons_zero, Act.put, List.setIfInBounds_toArray, List.set_cons_zero, List.set_cons_succ]
  refine wpAnyH_take (i := 9) (oi := _) (v := ?vc9) rfl (by kernel_rfl) (by kernel_rfl) (by kernel_rfl) (fun _ _ _ h => h) (Or.inl ⟨by rfl, ?hyc9⟩) (by assumption) ?restc9
  case hyc9 => (intro w hSw; (try dsimp only at hSw); go_simp; first | done | rfl)
  try simp only [List.getElem_toArray, List.getElem_cons_succ, List.getElem_cons_zero, Act.put, List.setIfInBounds_toArray, List.set_cons_zero, List.set_cons_succ]
  refine wpAnyH_take (i := 10) (oi := _) (v := ?vc10) rfl (by kernel_rfl) (by kernel_rfl) (by kernel_rfl) (fun _ _ _ h => h) (Or.inl ⟨by rfl, ?hyc10⟩) (by assumption) ?restc10
  case hyc10 => (intro w hSw; (try dsimp only at hSw); go_simp; first | done | rfl)
  try simp only [List.getElem_toArray, List.getElem_cons_succ, List.getElem_cons_zero, Act.put, List.setIfInBounds_toArray, List.set_cons_zero, List.set_cons_succ]
  refine wpAnyH_take (i := 11) (oi := _) (v := ?vc11) rfl (by kernel_rfl) (by kernel_rfl) (by kernel_rfl) (fun _ _ _ h => h) (Or.inl ⟨by rfl, ?hyc11⟩) (by assumption) ?restc11
  case hyc11 => (intro w hSw; (try dsimp only at hSw); go_simp; first | done | rfl)
  try simp only [List.getElem_toArray, List.getElem_cons_succ, List.getElem_cons_zero, Act.put, List.setIfInBounds_toArray, List.set_cons_zero, List.set_cons_succ]
  refine wpAnyH_take (i := 12) (oi := _) (v := ?vc12) rfl (by kernel_rfl) (by kernel_rfl) (by kernel_rfl) (fun _ _ _ h => h) (Or.inl ⟨by rfl, ?hyc12⟩) (by assumption) ?restc12
  case hyc12 => (intro w hSw; (try dsimp only at hSw); go_simp; first | done | rfl)
  try simp only [List.getElem_toArray, List.getElem_cons_succ, List.getElem_cons_zero, Act.put, List.setIfInBounds_toArray, List.set_cons_zero, List.set_cons_succ]
  refine wpAnyH_take (i := 13) (oi := _) (v := ?vc13) rfl (by kernel_rfl) (by kernel_rfl) (by kernel_rfl) (fun _ _ _ h => h) (Or.inl ⟨by rfl, ?hyc13⟩) (by assumption) ?restc13
  case hyc13 => (intro w hSw; (try dsimp only at hSw); go_simp; first | done | rfl)
  try simp only [List.getElem_toArray, List.getElem_cons_succ, List.getElem_cons_zero, Act.put, List.setIfInBounds_toArray, List.set_cons_zero, List.set_cons_succ]
  refine wpAnyH_take (i := 14) (oi := _) (v := ?vc14) rfl (by kernel_rfl) (by kernel_rfl) (by kernel_rfl) (fun _ _ _ h => h) (Or.inl ⟨by rfl, ?hyc14⟩) (by assumption) ?restc14
  case hyc14 => (intro w hSw; (try dsimp only at hSw); go_simp; first | done | rfl)
  try simp only [List.getElem_toArray, List.getElem_cons_succ, List.getElem_cons_zero, Act.put, List.setIfInBounds_toArray, List.set_cons_zero, List.set_cons_succ]
  refine wpAnyH_take (i := 15) (oi := _) (v := ?vc15) rfl (by kernel_rfl) (by kernel_rfl) (by kernel_rfl) (fun _ _ _ h => h) (Or.inl ⟨by rfl, ?hyc15⟩) (by assumption) ?restc15
  case hyc15 => (intro w hSw; (try dsimp only at hSw); go_simp; first | done | rfl)
  try simp only [List.getElem_toArray, List.getElem_cons_succ, List.getElem_cons_zero, Act.put, List.setIfInBounds_toArray, List.set_cons_zero, List.set_cons_succ]
  refine wpAnyH_take (i := 16) (oi := _) (v := undef) rfl (by kernel_rfl) (by kernel_rfl) (by kernel_rfl) (fun _ _ _ h => h) (Or.inr ⟨by rfl, rfl⟩) (by assumption) ?restc16
  try simp only [List.getElem_toArray, List.getElem_cons_succ, List.getElem_cons_zero, Act.put, List.setIfInBounds_toArray, List.set_cons_zero, List.set_cons_succ]
  refine wpAnyH_take (i := 17) (oi := _) (v := undef) rfl (by kernel_rfl) (by kernel_rfl) (by kernel_rfl) (fun _ _ _ h => h) (Or.inr ⟨by rfl, rfl⟩) (by assumption) ?restc17
  try simp only [List.getElem_toArray, List.getElem_cons_succ, List.getElem_cons_zero, Act.put, List.setIfInBounds_toArray, List.set_cons_zero, List.set_cons_succ]
  refine wpAnyH_take (i := 18) (oi := _) (v := undef) rfl (by kernel_rfl) (by kernel_rfl) (by kernel_rfl) (fun _ _ _ h => h) (Or.inr ⟨by rfl, rfl⟩) (by assumption) ?restc18
  try simp only [List.getElem_toArray, List.getElem_cons_succ, List.getElem_cons_zero, Act.put, List.setIfInBounds_toArray, List.set_cons_zero, List.set_cons_succ]
  refine wpAnyH_take (i := 19) (oi := _) (v := undef) rfl (by kernel_rfl) (by kernel_rfl) (by kernel_rfl) (fun _ _ _ h => h) (Or.inr ⟨by rfl, rfl⟩) (by assumption) ?restc19
  try simp only [List.getElem_toArray, List.getElem_cons_succ, List.getElem_cons_zero, Act.put, List.setIfInBounds_toArray, List.set_cons_zero, List.set_cons_succ]
  refine wpAnyH_take (i := 20) (oi := _) (v := undef) rfl (by kernel_rfl) (by kernel_rfl) (by kernel_rfl) (fun _ _ _ h => h) (Or.inr ⟨by rfl, rfl⟩) (by assumption) ?restc20
  try simp only [List.getElem_toArray, List.getElem_cons_succ, List.getElem_cons_zero, Act.put, List.setIfInBounds_toArray, List.set_cons_zero, List.set_cons_succ]
  refine wpAnyH_take (i := 21) (oi := _) (v := undef) rfl (by kernel_rfl) (by kernel_rfl) (by kernel_rfl) (fun _ _ _ h => h) (Or.inr ⟨by rfl, rfl⟩) (by assumption) ?restc21
  try simp only [List.getElem_toArray, List.getElem_cons_succ, List.getElem_cons_zero, Act.put, List.setIfInBounds_toArray, List.set_cons_zero, List.set_cons_succ]
  refine wpAnyH_take (i := 22) (oi := _) (v := undef) rfl (by kernel_rfl) (by kernel_rfl) (by kernel_rfl) (fun _ _ _ h => h) (Or.inr ⟨by rfl, rfl⟩) (by assumption) ?restc22
  try simp only [List.getElem_toArray, List.getElem_cons_succ, List.getElem_cons_zero, Act.put, List.setIfInBounds_toArray, List.set_cons_zero, List.set_cons_succ]
  refine wpAnyH_take (i := 23) (oi := _) (v := undef) rfl (by kernel_rfl) (by kernel_rfl) (by kernel_rfl) (fun _ _ _ h => h) (Or.inr ⟨by rfl, rfl⟩) (by assumption) ?restc23
  try simp only [List.getElem_toArray, List.getElem_cons_succ, List.getElem_cons_zero, Act.put, List.setIfInBounds_toArray, List.set_cons_zero, List.set_cons_succ]
  refine wpAnyH_take (i := 24) (oi := _) (v := ?vc24) rfl (by kernel_rfl) (by kernel_rfl) (by kernel_rfl) (fun _ _ _ h => h) (Or.inl ⟨by rfl, ?hyc24⟩) (by assumption) ?restc24
  case hyc24 => (intro w hSw; (try dsimp only at hSw); go_simp; first | done | rfl)
  try simp only [List.getElem_toArray, List.getElem_cons_succ, List.getElem_cons_zero, Act.put, List.setIfInBounds_toArray, List.set_cons_zero, List.set_cons_succ]
  refine wpAnyH_take (i := 25) (oi := _) (v := ?vc25) rfl (by kernel_rfl) (by kernel_rfl) (by kernel_rfl) (fun _ _ _ h => h) (Or.inl ⟨by rfl, ?hyc25⟩) (by assumption) ?restc25
  case hyc25 => (intro w hSw; (try dsimp only at hSw); go_simp; first | done | rfl)
  try simp only [List.getElem_toArray, List.getElem_cons_succ, List.getElem_cons_zero, Act.put, List.setIfInBounds_toArray, List.set_cons_zero, List.set_cons_succ]
  refine wpAnyH_done (by kernel_rfl) ?_ _
  clear HD
  have HD := Lib.hid hHeld
  replace BW := HD.out.1
  go_wp2_with fail
  refine (lwNetBad K _ HK0.out).mono ?_
  rintro e w13 ⟨rfl, hb13⟩
  replace BW := hbT BW hb13
  clear hb13
  go_wp2_with fail
  refine (lwFirst N B _ _ 3 _ (by exact heap_alloc_new _ _)).mono ?_
  rintro e w14 ⟨rfl, rfl⟩
  rw [HF.out]
  replace BW := hbT BW (bel_new _ (.cells #[.int .i64 N, .int .i64 B] 3))
  have qs := Q BW
  obtain ⟨s0, s1, s2, s3, s4⟩ := qs
  go_wp2
  go_ret
  exact ⟨by simp, fin BW⟩
end Go.Proofs.YtdeplhihcifmeaaGreatDoor

/- The law of NettingBars. -/
namespace Go.Proofs.YtdeplhihcifmeaaGreatDoor
open Go.RowKit Go.Shelf Ck

/-- A law of one list that is asked first: what it returns where the list is neither short nor too long. -/
theorem short_cases {n : Nat} {k : Int} (hk : (n : Int) ≤ k ∨ ¬ (n : Int) ≤ k) : ((n : Int) ≤ k) ∨ (¬ (n : Int) ≤ k ∧ 4096 < (n : Int) ∧ (n : Int) ≤ 4098) ∨ (¬ (n : Int) ≤ k ∧ ¬ (4096 < (n : Int) ∧ (n : Int) ≤ 4098)) := by omega
theorem refShortOk (A : Option Addr) (c n : Nat) (k : Int) (w : World) (hm : n ≤ maxLen) (h : (n : Int) ≤ k ∨ (4096 < (n : Int) ∧ (n : Int) ≤ 4098)) :
    Calls Tryz.prog 16 #[.slice A n c, .int .i64 k] w fun e w' => e = .returned (.bool true) ∧ w = w' := by
  by_cases h1 : (n : Int) ≤ k
  · exact refShortYes A c n k w hm h1
  · rcases h with h | ⟨h2, h3⟩
    · exact absurd h h1
    · exact refShortLong A c n k w hm h1 h2 h3
theorem refShortNo (A : Option Addr) (c n : Nat) (k : Int) (w : World) (hm : n ≤ maxLen) (h : ¬ ((n : Int) ≤ k ∨ (4096 < (n : Int) ∧ (n : Int) ≤ 4098))) :
    Calls Tryz.prog 16 #[.slice A n c, .int .i64 k] w fun e w' => e = .returned (.bool false) ∧ w = w' := by
  by_cases h1 : (4096 : Int) < (n : Int)
  · exact refShortNo2 A c n k w hm (by omega) h1 (by omega)
  · exact refShortNo1 A c n k w hm (by omega) h1
theorem firstE_both {a b : Int} (h : firstE [a, b] = 0) : a = 0 ∧ b = 0 := by
  unfold firstE firstE firstE at h
  split at h
  · rename_i h1
    split at h
    · rename_i h2
      exact ⟨h1, h2⟩
    · rename_i h2
      exact absurd h h2
  · rename_i h1
    exact absurd h h1
set_option maxHeartbeats 2000000 in
set_option maxRecDepth 100000 in
theorem lawBarsLong (A : Option Addr) (c n : Nat) (x y s p q : Int) (w : World) (hL : LaidLen w) (hm : n ≤ maxLen) (h : ¬ ((n : Int) ≤ 40 ∨ (4096 < (n : Int) ∧ (n : Int) ≤ 4098))) :
    Calls Tryz.prog 3 #[.slice A n c, .agg #[.int .i64 x, .int .i64 y, .int .i64 s], .agg #[.int .i64 p, .int .i64 q]] w fun e w' => e = .returned (.bool true) ∧ Below w.heap.size w w' := by
  obtain ⟨w1, hw1, Q, hb1, hz1⟩ := box32Q w x y s p q
  have HW1 := Lib.hid hw1
  have HLL := Lib.hid hL
  have HS := Lib.hid (fun W : World => refShortNo A c n 40 W hm h)
  have fin : ∀ {W : World}, Below w1.heap.size w1 W → Below w.heap.size w W := fun hb => hb1.trans (hb.mono hb1.size)
  have BW := Below.refl w1.heap.size w1
  clear hw1 hL hm h
  go_enter Tryz.func3, Tryz.ntmps3
  go_wp2_with fail
  rw [← HW1.out]
  go_wp2_with fail
  refine (awake1 _ (HLL.out.below (fin BW) HLL.out.lt)).mono ?_
  rintro e w2 ⟨rfl, hb2⟩
  replace BW := hbT BW hb2
  clear hb2
  go_wp2_with fail
  refine (HS.out _).mono ?_
  rintro e w3 ⟨rfl, rfl⟩
  go_wp2_with fail
  refine (awake1 _ (HLL.out.below (fin BW) HLL.out.lt)).mono ?_
  rintro e w4 ⟨rfl, hb4⟩
  replace BW := hbT BW hb4
  clear hb4
  go_wp2
  go_ret
  exact ⟨rfl, fin BW⟩
theorem lawBars (A : Option Addr) (c : Nat) (l : List Bar) (x y s p q : Int) (w : World) (hL : LaidLen w) (hO : OKS w A c l) :
    Calls Tryz.prog 3 #[.slice A l.length c, .agg #[.int .i64 x, .int .i64 y, .int .i64 s], .agg #[.int .i64 p, .int .i64 q]] w fun e w' => e = .returned (.bool true) ∧ Below w.heap.size w w' := by
  have hm : l.length ≤ maxLen := Nat.le_trans hO.1 hO.2.1
  by_cases hs : (l.length : Int) ≤ 40 ∨ (4096 < (l.length : Int) ∧ (l.length : Int) ≤ 4098)
  · have hS : ∀ W : World, Calls Tryz.prog 16 #[.slice A l.length c, .int .i64 40] W fun e w' => e = .returned (.bool true) ∧ W = w' := fun W => refShortOk A c l.length 40 W hm hs
    have hlm : l.length ≤ 4098 := by omega
    have bad : firstE [netE l, barE x y s] ≠ 0 → ∀ (W : World) (a : Option Addr) (c' : Nat), OKS W a c' l → Calls Tryz.prog 26 #[.slice a l.length c', .agg #[.int .i64 x, .int .i64 y, .int .i64 s]] W fun e w' => e = .returned (.tuple #[.bool false, .int .i64 (firstE [netE l, barE x y s])]) ∧ Below W.heap.size W w' :=
      fun hne W a c' h => netHasBad a c' l ⟨x, y, s⟩ (netE l) (barE x y s) _ W h rfl rfl rfl hne
    by_cases hb : barE x y s = 0
    · obtain ⟨x1, x2, y1, y2, hss⟩ := barE_in hb
      have hE : ∀ W : World, Calls Tryz.prog 24 #[.agg #[.int .i64 x, .int .i64 y, .int .i64 s]] W fun e w' => e = .returned (.tuple #[.agg #[.int .i64 x, .int .i64 y, .int .i64 (x + s), .int .i64 (y + 1)], .int .i64 (barE x y s)]) ∧ Below W.heap.size W w' := fun W => by
        rw [hb]; exact netEndsOk x y s W hb
      have hR : ∀ W : World, Calls Tryz.prog 27 #[.agg #[.int .i64 x, .int .i64 y, .int .i64 s]] W fun e w' => e = .returned (.agg #[.int .i64 x, .int .i64 y, .int .i64 (x + s), .int .i64 (y + 1)]) ∧ Below W.heap.size W w' :=
        fun W => refEnds x y s W x1 x2 y1 y2 (by omega) (by omega)
      by_cases hf : firstE [netE l, barE x y s] = 0
      · obtain ⟨hN, -⟩ := firstE_both hf
        obtain ⟨hl, hNet⟩ := (netE_zero l).1 hN
        have hH : ∀ (W : World) (a : Option Addr) (c' : Nat), OKS W a c' l → Calls Tryz.prog 26 #[.slice a l.length c', .agg #[.int .i64 x, .int .i64 y, .int .i64 s]] W fun e w' => e = .returned (.tuple #[.bool (decide ((⟨x, y, s⟩ : Bar) ∈ l)), .int .i64 (firstE [netE l, barE x y s])]) ∧ Below W.heap.size W w' := fun W a c' h => by
          rw [hf]; exact netHas a c' l ⟨x, y, s⟩ W hl h.1 h.2.1 hNet hb h.2.2.2
        have hRH : ∀ W : World, Below w.heap.size w W → Calls Tryz.prog 31 #[.slice A l.length c, .agg #[.int .i64 x, .int .i64 y, .int .i64 s]] W fun e w' => e = .returned (.bool (decide ((⟨x, y, s⟩ : Bar) ∈ l))) ∧ Below W.heap.size W w' :=
          fun W hW => refHasBar A c l ⟨x, y, s⟩ W (by omega) (hO.below hW).2.2.2
        by_cases hk : knotE p q = 0
        · exact lawBarsBKF A c l x y s p q _ _ _ _ x y (x + s) (y + 1) _ w hL hO hlm hS rfl rfl rfl rfl hE hH hb hR hk hf hRH
        · exact lawBarsBkF A c l x y s p q _ _ _ _ x y (x + s) (y + 1) _ w hL hO hlm hS rfl rfl rfl rfl hE hH hb hR hk hf hRH
      · by_cases hk : knotE p q = 0
        · exact lawBarsBKf A c l x y s p q _ _ _ _ x y (x + s) (y + 1) false w hL hO hlm hS rfl rfl rfl rfl hE (bad hf) hb hR hk hf rfl
        · exact lawBarsBkf A c l x y s p q _ _ _ _ x y (x + s) (y + 1) false w hL hO hlm hS rfl rfl rfl rfl hE (bad hf) hb hR hk hf rfl
    · have hf : firstE [netE l, barE x y s] ≠ 0 := fun h => hb (firstE_both h).2
      have hE : ∀ W : World, Calls Tryz.prog 24 #[.agg #[.int .i64 x, .int .i64 y, .int .i64 s]] W fun e w' => e = .returned (.tuple #[.agg #[.int .i64 0, .int .i64 0, .int .i64 0, .int .i64 0], .int .i64 (barE x y s)]) ∧ Below W.heap.size W w' := fun W => netEndsBad x y s _ W rfl hb
      by_cases hk : knotE p q = 0
      · exact lawBarsbKf A c l x y s p q _ _ _ _ 0 0 0 0 false w hL hO hlm hS rfl rfl rfl rfl hE (bad hf) hb rfl rfl rfl rfl hk hf rfl
      · exact lawBarsbkf A c l x y s p q _ _ _ _ 0 0 0 0 false w hL hO hlm hS rfl rfl rfl rfl hE (bad hf) hb rfl rfl rfl rfl hk hf rfl
  · exact lawBarsLong A c l.length x y s p q w hL hm hs
end Go.Proofs.YtdeplhihcifmeaaGreatDoor
