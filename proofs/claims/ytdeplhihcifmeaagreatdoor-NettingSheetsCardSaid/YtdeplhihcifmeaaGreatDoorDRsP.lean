/- NettingSheets returns true for every knot and two ints; the library's tables that its row lists are tied to the program's text. -/
import Derived.Test.YtdeplhihcifmeaaGreatDoorD7
/- The reference's sheet, column by column, is the sheet: plain mathematics. -/
namespace Go.Proofs.YtdeplhihcifmeaaGreatDoor
open Go.RowKit Go.Shelf Ck

/-- The bars that the reference adds at column t of row j. -/
def cellR (x y : Int) (c j t : Nat) : List Bar := if (t + j) % 2 = 0 then (if 0 < t then [⟨x + t, y + j, -1⟩] else []) ++ (if t < 2 * c then [⟨x + t, y + j, 1⟩] else []) else []
def rowR (x y : Int) (c j t : Nat) : List Bar := (List.range t).flatMap (cellR x y c j)
theorem rowR_succ (x y : Int) (c j t : Nat) : rowR x y c j (t + 1) = rowR x y c j t ++ cellR x y c j t := by simp [rowR, List.range_succ]
theorem cellL_even {x y : Int} {j i : Nat} (h : j % 2 = 0) : cellL x y j i = [⟨x + 2 * (i : Int), y + j, 1⟩, ⟨x + 2 * (i : Int) + 2, y + j, -1⟩] := by
  have : oddB j = false := by simp [oddB]; omega
  simp [cellL, this, cel0, cel1]
theorem cellL_odd {x y : Int} {j i : Nat} (h : j % 2 = 1) : cellL x y j i = [⟨x + 2 * (i : Int) + 1, y + j, -1⟩, ⟨x + 2 * (i : Int) + 1, y + j, 1⟩] := by
  have : oddB j = true := by simp [oddB]; omega
  simp [cellL, this, cel0, cel1]
theorem rowR_even (x y : Int) (c j : Nat) (hj : j % 2 = 0) : ∀ i, i ≤ c → rowR x y c j (2 * i + 1) = rowL x y j i ++ (if i < c then [⟨x + 2 * (i : Int), y + j, 1⟩] else [])
  | 0, _ => by
    rw [rowR_succ, cellR, if_pos (by omega), if_neg (by omega)]
    by_cases h : 0 < c
    · rw [if_pos (by omega), if_pos h]; simp [rowR, rowL]
    · rw [if_neg (by omega), if_neg h]; simp [rowR, rowL]
  | i + 1, hi => by
    rw [show 2 * (i + 1) + 1 = 2 * i + 1 + 1 + 1 from by omega, rowR_succ, rowR_succ, rowR_even x y c j hj i (by omega), if_pos (by omega)]
    have e1 : cellR x y c j (2 * i + 1) = [] := by rw [cellR, if_neg (by omega)]
    have e2 : cellR x y c j (2 * i + 1 + 1) = [⟨x + 2 * (i : Int) + 2, y + j, -1⟩] ++ (if i + 1 < c then [⟨x + 2 * ((i + 1 : Nat) : Int), y + j, 1⟩] else []) := by
      rw [cellR, if_pos (by omega), if_pos (by omega)]
      congr 1
      · congr 2; omega
      · by_cases h : i + 1 < c
        · rw [if_pos (by omega), if_pos h]; congr 2
        · rw [if_neg (by omega), if_neg h]
    rw [e1, e2, rowL_succ, cellL_even hj]
    simp
theorem rowR_odd (x y : Int) (c j : Nat) (hj : j % 2 = 1) : ∀ i, i ≤ c → rowR x y c j (2 * i + 1) = rowL x y j i
  | 0, _ => by
    rw [rowR_succ, cellR, if_neg (by omega)]
    simp [rowR, rowL]
  | i + 1, hi => by
    rw [show 2 * (i + 1) + 1 = 2 * i + 1 + 1 + 1 from by omega, rowR_succ, rowR_succ, rowR_odd x y c j hj i (by omega)]
    have e1 : cellR x y c j (2 * i + 1) = [⟨x + 2 * (i : Int) + 1, y + j, -1⟩, ⟨x + 2 * (i : Int) + 1, y + j, 1⟩] := by
      rw [cellR, if_pos (by omega), if_pos (by omega), if_pos (by omega)]
      simp
      omega
    have e2 : cellR x y c j (2 * i + 1 + 1) = [] := by rw [cellR, if_neg (by omega)]
    rw [e1, e2, rowL_succ, cellL_odd hj]
    simp
theorem rowR_eq (x y : Int) (c j : Nat) : rowR x y c j (2 * c + 1) = rowL x y j c := by
  rcases Nat.mod_two_eq_zero_or_one j with h | h
  · rw [rowR_even x y c j h c (Nat.le_refl _), if_neg (by omega), List.append_nil]
  · exact rowR_odd x y c j h c (Nat.le_refl _)
end Go.Proofs.YtdeplhihcifmeaaGreatDoor

/- The reference's Sheet. -/
namespace Go.Proofs.YtdeplhihcifmeaaGreatDoor
open Go.RowKit Go.Shelf Ck

/-- What the innermost loop has added at column t: none of the two sides yet, the left one, both. -/
def sidR (x y : Int) (c j t s : Nat) : List Bar := if (t + j) % 2 = 0 then (if 0 < t ∧ 0 < s then [⟨x + t, y + j, -1⟩] else []) ++ (if t < 2 * c ∧ 1 < s then [⟨x + t, y + j, 1⟩] else []) else []
theorem sidR_two (x y : Int) (c j t : Nat) : sidR x y c j t 2 = cellR x y c j t := by simp [sidR, cellR]
theorem sidR_zero (x y : Int) (c j t : Nat) : sidR x y c j t 0 = [] := by simp [sidR]
theorem sidR_len (x y : Int) (c j t s : Nat) : (sidR x y c j t s).length ≤ 2 := by
  unfold sidR
  split
  · rw [List.length_append]; split <;> split <;> simp
  · simp
theorem rowR_len (x y : Int) (c j : Nat) : ∀ t, (rowR x y c j t).length ≤ 2 * t
  | 0 => by simp [rowR]
  | t + 1 => by
    rw [rowR_succ, List.length_append, ← sidR_two]
    have := rowR_len x y c j t
    have := sidR_len x y c j t 2
    omega
def cat3 (a b c : List Bar) : List Bar := a ++ b ++ c
theorem even_of {x y : Int} {j t : Nat} (h : (x + y) % 2 = 0) {b : Bool} (hb : decide ((t + j) % 2 = 0) = b) : evenB (x + t) (y + j) = b := by
  subst hb
  unfold evenB
  rw [decide_eq_decide]
  omega
theorem sidR_skip {x y : Int} {c j t s : Nat} (h : (t + j) % 2 ≠ 0 ∨ (s = 0 ∧ t = 0) ∨ (s = 1 ∧ 2 * c ≤ t)) : sidR x y c j t (s + 1) = sidR x y c j t s := by
  unfold sidR
  rcases h with h | ⟨rfl, rfl⟩ | ⟨rfl, h⟩
  · rw [if_neg h, if_neg h]
  · by_cases h2 : (0 + j) % 2 = 0
    · rw [if_pos h2, if_pos h2]; simp
    · rw [if_neg h2, if_neg h2]
  · by_cases h2 : (t + j) % 2 = 0
    · rw [if_pos h2, if_pos h2]
      have : ¬ t < 2 * c := by omega
      simp [this]
    · rw [if_neg h2, if_neg h2]
theorem sidR_add {x y : Int} {c j t s : Nat} (h : (t + j) % 2 = 0) (h2 : (s = 0 ∧ 0 < t) ∨ (s = 1 ∧ t < 2 * c)) : sidR x y c j t (s + 1) = sidR x y c j t s ++ [⟨x + t, y + j, 2 * (s : Int) - 1⟩] := by
  unfold sidR
  rw [if_pos h, if_pos h]
  rcases h2 with ⟨rfl, h2⟩ | ⟨rfl, h2⟩
  · simp [h2]
  · simp [h2]
def ShRow (B : Nat) (v : Value) (l : List Bar) (W : World) : Prop := W.ownsRow B 24 3 v l.length (bcellsL l)
set_option maxHeartbeats 8000000 in
set_option maxRecDepth 100000 in
theorem refSheet (x y : Int) (c r : Nat) (w : World) (hE : sheetE x y c r = 0) :
    Calls Tryz.prog 40 #[.agg #[.int .i64 x, .int .i64 y], .int .i64 c, .int .i64 r] w fun e w' => ∃ v, e = .returned v ∧ w'.ownsRow w.heap.size 24 3 v (sheetP x y c r).length (bcellsL (sheetP x y c r)) ∧ Below w.heap.size w w' := by
  obtain ⟨hs, hm, hf1, hf2⟩ := sheetE_zero hE
  obtain ⟨hk, c1, c2, r1, r2⟩ := sheet1_zero hs
  obtain ⟨x1, x2, y1, y2⟩ := knotE_zero hk
  have hev : (x + y) % 2 = 0 := by
    unfold knotE at hk
    split at hk
    · cases hk
    · split at hk
      · cases hk
      · split at hk
        · rename_i h; simpa [evenB] using h
        · cases hk
  have fx := farB_no hf1
  have fy := farB_no hf2
  have hcn : c ≤ 256 := by omega
  have hrn : r ≤ 256 := by omega
  obtain ⟨ib, hib, hb0, hb01, hb02⟩ := info_parts Tryz.info24
  have HIB := Lib.hid hib
  have HB0 := Lib.hid hb0
  have HB1 := Lib.hid hb01
  have HB2 := Lib.hid hb02
  have HEV := Lib.hid hev
  obtain ⟨w1, hw1, q0, q1, hb1, hz1⟩ := box2 w (.int .i64 x) (.int .i64 y) 26
  have HW1 := Lib.hid hw1
  clear hw1 hE hs hk hf1 hf2 hib hb0 hb01 hb02 hev
  have Q0 : ∀ {W : World}, Below w1.heap.size w1 W → W.cell? ⟨w.heap.size, 0, none⟩ = some (.int .i64 x) := fun hb => (hb.cell (p := ⟨w.heap.size, 0, none⟩) hz1).trans q0
  have Q1 : ∀ {W : World}, Below w1.heap.size w1 W → W.cell? ⟨w.heap.size, 1, none⟩ = some (.int .i64 y) := fun hb => (hb.cell (p := ⟨w.heap.size, 1, none⟩) hz1).trans q1
  have m1 : IntKind.i64.wrap (2 * (c : Int)) = 2 * (c : Int) := by rw [IntKind.wrap_i64]; omega
  have m2 : IntKind.i64.wrap (x + 2 * (c : Int)) = x + 2 * (c : Int) := by rw [IntKind.wrap_i64]; omega
  have m3 : IntKind.i64.wrap (y + (r : Int)) = y + (r : Int) := by rw [IntKind.wrap_i64]; omega
  go_enter Tryz.func40, Tryz.ntmps40
  go_wp2_with fail
  rw [← HW1.out]
  go_wp2_with fail
  go_loopw [7, 8] (fun v yv wr => ∃ j : Nat, j ≤ r ∧ yv = .int .i64 (y + j) ∧ Hid (ShRow w1.heap.size v (sheetP x y c j) wr) ∧ Below w1.heap.size w1 wr) (fun _ yv _ => r - (intOf yv - y).toNat)
  case atStart => exact ⟨0, Nat.zero_le _, by simp, Lib.hid ⟨rfl, .inl ⟨rfl, rfl⟩⟩, Below.refl _ _⟩
  case round =>
    obtain ⟨j, hj, rfl, hown, hb⟩ := hrel
    have p0 := Q0 hb
    have p1 := Q1 hb
    by_cases hlt : j < r
    · have g1 : y + (j : Int) < y + (r : Int) := by omega
      go_wp2_with fail
      go_loopw [7, 9] (fun v xv wi => ∃ t : Nat, t ≤ 2 * c + 1 ∧ xv = .int .i64 (x + t) ∧ Hid (ShRow w1.heap.size v (sheetP x y c j ++ rowR x y c j t) wi) ∧ Below w1.heap.size w1 wi) (fun _ xv _ => 2 * c + 1 - (intOf xv - x).toNat)
      case atStart => exact ⟨0, Nat.zero_le _, by simp, Lib.hid (by simpa [rowR] using hown.out), hb⟩
      case round =>
        obtain ⟨t, ht, rfl, hown2, hb2⟩ := hrel
        have s0 := Q0 hb2
        have s1 := Q1 hb2
        by_cases hlt2 : t < 2 * c + 1
        · have g2 : x + (t : Int) ≤ x + 2 * (c : Int) := by omega
          go_wp2_with fail
          go_loopw [7, 10] (fun v sv wk => ∃ s : Nat, s ≤ 2 ∧ sv = .int .i64 (2 * (s : Int) - 1) ∧ Hid (ShRow w1.heap.size v (sheetP x y c j ++ rowR x y c j t ++ sidR x y c j t s) wk) ∧ Below w1.heap.size w1 wk) (fun _ sv _ => 4 - (intOf sv).toNat)
          case atStart => exact ⟨0, Nat.zero_le _, by simp, Lib.hid (by rw [sidR_zero, List.append_nil]; exact hown2.out), hb2⟩
          case round =>
            obtain ⟨s, hs, rfl, hown3, hb3⟩ := hrel
            have t0 := Q0 hb3
            have t1 := Q1 hb3
            have hbz := hb3.size
            have hlen : (sheetP x y c j ++ rowR x y c j t ++ sidR x y c j t s).length ≤ 200000 := by
              rw [List.length_append, List.length_append, sheetP_length]
              have a1 := rowR_len x y c j t
              have a2 := sidR_len x y c j t s
              have a3 : c * j ≤ 256 * 256 := Nat.mul_le_mul hcn (by omega)
              omega
            generalize hLL : sheetP x y c j ++ rowR x y c j t ++ sidR x y c j t s = L at hown3 hlen
            have HLL := Lib.hid hLL
            clear hLL
            by_cases hlt3 : s < 2
            · have g3 : 2 * (s : Int) - 1 ≤ 1 := by omega
              have n1 : IntKind.i64.wrap (x + (t : Int) + (2 * (s : Int) - 1)) = x + (t : Int) + (2 * (s : Int) - 1) := by rw [IntKind.wrap_i64]; omega
              have n2 : IntKind.i64.wrap (2 * (s : Int) - 1 + 2) = 2 * (s : Int) - 1 + 2 := by rw [IntKind.wrap_i64]; omega
              go_wp2_with fail
              refine (refEven (x + t) (y + j) _ (by omega) (by omega) (by omega) (by omega)).mono ?_
              rintro e w4 ⟨rfl, rfl⟩
              have skip : ∀ (_ : (t + j) % 2 ≠ 0 ∨ (s = 0 ∧ t = 0) ∨ (s = 1 ∧ 2 * c ≤ t)), Hid (sheetP x y c j ++ rowR x y c j t ++ sidR x y c j t (s + 1) = L) := fun h => Lib.hid (by rw [sidR_skip h]; exact HLL.out)
              by_cases hpar : (t + j) % 2 = 0
              · rw [even_of HEV.out (decide_eq_true hpar)]
                by_cases h4 : x ≤ x + (t : Int) + (2 * (s : Int) - 1)
                · by_cases h5 : x + (t : Int) + (2 * (s : Int) - 1) ≤ x + 2 * (c : Int)
                  · have HAD := Lib.hid (show sheetP x y c j ++ rowR x y c j t ++ sidR x y c j t (s + 1) = L ++ [⟨x + t, y + j, 2 * (s : Int) - 1⟩] by rw [sidR_add hpar (by omega), ← List.append_assoc, HLL.out])
                    clear skip
                    go_wp2_with (at_builtin; refine wpList_append_own _ rfl _ _ 22 rfl w1.heap.size 24 ib (.agg #[.int .i64 0, .int .i64 0, .int .i64 0]) 3 24 Tryz.underlying22 HIB.out HB0.out HB1.out HB2.out rfl (by decide) _ _ _ rfl (World.ownsRow.alloc hown3.out _) ⟨wr.heap.size, 0, none⟩ 1 1 [.int .i64 (x + t), .int .i64 (y + j), .int .i64 (2 * (s : Int) - 1)] rfl rfl (three_new _ _ _ _ _) ?c2 ?c3 ?c4 ?c5 ?_)
                    case c2 => intro u hu; simp at hu; rcases hu with rfl | rfl | rfl <;> rfl
                    case c3 => unfold maxLen; omega
                    case c4 => omega
                    case c5 => simp; omega
                    intro v' w6 hown6 hgrow6 _
                    have B6 : Below w1.heap.size w1 w6 := (hb3.alloc hbz _).grown hgrow6 (by simp; omega) (ownsRow_base hown3.out)
                    have HO6 := Lib.hid hown6
                    clear hown6 hgrow6
                    go_wp2
                    go_roundw
                    case rel => exact ⟨s + 1, by omega, by go_num, Lib.hid (by rw [HAD.out]; unfold ShRow; rw [List.length_append, bcellsL_snoc]; exact HO6.out), B6⟩
                    case measure => simp [intOf]; omega
                  · have HSK := skip (by omega)
                    clear skip
                    go_wp2
                    go_roundw
                    case rel => exact ⟨s + 1, by omega, by go_num, Lib.hid (by rw [HSK.out]; exact hown3.out), hb3⟩
                    case measure => simp [intOf]; omega
                · have HSK := skip (by omega)
                  clear skip
                  go_wp2
                  go_roundw
                  case rel => exact ⟨s + 1, by omega, by go_num, Lib.hid (by rw [HSK.out]; exact hown3.out), hb3⟩
                  case measure => simp [intOf]; omega
              · rw [even_of HEV.out (decide_eq_false hpar)]
                have HSK := skip (.inl hpar)
                clear skip
                go_wp2
                go_roundw
                case rel => exact ⟨s + 1, by omega, by go_num, Lib.hid (by rw [HSK.out]; exact hown3.out), hb3⟩
                case measure => simp [intOf]; omega
            · have g3 : ¬ 2 * (s : Int) - 1 ≤ 1 := by omega
              obtain rfl : s = 2 := by omega
              have HLL2 := Lib.hid (show sheetP x y c j ++ rowR x y c j (t + 1) = L by rw [rowR_succ, ← sidR_two, ← List.append_assoc]; exact HLL.out)
              go_wp2
              go_roundw
              case rel => exact ⟨t + 1, by omega, by go_num, Lib.hid (by rw [HLL2.out]; exact hown3.out), hb3⟩
              case measure => simp [intOf]; omega
        · have g2 : ¬ x + (t : Int) ≤ x + 2 * (c : Int) := by omega
          obtain rfl : t = 2 * c + 1 := by omega
          go_wp2
          go_roundw
          case rel => exact ⟨j + 1, by omega, by go_num, Lib.hid (by rw [sheetP_succ, ← rowR_eq]; exact hown2.out), hb2⟩
          case measure => simp [intOf]; omega
    · have g1 : ¬ y + (j : Int) < y + (r : Int) := by omega
      obtain rfl : j = r := by omega
      go_wp2
      go_ret
      exact ⟨_, rfl, ownsRow_mono hown.out hb1.size, hb1.trans (hb.mono hb1.size)⟩
end Go.Proofs.YtdeplhihcifmeaaGreatDoor

/- Contracts of the reference's First at three errors, and of CheckSheet. -/
namespace Go.Proofs.YtdeplhihcifmeaaGreatDoor
open Go.RowKit

set_option maxHeartbeats 400000 in
theorem refFirst (b c : Nat) (es : List Int) (w : World) (hn : es.length ≤ 100) (hc : ∀ i (h : i < es.length), w.cell? ⟨b, i, none⟩ = some (.int .i64 es[i])) :
    Calls Tryz.prog 93 #[.slice (some ⟨b, 0, none⟩) es.length c] w fun e w' => e = .returned (.int .i64 (firstE es)) ∧ w = w' := by
  have HC := Lib.hid hc
  have hn' : (es.length : Int) ≤ 100 := by omega
  clear hc
  go_enter Tryz.func93, Tryz.ntmps93
  go_wp2_with fail
  go_loop [2, 3] (fun _ i => ∃ k : Nat, k ≤ es.length ∧ i = .int .i64 k ∧ firstE es = firstE (es.drop k)) (fun _ i => es.length - (intOf i).toNat)
  case atStart => exact ⟨0, Nat.zero_le _, rfl, rfl⟩
  case round =>
    obtain ⟨k, hk, rfl, he⟩ := hrel
    have HE := Lib.hid he
    clear he
    by_cases hlt : k < es.length
    · have hcell := HC.out k hlt
      by_cases hz : es[k] = 0
      · have HF := Lib.hid (show firstE (es.drop k) = firstE (es.drop (k + 1)) by
          rw [List.drop_eq_getElem_cons hlt]
          simp only [firstE, hz, if_true])
        rw [hz] at hcell
        clear hz
        go_wp2
        go_round
        case rel => exact ⟨k + 1, by omega, by go_num, HE.out.trans HF.out⟩
        case measure => simp [intOf]; omega
      · have HF := Lib.hid (show firstE (es.drop k) = es[k] by
          rw [List.drop_eq_getElem_cons hlt]
          simp only [firstE, if_neg hz])
        have hz1 : (es[k] != 0) = true := by rw [bne_iff_ne]; exact hz
        clear hz
        go_wp2
        go_ret
        exact ⟨ret_i (HE.out.trans HF.out).symm, rfl⟩
    · obtain rfl : k = es.length := by omega
      have HF := Lib.hid (show firstE (es.drop es.length) = 0 by rw [List.drop_length]; rfl)
      go_wp2
      go_ret
      exact ⟨ret_i (HE.out.trans HF.out).symm, rfl⟩

theorem refFirst3 (g d : Nat) (a b c : Int) (t : TypeId) (w : World) (h : w.heap[g]? = some (.cells #[.int .i64 a, .int .i64 b, .int .i64 c] t (0, 0))) :
    Calls Tryz.prog 93 #[.slice (some ⟨g, 0, none⟩) 3 d] w fun e w' => e = .returned (.int .i64 (firstE [a, b, c])) ∧ w = w' :=
  refFirst g d [a, b, c] w (by simp) (three_err h)
theorem refSide (n : Int) (w : World) : Calls Tryz.prog 75 #[.int .i64 n, .int .i64 1, .int .i64 256] w fun e w' => e = .returned (.int .i64 (sideR n)) ∧ w = w' := refCheckRange n 1 256 w
set_option maxHeartbeats 1000000 in
set_option maxRecDepth 100000 in
theorem refCheckSheet (x y c r : Int) (w : World) :
    Calls Tryz.prog 38 #[.agg #[.int .i64 x, .int .i64 y], .int .i64 c, .int .i64 r] w fun e w' => e = .returned (.int .i64 (sheetE x y c r)) ∧ Below w.heap.size w w' := by
  obtain ⟨w1, hw1, h0, h1, hb1, hz1⟩ := box2 w (.int .i64 x) (.int .i64 y) 26
  have HW1 := Lib.hid hw1
  clear hw1
  by_cases hs : sheet1 x y c r = 0
  · obtain ⟨hk, c1, c2, r1, r2⟩ := sheet1_zero hs
    obtain ⟨x1, x2, y1, y2⟩ := knotE_zero hk
    have HS2 : firstE [knotE x y, sideR c, sideR r] = 0 := hs
    have HSF := Lib.hid HS2
    have hm1 : -200000 ≤ 2 * c * r := by
      have := Int.mul_le_mul (a := 2 * c) (c := 512) (b := r) (d := 256) (by omega) (by omega) (by omega) (by omega)
      have := Int.mul_nonneg (a := 2 * c) (b := r) (by omega) (by omega)
      omega
    have hm2 : 2 * c * r ≤ 200000 := by
      have := Int.mul_le_mul (a := 2 * c) (c := 512) (b := r) (d := 256) (by omega) (by omega) (by omega) (by omega)
      omega
    have HSH := Lib.hid (show sheetE x y c r = (if 4096 < 2 * c * r then 5 else if farB (x + 2 * c) || farB (y + r) then 3 else 0) by simp only [sheetE, hs, if_true])
    clear HS2 hs hk
    go_enter Tryz.func38, Tryz.ntmps38
    go_wp2_with fail
    rw [← HW1.out]
    refine (refCheckKnot x y _).mono ?_
    rintro e w2 ⟨rfl, hb2⟩
    go_wp2_with fail
    refine (refSide c _).mono ?_
    rintro e w3 ⟨rfl, rfl⟩
    go_wp2_with fail
    refine (refSide r _).mono ?_
    rintro e w4 ⟨rfl, rfl⟩
    go_wp2_with fail
    refine (refFirst3 _ _ (knotE x y) (sideR c) (sideR r) 3 _ (by exact heap_alloc_new _ _)).mono ?_
    rintro e w5 ⟨rfl, rfl⟩
    rw [HSF.out]
    have hb3 : Below w.heap.size w (w2.alloc (.cells #[.int .i64 (knotE x y), .int .i64 (sideR c), .int .i64 (sideR r)] 3)) := (hb1.trans (hb2.mono (by omega))).alloc (by have := hb2.size; omega) _
    have hb4 : Below w1.heap.size w1 (w2.alloc (.cells #[.int .i64 (knotE x y), .int .i64 (sideR c), .int .i64 (sideR r)] 3)) := hb2.alloc hb2.size _
    generalize w2.alloc (.cells #[.int .i64 (knotE x y), .int .i64 (sideR c), .int .i64 (sideR r)] 3) = w6 at *
    have e0 := (hb4.cell (p := ⟨w.heap.size, 0, none⟩) hz1).trans h0
    have e1 := (hb4.cell (p := ⟨w.heap.size, 1, none⟩) hz1).trans h1
    by_cases hbig : 4096 < 2 * c * r
    · have HE := Lib.hid (HSH.out.trans (if_pos hbig))
      clear HSH
      go_wp2_with fail
      go_ret
      exact ⟨ret_i HE.out.symm, hb3⟩
    · have HE := Lib.hid (HSH.out.trans (if_neg hbig))
      clear HSH
      cases hf1 : farB (x + 2 * c)
      · cases hf2 : farB (y + r)
        all_goals
          have HF1 := Lib.hid hf1
          have HF2 := Lib.hid hf2
          rw [hf1, hf2] at HE
          clear hf1 hf2
          go_wp2_with fail
          refine (refFar _ _).mono ?_
          rintro e w7 ⟨rfl, rfl⟩
          rw [HF1.out]
          go_wp2_with fail
          refine (refFar _ _).mono ?_
          rintro e w7 ⟨rfl, rfl⟩
          rw [HF2.out]
          go_wp2_with fail
          go_ret
          exact ⟨ret_i HE.out.symm, hb3⟩
      · have HF1 := Lib.hid hf1
        rw [hf1] at HE
        clear hf1
        go_wp2_with fail
        refine (refFar _ _).mono ?_
        rintro e w7 ⟨rfl, rfl⟩
        rw [HF1.out]
        go_wp2_with fail
        go_ret
        exact ⟨ret_i HE.out.symm, hb3⟩
  · have hs1 : (sheet1 x y c r == 0) = false := by simpa using hs
    have HE := Lib.hid (show sheetE x y c r = sheet1 x y c r by simp [sheetE, hs])
    have HS1 := Lib.hid hs1
    clear hs hs1
    go_enter Tryz.func38, Tryz.ntmps38
    go_wp2_with fail
    rw [← HW1.out]
    refine (refCheckKnot x y _).mono ?_
    rintro e w2 ⟨rfl, hb2⟩
    go_wp2_with fail
    refine (refSide c _).mono ?_
    rintro e w3 ⟨rfl, rfl⟩
    go_wp2_with fail
    refine (refSide r _).mono ?_
    rintro e w4 ⟨rfl, rfl⟩
    go_wp2_with fail
    refine (refFirst3 _ _ (knotE x y) (sideR c) (sideR r) 3 _ (by exact heap_alloc_new _ _)).mono ?_
    rintro e w5 ⟨rfl, rfl⟩
    have HS2 : firstE [knotE x y, sideR c, sideR r] = sheet1 x y c r := rfl
    rw [HS2]
    generalize sheet1 x y c r = e1 at *
    have hs1 := HS1.out
    go_wp2_with fail
    go_ret
    exact ⟨ret_i HE.out.symm, (hb1.trans (hb2.mono (by omega))).alloc (by have := hb2.size; omega) _⟩
end Go.Proofs.YtdeplhihcifmeaaGreatDoor

/- Sheet with an error; net; the law of NettingSheets. -/
namespace Go.Proofs.YtdeplhihcifmeaaGreatDoor
open Go.RowKit Go.Shelf Ck

def BadPost (E : Int) (w : World) (e : Ending) (w' : World) : Prop := e = .returned (.tuple #[.slice none 0 0, .int .i64 E]) ∧ Below w.heap.size w w'
set_option maxHeartbeats 2000000 in
set_option maxRecDepth 100000 in
theorem netSheetBad (x y c r E : Int) (w : World) (hE : sheetE x y c r = E) (hne : E ≠ 0) :
    Calls Tryz.prog 39 #[.agg #[.int .i64 x, .int .i64 y], .int .i64 c, .int .i64 r] w (BadPost E w) := by
  obtain ⟨w1, hw1, h0, h1, hb1, hz1⟩ := box2 w (.int .i64 x) (.int .i64 y) 26
  have HW1 := Lib.hid hw1
  have hn0 : (E != 0) = true := by rw [bne_iff_ne]; exact hne
  clear hw1
  by_cases hs : sheet1 x y c r = 0
  · obtain ⟨hk, c1, c2, r1, r2⟩ := sheet1_zero hs
    obtain ⟨x1, x2, y1, y2⟩ := knotE_zero hk
    have HS := Lib.hid (show firstE [knotE x y, sideR c, sideR r] = 0 from hs)
    have hm1 : -200000 ≤ 2 * c * r := by
      have := Int.mul_nonneg (a := 2 * c) (b := r) (by omega) (by omega)
      omega
    have hm2 : 2 * c * r ≤ 200000 := by
      have := Int.mul_le_mul (a := 2 * c) (c := 512) (b := r) (d := 256) (by omega) (by omega) (by omega) (by omega)
      omega
    rw [sheetE, if_pos hs] at hE
    by_cases hm : 4096 < 2 * c * r
    · rw [if_pos hm] at hE
      subst hE
      clear hs hk
      go_enter Tryz.func39, Tryz.ntmps39
      go_wp2_with fail
      rw [← HW1.out]
      refine (netCheckKnot x y _).mono ?_
      rintro e w2 ⟨rfl, hb2⟩
      go_wp2_with fail
      refine (netSide c _).mono ?_
      rintro e w3 ⟨rfl, rfl⟩
      go_wp2_with fail
      refine (netSide r _).mono ?_
      rintro e w4 ⟨rfl, rfl⟩
      go_wp2_with fail
      refine (netFirst3 _ _ (knotE x y) (sideR c) (sideR r) 32 _ (by exact heap_alloc_new _ _)).mono ?_
      rintro e w5 ⟨rfl, rfl⟩
      rw [HS.out]
      have hb3 : Below w.heap.size w (w2.alloc (.cells #[.int .i64 (knotE x y), .int .i64 (sideR c), .int .i64 (sideR r)] 32)) := (hb1.trans (hb2.mono (by omega))).alloc (by have := hb2.size; omega) _
      go_wp2
      go_ret2
      exact ⟨rfl, hb3⟩
    · rw [if_neg hm] at hE
      have hfar : (farB (x + 2 * c) || farB (y + r)) = true := by
        cases hq : (farB (x + 2 * c) || farB (y + r))
        · rw [hq] at hE; exact absurd hE.symm hne
        · rfl
      rw [if_pos hfar] at hE
      subst hE
      have HP := Lib.hid (show firstE [placeE (x + 2 * c), placeE (y + r)] = 3 by
        cases ha : farB (x + 2 * c) <;> cases hb : farB (y + r) <;> simp [ha, hb] at hfar <;> simp [firstE, placeE, ha, hb])
      clear hs hk hfar
      go_enter Tryz.func39, Tryz.ntmps39
      go_wp2_with fail
      rw [← HW1.out]
      refine (netCheckKnot x y _).mono ?_
      rintro e w2 ⟨rfl, hb2⟩
      go_wp2_with fail
      refine (netSide c _).mono ?_
      rintro e w3 ⟨rfl, rfl⟩
      go_wp2_with fail
      refine (netSide r _).mono ?_
      rintro e w4 ⟨rfl, rfl⟩
      go_wp2_with fail
      refine (netFirst3 _ _ (knotE x y) (sideR c) (sideR r) 32 _ (by exact heap_alloc_new _ _)).mono ?_
      rintro e w5 ⟨rfl, rfl⟩
      rw [HS.out]
      have hb3 : Below w.heap.size w (w2.alloc (.cells #[.int .i64 (knotE x y), .int .i64 (sideR c), .int .i64 (sideR r)] 32)) := (hb1.trans (hb2.mono (by omega))).alloc (by have := hb2.size; omega) _
      have hb4 : Below w1.heap.size w1 (w2.alloc (.cells #[.int .i64 (knotE x y), .int .i64 (sideR c), .int .i64 (sideR r)] 32)) := hb2.alloc hb2.size _
      generalize w2.alloc (.cells #[.int .i64 (knotE x y), .int .i64 (sideR c), .int .i64 (sideR r)] 32) = w6 at *
      have e0 := (hb4.cell (p := ⟨w.heap.size, 0, none⟩) hz1).trans h0
      have e1 := (hb4.cell (p := ⟨w.heap.size, 1, none⟩) hz1).trans h1
      clear h0 h1
      go_wp2_with fail
      refine wp_region_still_tail 11 (by kernel_rfl) (by kernel_rfl) ?_
      simp only [List.take_succ_cons, List.take_zero, List.drop_succ_cons, List.drop_zero]
      still_step
      still_step
      still_step
      still_step
      still_step
      still_call (Calls.mono (netCheckPlace _ _) fun _ _ h => ⟨h.1, h.2.symm⟩)
      still_step
      still_step
      still_step
      still_step
      still_call (Calls.mono (netCheckPlace _ _) fun _ _ h => ⟨h.1, h.2.symm⟩)
      refine wpStill_nil ?_
      change wpList _ _ _ _ _ w6.drew
      go_wp2_with fail
      refine (netFirst2 _ _ (placeE (x + 2 * c)) (placeE (y + r)) 32 _ (by exact heap_alloc_new _ _)).mono ?_
      rintro e w7 ⟨rfl, rfl⟩
      rw [HP.out]
      have hz6 := hb4.size
      have hb5 : Below w.heap.size w (w6.alloc (.cells #[.int .i64 (placeE (x + 2 * c)), .int .i64 (placeE (y + r))] 32)).drew := below_drew (hb3.alloc (by omega) _)
      go_wp2
      go_ret2
      exact ⟨rfl, hb5⟩
  · rw [sheetE, if_neg hs] at hE
    have HS := Lib.hid (show firstE [knotE x y, sideR c, sideR r] = E from hE)
    clear hs hE
    go_enter Tryz.func39, Tryz.ntmps39
    go_wp2_with fail
    rw [← HW1.out]
    refine (netCheckKnot x y _).mono ?_
    rintro e w2 ⟨rfl, hb2⟩
    go_wp2_with fail
    refine (netSide c _).mono ?_
    rintro e w3 ⟨rfl, rfl⟩
    go_wp2_with fail
    refine (netSide r _).mono ?_
    rintro e w4 ⟨rfl, rfl⟩
    go_wp2_with fail
    refine (netFirst3 _ _ (knotE x y) (sideR c) (sideR r) 32 _ (by exact heap_alloc_new _ _)).mono ?_
    rintro e w5 ⟨rfl, rfl⟩
    rw [HS.out]
    have hb3 : Below w.heap.size w (w2.alloc (.cells #[.int .i64 (knotE x y), .int .i64 (sideR c), .int .i64 (sideR r)] 32)) := (hb1.trans (hb2.mono (by omega))).alloc (by have := hb2.size; omega) _
    go_wp2
    go_ret2
    exact ⟨rfl, hb3⟩
theorem lwNetBad (E : Int) (w : World) (h : E ≠ 0) : Calls Tryz.prog 28 #[.slice none 0 0, .int .i64 E, .int .i64 E, .slice none 0 0] w fun e w' => e = .returned (.bool true) ∧ Below w.heap.size w w' := by
  have h1 : (E != 0) = true := by rw [bne_iff_ne]; exact h
  clear h
  go_enter Tryz.func28, Tryz.ntmps28
  go_wp2
  go_ret
  exact ⟨by simp, Below.refl _ _⟩
theorem lwNetOk (A A' : Option Addr) (c c' : Nat) (l : List Bar) (w : World) (hl : l.length ≤ 4096) (h : OKS w A c l) (h' : OKS w A' c' l) :
    Calls Tryz.prog 28 #[.slice A l.length c, .int .i64 0, .int .i64 0, .slice A' l.length c'] w fun e w' => e = .returned (.bool true) ∧ Below w.heap.size w w' := by
  have H1 := Lib.hid h
  have H2 := Lib.hid h'
  clear h h'
  go_enter Tryz.func28, Tryz.ntmps28
  go_wp2_with fail
  refine (refSameNet A A' c c' l _ hl H1.out.2.2.2 H2.out.2.2.2).mono ?_
  rintro e w1 ⟨rfl, hb⟩
  go_wp2
  go_ret
  exact ⟨by simp, hb⟩
set_option maxHeartbeats 4000000 in
set_option maxRecDepth 100000 in
theorem lawSheets (x y c r : Int) (w : World) (hL : LaidLen w) : Calls Tryz.prog 5 #[.agg #[.int .i64 x, .int .i64 y], .int .i64 c, .int .i64 r] w fun e w' => e = .returned (.bool true) ∧ Below w.heap.size w w' := by
  obtain ⟨w1, hw1, h0, h1, hb1, hz1⟩ := box2 w (.int .i64 x) (.int .i64 y) 26
  have HW1 := Lib.hid hw1
  have HLL := Lib.hid hL
  have Q0 : ∀ {W : World}, Below w1.heap.size w1 W → W.cell? ⟨w.heap.size, 0, none⟩ = some (.int .i64 x) := fun hb => (hb.cell (p := ⟨w.heap.size, 0, none⟩) hz1).trans h0
  have Q1 : ∀ {W : World}, Below w1.heap.size w1 W → W.cell? ⟨w.heap.size, 1, none⟩ = some (.int .i64 y) := fun hb => (hb.cell (p := ⟨w.heap.size, 1, none⟩) hz1).trans h1
  have BW : Below w1.heap.size w1 w1 := Below.refl _ _
  have fin : ∀ {W : World}, Below w1.heap.size w1 W → Below w.heap.size w W := fun hb => hb1.trans (hb.mono hb1.size)
  clear hw1 hL
  by_cases hE : sheetE x y c r = 0
  · obtain ⟨hs, hm, hf1, hf2⟩ := sheetE_zero hE
    obtain ⟨hk, c1, c2, r1, r2⟩ := sheet1_zero hs
    obtain ⟨c, rfl⟩ : ∃ k : Nat, c = (k : Int) := ⟨c.toNat, by omega⟩
    obtain ⟨r, rfl⟩ : ∃ k : Nat, r = (k : Int) := ⟨r.toNat, by omega⟩
    have hm1 : (-9223372036854775808 : Int) ≤ 2 * (c : Int) * (r : Int) := by
      have := Int.mul_nonneg (a := 2 * (c : Int)) (b := (r : Int)) (by omega) (by omega)
      omega
    have m1 : IntKind.i64.wrap (2 * (c : Int)) = 2 * (c : Int) := by rw [IntKind.wrap_i64]; omega
    have m2 : IntKind.i64.wrap (2 * (c : Int) * (r : Int)) = 2 * (c : Int) * (r : Int) := by rw [IntKind.wrap_i64]; omega
    have HE := Lib.hid hE
    by_cases hbig : 200 < 2 * (c : Int) * (r : Int)
    · clear hE hs hk hf1 hf2
      go_enter Tryz.func5, Tryz.ntmps5
      go_wp2_with fail
      rw [← HW1.out]
      go_wp2_with fail
      refine (refCheckSheet x y c r _).mono ?_
      rintro e w2 ⟨rfl, hb2⟩
      rw [HE.out]
      replace BW := BW.trans hb2
      clear hb2
      go_wp2_with fail
      refine (awake1 _ (HLL.out.below (fin BW) HLL.out.lt)).mono ?_
      rintro e w3 ⟨rfl, hb3⟩
      replace BW := BW.trans (hb3.mono BW.size)
      clear hb3
      go_wp2_with fail
      refine (awake1 _ (HLL.out.below (fin BW) HLL.out.lt)).mono ?_
      rintro e w4 ⟨rfl, hb4⟩
      replace BW := BW.trans (hb4.mono BW.size)
      clear hb4
      go_wp2
      go_ret
      exact ⟨rfl, fin BW⟩
    · obtain ⟨l, hl⟩ : ∃ l, sheetP x y c r = l := ⟨_, rfl⟩
      have hll : l.length ≤ 4096 := by
        rw [← hl, sheetP_length]
        have : (2 * (c * r) : Nat) = ((2 * (c * r) : Nat) : Int) := rfl
        have e : ((2 * (c * r) : Nat) : Int) = 2 * (c : Int) * (r : Int) := by push_cast; rw [Int.mul_assoc]
        omega
      clear hs hk hf1 hf2 hE
      go_enter Tryz.func5, Tryz.ntmps5
      go_wp2_with fail
      rw [← HW1.out]
      go_wp2_with fail
      refine (refCheckSheet x y c r _).mono ?_
      rintro e w2 ⟨rfl, hb2⟩
      rw [HE.out]
      replace BW := BW.trans hb2
      clear hb2
      go_wp2_with fail
      refine (awake1 _ (HLL.out.below (fin BW) HLL.out.lt)).mono ?_
      rintro e w3 ⟨rfl, hb3⟩
      replace BW := BW.trans (hb3.mono BW.size)
      clear hb3
      have s0 := Q0 BW
      have s1 := Q1 BW
      go_wp2_with fail
      refine (netSheet x y c r _ HE.out).mono ?_
      rintro e w4 ⟨v, rfl, hrow, hb4⟩
      rw [hl] at hrow
      obtain ⟨a4, c4, rfl, o4⟩ := own_oks hrow
      have O4 := Lib.hid o4
      replace BW := BW.trans (hb4.mono BW.size)
      clear hb4 hrow o4 s0 s1
      have s0 := Q0 BW
      have s1 := Q1 BW
      go_wp2_with fail
      refine (refSheet x y c r _ HE.out).mono ?_
      rintro e w5 ⟨v5, rfl, hrow5, hb5⟩
      rw [hl] at hrow5
      obtain ⟨a5, c5, rfl, o5⟩ := own_oks hrow5
      replace O4 := Lib.hid (O4.out.below hb5)
      have O5 := Lib.hid o5
      replace BW := BW.trans (hb5.mono BW.size)
      clear hb5 hrow5 o5 s0 s1
      go_wp2_with fail
      refine (lwNetOk a4 a5 c4 c5 l _ hll O4.out O5.out).mono ?_
      rintro e w6 ⟨rfl, hb6⟩
      replace BW := BW.trans (hb6.mono BW.size)
      clear hb6
      go_wp2
      go_ret
      exact ⟨rfl, fin BW⟩
  · obtain ⟨E, hE2⟩ : ∃ E, sheetE x y c r = E := ⟨_, rfl⟩
    have hne : E ≠ 0 := by rw [← hE2]; exact hE
    have HE := Lib.hid hE2
    have HNE := Lib.hid hne
    have e0 : (E == 0) = false := by rw [beq_eq_false_iff_ne]; exact hne
    clear hE hE2 hne
    go_enter Tryz.func5, Tryz.ntmps5
    go_wp2_with fail
    rw [← HW1.out]
    go_wp2_with fail
    refine (refCheckSheet x y c r _).mono ?_
    rintro e w2 ⟨rfl, hb2⟩
    rw [HE.out]
    replace BW := BW.trans hb2
    clear hb2
    go_wp2_with fail
    refine (awake1 _ (HLL.out.below (fin BW) HLL.out.lt)).mono ?_
    rintro e w3 ⟨rfl, hb3⟩
    replace BW := BW.trans (hb3.mono BW.size)
    clear hb3
    have s0 := Q0 BW
    have s1 := Q1 BW
    go_wp2_with fail
    refine (netSheetBad x y c r E _ HE.out HNE.out).mono ?_
    rintro e w4 ⟨rfl, hb4⟩
    replace BW := BW.trans (hb4.mono BW.size)
    clear hb4 s0 s1
    go_wp2_with fail
    refine (lwNetBad E _ HNE.out).mono ?_
    rintro e w5 ⟨rfl, hb5⟩
    replace BW := BW.trans (hb5.mono BW.size)
    clear hb5
    go_wp2
    go_ret
    exact ⟨rfl, fin BW⟩
end Go.Proofs.YtdeplhihcifmeaaGreatDoor

/- A knot as an argument. -/
namespace Go.Proofs.YtdeplhihcifmeaaGreatDoor
open Go.ChangeShapes Go.WideShapes Go.ChangeAt Go.WideMaps Go.WideElems Go.RowKit

set_option maxRecDepth 100000 in
theorem open_knot {w : World} {r : Reach} {b0 : Nat} {v : Value} (h : Value.okWide Tryz.prog w r b0 26 v) : ∃ x y, v = .agg #[.int .i64 x, .int .i64 y] := by
  have hS : Tryz.prog.underlying 26 = some (.struct (Tryz.prog.fieldsOf 26)) := by kernel_rfl
  have hC : Tryz.prog.cellsOf 26 = 2 := by kernel_rfl
  simp only [Value.okWide, hS] at h
  obtain ⟨cs, rfl, hsz, hr⟩ := h
  rw [hC] at hsz
  obtain ⟨ts, hts, -, hrow⟩ := hr
  have ht : Tryz.prog.cellTypes Tryz.prog.depth 26 = some [3, 3] := by kernel_rfl
  rw [ht] at hts
  cases hts
  obtain ⟨l⟩ := cs
  match l, hsz with
  | [c0, c1], _ =>
    obtain ⟨u0, hu0, h0⟩ := hrow 0 c0 rfl
    obtain ⟨u1, hu1, h1⟩ := hrow 1 c1 rfl
    simp at hu0 hu1
    subst hu0 hu1
    obtain ⟨a, rfl, -⟩ := cell_intT Tryz.underlying3 h0
    obtain ⟨b, rfl, -⟩ := cell_intT Tryz.underlying3 h1
    exact ⟨a, b, rfl⟩
end Go.Proofs.YtdeplhihcifmeaaGreatDoor

namespace Go.Proofs.YtdeplhihcifmeaaGreatDoor
open Go.ChangeShapes Go.WideShapes Go.ChangeAt Go.WideMaps Go.WideElems Go.RowKit

set_option maxRecDepth 100000 in
theorem sheets_lifted (os : Os) (started : os.Started) (H : Type) (enc : TypeId × Value → H) :
    ReturnsInHanded {} Tryz.checked os 5 .any (fun w args => (Rows.nettingSheetsSpec.pre enc Tryz.prog Tryz.f5 [] false w args ∧ laidMetH Tryz.prog naLaid w) ∧ sizedMet enc Tryz.prog Tryz.f5 (OpenSpec.ofChange Rows.nettingSheetsSpec) false w args)
      (Rows.nettingSheetsSpec.post enc Tryz.prog Tryz.f5 false true false false) := by
  refine returns_and_shaped (C := Tryz.checked) (X := fun w _ => laidMetH Tryz.prog naLaid w) (fun _ _ _ hh h => h.of_heap hh) Tryz.ownT started (by kernel_rfl) Tryz.func5
    (ChangeSpec.witness_shaped (enc := enc) (C := Tryz.checked) (os := os) (X := fun w _ => laidMetH Tryz.prog naLaid w) false (World.laidAll Tryz.prog os naLaid) #[.agg #[.int .i64 0, .int .i64 0], .int .i64 0, .int .i64 0] 8 (World.laidAll_os _ _ _) (World.shaped_of_ZipB (by kernel_rfl) (by kernel_rfl)) (by kernel_rfl) (by kernel_rfl) (by kernel_rfl) (door_met os _)) ?_
  intro W base args ds gs before hval0 hW _ hSh
  have hval : ∀ (j : Nat) t v, Tryz.f5.params[j]? = some t → args[j]? = some v → Value.okWide Tryz.prog W .any base t v := hval0
  have hW' := hW
  obtain ⟨p, q, hA0, hV, rfl, hfz, hnd⟩ := hW
  have hA : DataW.TrodAll enc Tryz.prog W 0 (fun _ => true) true Tryz.f5.params.toList args.toList ds p := hA0
  rw [Tryz.params5] at hA hval
  obtain ⟨v0, v1, v2, d0, d1, d2, p0, p1, p2, rfl, rfl, rfl, h0, h1, h2⟩ := trodAll_three hA
  obtain ⟨rfl, rfl⟩ := trodVars_none hV
  clear hA0 hval0
  simp only [List.append_nil] at hW'
  have hlt : ∀ x ∈ p0 ++ p1 ++ p2, x.block < W.heap.size := fun x hx => by simpa using hW'.lt x hx
  obtain ⟨z00, z01, rfl⟩ := open_knot (hval 0 26 v0 rfl rfl)
  obtain ⟨z10, rfl, b10, b11⟩ := open_intv (hval 1 3 v1 rfl rfl)
  obtain ⟨z20, rfl, b20, b21⟩ := open_intv (hval 2 3 v2 rfl rfl)
  have harg0 : ∀ (W' : World), Below W.heap.size W W' → DataW.Trod enc Tryz.prog W' 0 (fun b => decide (b < W.heap.size)) true 26 (.agg #[.int .i64 z00, .int .i64 z01]) d0 p0 :=
    fun W' hn => Below.trod Tryz.laidOutT (by kernel_rfl) (of_decide_eq_true (by kernel_rfl)) h0 hn (fun x hx => hlt x (List.mem_append_left _ (List.mem_append_left _ hx)))
  have harg1 : ∀ (W' : World), Below W.heap.size W W' → DataW.Trod enc Tryz.prog W' 0 (fun b => decide (b < W.heap.size)) true 3 (.int .i64 z10) d1 p1 :=
    fun W' hn => Below.trod Tryz.laidOutT (by kernel_rfl) (of_decide_eq_true (by kernel_rfl)) h1 hn (fun x hx => hlt x (List.mem_append_left _ (List.mem_append_right _ hx)))
  have harg2 : ∀ (W' : World), Below W.heap.size W W' → DataW.Trod enc Tryz.prog W' 0 (fun b => decide (b < W.heap.size)) true 3 (.int .i64 z20) d2 p2 :=
    fun W' hn => Below.trod Tryz.laidOutT (by kernel_rfl) (of_decide_eq_true (by kernel_rfl)) h2 hn (fun x hx => hlt x (List.mem_append_right _ hx))
  refine (lawSheets z00 z01 z10 z20 W (laidLen_shaped hSh)).mono fun e W' ⟨he, hb⟩ => ?_
  subst he
  refine ⟨_, rfl, _, _, _, [], p0 ++ p1 ++ p2, [], hW', ?_, by rw [List.append_assoc]; exact trodAll_mk3 (harg0 W' hb) (harg1 W' hb) (harg2 W' hb), rfl, hb.frame _, fun h => by cases h⟩
  exact trodAll_mk1 (shut_bool Tryz.underlying4 true)
set_option maxHeartbeats 8000000 in
theorem sheets_joined : joinedFacts Tryz.prog 5 Tryz.f5 Rows.nettingSheetsSpec Rows.nettingSheetsRow = true := by
  unfold joinedFacts
  simp only [Bool.and_eq_true]
  and_intros
  all_goals (as_aux_lemma => kernel_rfl)
theorem sheets_holds : Rows.NettingSheetsSaid :=
  OpenClaim.holds_of_wide 5 Tryz.f5 rfl rfl rfl rfl rfl rfl rfl ⟨rfl, rfl, rfl, rfl, rfl⟩ rfl rfl rfl rfl rfl (by kernel_rfl) Tryz.func5 sheets_joined
    (of_decide_eq_true (by kernel_rfl)) (by unfold Func.isWrapper; first | (rw [if_pos (by decide +kernel)]; kernel_rfl) | (rw [if_neg (by decide +kernel)]; exact ⟨rfl, rfl⟩))
    (fun os started H enc _ => sheets_lifted os started H enc)
theorem sheets_card : Rows.NettingSheetsCardSaid :=
  Claim7.holds_tied_plain_at .later [] [.data, .data, .data, .data, .sentinel, .sentinel, .pinned] true (true, "8055ad82f2fead5959431584a245c07a74ff17383831b3ab52567481a6c8d3f9") true
    sheets_holds (fun _ h => by cases h) (by kernel_rfl) (fun _ h => by cases h) nettingSheets_row_tie rfl ⟨rfl, rfl⟩ (by kernel_rfl) rfl
    (fun f fn hf hfn => by
      obtain rfl : f = 5 := Option.some.inj ((show Tryz.prog.funcNamed "codend/codendlaw01.NettingSheets" = some 5 by kernel_rfl).symm.trans hf) |>.symm
      obtain rfl : fn = Tryz.f5 := (Option.some.inj (Tryz.func5.symm.trans hfn)).symm
      exact ⟨by kernel_rfl, fun j t ht => by
        rw [Tryz.params5] at ht
        have hm : t ∈ [26, 3, 3] := by simpa using Array.mem_of_getElem? ht
        have hall : ([26, 3, 3].all fun u => !Tryz.prog.wantsStandIn u) = true := by kernel_rfl
        exact (show Tryz.prog.wantsStandIn t = false by simpa using List.all_eq_true.1 hall t hm)⟩)
    (by kernel_rfl)
#print axioms sheets_card
end Go.Proofs.YtdeplhihcifmeaaGreatDoor
