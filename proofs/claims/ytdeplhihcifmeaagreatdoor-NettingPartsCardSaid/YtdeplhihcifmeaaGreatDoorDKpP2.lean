/- Helpers: DKpP2. -/
import Derived.Test.YtdeplhihcifmeaaGreatDoorDKpP1
import Derived.Deep.RegionHeld3
import Derived.ProofKit
import Derived.Deep.Slices
import Derived.Deep.Fields
/- The reference's Degree and HasMesh. -/
namespace Go.Proofs.YtdeplhihcifmeaaGreatDoor
open Go.RowKit Go.Shelf Ck

def kgM4 (x y : Int) : List Bar := [⟨x, y - 1, -1⟩, ⟨x, y - 1, 1⟩, ⟨x - 1, y, 1⟩, ⟨x + 1, y, -1⟩]
theorem kgRow (w : World) (base : Nat) (hb : base ≤ w.heap.size) (t : TypeId) (l : List Bar) (hl : l.length = 4) : (w.alloc (.cells (bcellsL l).toArray t)).ownsRow base t 3 (.slice (some ⟨w.heap.size, 0, none⟩) 4 4) l.length (bcellsL l) :=
  ⟨by rw [bcellsL_length], .inr ⟨w.heap.size, 4, _, by rw [hl], hb, heap_alloc_new _ _, by omega, by unfold maxLen; omega, by simp [bcellsL_length, hl], by rw [List.take_of_length_le (by simp [bcellsL_length])]⟩⟩
theorem kgRow2 (w : World) (o : Obj) (base : Nat) (hb : base ≤ w.heap.size) (t : TypeId) (l : List Bar) (hl : l.length = 4) : ((w.alloc o).alloc (.cells (bcellsL l).toArray t)).ownsRow base t 3 (.slice (some ⟨w.heap.size + 1, 0, none⟩) 4 4) l.length (bcellsL l) := by
  have := kgRow (w.alloc o) base (by simp; omega) t l hl
  rwa [World.size_alloc] at this
set_option maxHeartbeats 4000000 in
set_option maxRecDepth 100000 in
theorem refBarsA (x y : Int) (w : World) (h1 : -200000 ≤ x) (h2 : x ≤ 200000) (h3 : -200000 ≤ y) (h4 : y ≤ 200000) :
    Calls Tryz.prog 141 #[.agg #[.int .i64 x, .int .i64 y]] w (OwnPost (kgM4 x y) w) := by
  go_enter Tryz.func141, Tryz.ntmps141
  go_wp2_with fail
  go_ret
  exact ⟨_, rfl, kgRow2 w _ w.heap.size (Nat.le_refl _) _ (kgM4 x y) rfl, ((Below.refl _ _).alloc (Nat.le_refl _) _).alloc (by simp) _⟩
set_option maxHeartbeats 4000000 in
set_option maxRecDepth 100000 in
theorem refHasMesh (A : Option Addr) (c : Nat) (l M : List Bar) (x y : Int) (w : World) (hM : kgM4 x y = M) (hl : l.length ≤ 4096) (h1 : -200000 ≤ x) (h2 : x ≤ 200000) (h3 : -200000 ≤ y) (h4 : y ≤ 200000) (h : OKS w A c l) :
    Calls Tryz.prog 104 #[.slice A l.length c, .agg #[.int .i64 x, .int .i64 y]] w fun e w' => e = .returned (.bool (M.all fun b => decide (b ∈ l))) ∧ Below w.heap.size w w' := by
  obtain ⟨w1, hw1, z0, z1, hb1, hz1⟩ := box2 w (.int .i64 x) (.int .i64 y) 143
  have HW1 := Lib.hid hw1
  have HR := Lib.hid (h.below hb1)
  have HMM := Lib.hid hM
  have h4l : M.length = 4 := by rw [← hM]; rfl
  clear h hw1 hM
  go_enter Tryz.func104, Tryz.ntmps104
  go_wp2_with fail
  rw [← HW1.out]
  go_wp2_with fail
  refine (refBarsA x y _ h1 h2 h3 h4).mono ?_
  rintro e w2 ⟨v2, rfl, hrow, hb2⟩
  rw [HMM.out] at hrow
  obtain ⟨a2, c2, rfl, ok2⟩ := own_oks hrow
  have HM := Lib.hid ok2
  have HR2 := Lib.hid (HR.out.below hb2)
  have B2 := Lib.hid (hb1.trans (hb2.mono hb1.size))
  clear hrow ok2 z0 z1 hb1 hb2
  go_wp2_with fail
  go_loopw [6] (fun i wr => ∃ j : Nat, j ≤ 4 ∧ i = .int .i64 j ∧ Hid (∀ q (hq : q < M.length), q < j → M[q] ∈ l) ∧ Below w2.heap.size w2 wr) (fun i _ => 4 - (intOf i).toNat)
  case atStart => exact ⟨0, Nat.zero_le _, rfl, Lib.hid (fun q _ h => by omega), Below.refl _ _⟩
  case round =>
    obtain ⟨j, hj, rfl, hall, hb⟩ := hrel
    by_cases hlt : j < 4
    · obtain ⟨b, off, hA, hB, hc⟩ := ((HM.out.below hb).2.2.2) (by omega)
      subst hA
      obtain ⟨d0, d1, d2⟩ := hc j (by omega)
      have hj1 : (j : Int) < 4 := by omega
      have hj0 : (0 : Int) ≤ (j : Int) := by omega
      have hj2 : (j : Int) < (M.length : Int) := by omega
      obtain ⟨k, hk⟩ : ∃ k, M[j]'(by omega) = k := ⟨_, rfl⟩
      rw [hk] at d0 d1 d2
      have HK := Lib.hid hk
      clear hc hk
      by_cases hin : k ∈ l
      · have HIN := Lib.hid (show decide (k ∈ l) = true by simpa using hin)
        have HAL := Lib.hid (show ∀ q (hq : q < M.length), q < j + 1 → M[q] ∈ l from fun q hq hqj => by
          rcases Nat.lt_or_ge q j with h1 | h1
          · exact hall.out q hq h1
          · obtain rfl : q = j := by omega
            rw [HK.out]; exact hin)
        clear hin
        go_wp2_with fail
        refine (refHasBar A c l k _ (by omega) (HR2.out.below hb).2.2.2).mono ?_
        rintro e w3 ⟨rfl, hb3⟩
        rw [HIN.out]
        have B3 := hbT hb hb3
        clear hb3 d0 d1 d2
        go_wp2
        go_roundw
        case rel => exact ⟨j + 1, by omega, by go_num, HAL, B3⟩
        case measure => simp [intOf]; omega
      · have HIN := Lib.hid (show decide (k ∈ l) = false by simpa using hin)
        have HF := Lib.hid (show (M.all fun b => decide (b ∈ l)) = false by
          rw [List.all_eq_false]
          exact ⟨k, by rw [← HK.out]; exact List.getElem_mem _, by simpa using hin⟩)
        clear hin
        go_wp2_with fail
        refine (refHasBar A c l k _ (by omega) (HR2.out.below hb).2.2.2).mono ?_
        rintro e w3 ⟨rfl, hb3⟩
        rw [HIN.out]
        have B3 := hbT hb hb3
        clear hb3 d0 d1 d2
        go_wp2
        go_ret
        exact ⟨ret_b HF.out.symm, B2.out.trans (B3.mono B2.out.size)⟩
    · obtain rfl : j = 4 := by omega
      have HF := Lib.hid (show (M.all fun b => decide (b ∈ l)) = true by
        rw [List.all_eq_true]
        intro b hb
        obtain ⟨q, hq, rfl⟩ := List.getElem_of_mem hb
        simpa using hall.out q hq (by omega))
      go_wp2
      go_ret
      exact ⟨ret_b HF.out.symm, B2.out.trans (hb.mono B2.out.size)⟩
end Go.Proofs.YtdeplhihcifmeaaGreatDoor

/- touches of the reference. -/
namespace Go.Proofs.YtdeplhihcifmeaaGreatDoor
open Go.RowKit Go.Shelf Ck

set_option maxHeartbeats 4000000 in
set_option maxRecDepth 100000 in
theorem refTouches (a b : Bar) (w : World) (ha : okBar a) (hb : okBar b) :
    Calls Tryz.prog 143 #[.agg #[.int .i64 a.x, .int .i64 a.y, .int .i64 a.s], .agg #[.int .i64 b.x, .int .i64 b.y, .int .i64 b.s]] w fun e w' => e = .returned (.bool (decide (Tch a b))) ∧ Below w.heap.size w w' := by
  obtain ⟨⟨⟨a1, a2⟩, ⟨a3, a4⟩, -⟩, sa, -, -⟩ := ha
  obtain ⟨⟨⟨b1, b2⟩, ⟨b3, b4⟩, -⟩, sb, -, -⟩ := hb
  simp only [Bar.lo] at a1 a2 a3 a4 b1 b2 b3 b4
  have a5 : -1 ≤ a.s := by omega
  have a6 : a.s ≤ 1 := by omega
  have b5 : -1 ≤ b.s := by omega
  have b6 : b.s ≤ 1 := by omega
  obtain ⟨w1, hw1, z0, z1, z2, y0, y1, y2⟩ := box33 w (.int .i64 a.x) (.int .i64 a.y) (.int .i64 a.s) (.int .i64 b.x) (.int .i64 b.y) (.int .i64 b.s) 24 24
  have hb1 : Below w.heap.size w w1 := by rw [hw1]; exact ((Below.refl _ _).alloc (Nat.le_refl _) _).alloc (by simp) _
  have hz1 : w1.heap.size = w.heap.size + 2 := by rw [hw1]; simp
  have Q : ∀ {W : World}, Below w1.heap.size w1 W → W.cell? ⟨w.heap.size, 0, none⟩ = some (.int .i64 a.x) ∧ W.cell? ⟨w.heap.size, 1, none⟩ = some (.int .i64 a.y) ∧ W.cell? ⟨w.heap.size, 2, none⟩ = some (.int .i64 a.s) ∧ W.cell? ⟨w.heap.size + 1, 0, none⟩ = some (.int .i64 b.x) ∧ W.cell? ⟨w.heap.size + 1, 1, none⟩ = some (.int .i64 b.y) ∧ W.cell? ⟨w.heap.size + 1, 2, none⟩ = some (.int .i64 b.s) := fun hb =>
    ⟨(hb.cell (p := ⟨w.heap.size, 0, none⟩) (by show w.heap.size < w1.heap.size; omega)).trans z0, (hb.cell (p := ⟨w.heap.size, 1, none⟩) (by show w.heap.size < w1.heap.size; omega)).trans z1, (hb.cell (p := ⟨w.heap.size, 2, none⟩) (by show w.heap.size < w1.heap.size; omega)).trans z2, (hb.cell (p := ⟨w.heap.size + 1, 0, none⟩) (by show w.heap.size + 1 < w1.heap.size; omega)).trans y0, (hb.cell (p := ⟨w.heap.size + 1, 1, none⟩) (by show w.heap.size + 1 < w1.heap.size; omega)).trans y1, (hb.cell (p := ⟨w.heap.size + 1, 2, none⟩) (by show w.heap.size + 1 < w1.heap.size; omega)).trans y2⟩
  have fin : ∀ {W : World}, Below w1.heap.size w1 W → Below w.heap.size w W := fun hb => hb1.trans (hb.mono hb1.size)
  have HW1 := Lib.hid hw1
  have hgd := guardKnot
  clear hw1 z0 z1 z2 y0 y1 y2 sa sb
  go_enter Tryz.func143, Tryz.ntmps143
  by_cases h1 : (⟨a.x, a.y⟩ : Knot) = ⟨b.x, b.y⟩
  · have e1 := eqKnot' ⟨a.x, a.y⟩ ⟨b.x, b.y⟩ true (by simpa using h1)
    have HD := Lib.hid (show decide (Tch a b) = true by rw [decide_eq_true_eq]; exact .inl h1)
    clear h1
    go_wp2_with fail
    rw [← HW1.out]
    refine wp_region_held_drew (S := (fun w' => Below w1.heap.size w1 w')) (by kernel_rfl) ?_ (fun hHeld => ?_)
    · exact below_drew (Below.refl _ _)
    refine wpAnyH_take (i := 0) (oi := _) (v := ?vt10) rfl (by kernel_rfl) (by kernel_rfl) (by kernel_rfl) (fun _ _ _ h => h) (Or.inl ⟨by rfl, ?hyt10⟩) (by assumption) ?restt10
    case hyt10 => (intro w hSw; (try dsimp only at hSw); obtain ⟨p0, p1, p2, q0, q1, q2⟩ := Q hSw; go_simp; first | done | rfl)
    try simp only [layA]
    refine wpAnyH_take (i := 2) (oi := _) (v := ?vt12) rfl (by kernel_rfl) (by kernel_rfl) (by kernel_rfl) (fun _ _ _ h => h) (Or.inl ⟨by rfl, ?hyt12⟩) (by assumption) ?restt12
    case hyt12 => (intro w hSw; (try dsimp only at hSw); obtain ⟨p0, p1, p2, q0, q1, q2⟩ := Q hSw; go_simp; first | done | rfl)
    try simp only [layA]
    refine wpAnyH_ready (rs := [1]) (by kernel_rfl) (by simp) ?_
    refine AllReadyH.cons (o := _) rfl (fun K hK => ?_) AllReadyH.nil
    simp only [layG]
    go_simp
    go_at_call 80
    refine (refLower a.x a.y a.s _).mono ?_
    rintro e w4 ⟨rfl, hbq⟩
    refine hK.out _ _ (hbT (by assumption) hbq) (fun hHeld => ?_)
    clear hK K
    try simp only [layA]
    refine wpAnyH_ready (rs := [3]) (by kernel_rfl) (by simp) ?_
    refine AllReadyH.cons (o := _) rfl (fun K hK => ?_) AllReadyH.nil
    simp only [layG]
    go_simp
    go_at_call 80
    refine (refLower b.x b.y b.s _).mono ?_
    rintro e w4 ⟨rfl, hbq⟩
    refine hK.out _ _ (hbT (by assumption) hbq) (fun hHeld => ?_)
    clear hK K
    try simp only [layA]
    refine wpAnyH_take (i := 4) (oi := _) (v := ?vt14) rfl (by kernel_rfl) (by kernel_rfl) (by kernel_rfl) (fun _ _ _ h => h) (Or.inl ⟨by rfl, ?hyt14⟩) (by assumption) ?restt14
    case hyt14 => (intro w hSw; (try dsimp only at hSw); go_simp; first | done | rfl)
    try simp only [layA]
    refine wpAnyH_take (i := 5) (oi := _) (v := ?vt15) rfl (by kernel_rfl) (by kernel_rfl) (by kernel_rfl) (fun _ _ _ h => h) (Or.inl ⟨by rfl, ?hyt15⟩) (by assumption) ?restt15
    case hyt15 => (intro w hSw; (try dsimp only at hSw); go_simp; first | done | rfl)
    try simp only [layA]
    refine wpAnyH_take (i := 6) (oi := _) (v := undef) rfl (by kernel_rfl) (by kernel_rfl) (by kernel_rfl) (fun _ _ _ h => h) (Or.inr ⟨by rfl, rfl⟩) (by assumption) ?restt16
    try simp only [layA]
    refine wpAnyH_take (i := 7) (oi := _) (v := undef) rfl (by kernel_rfl) (by kernel_rfl) (by kernel_rfl) (fun _ _ _ h => h) (Or.inr ⟨by rfl, rfl⟩) (by assumption) ?restt17
    try simp only [layA]
    refine wpAnyH_take (i := 8) (oi := _) (v := undef) rfl (by kernel_rfl) (by kernel_rfl) (by kernel_rfl) (fun _ _ _ h => h) (Or.inr ⟨by rfl, rfl⟩) (by assumption) ?restt18
    try simp only [layA]
    refine wpAnyH_take (i := 9) (oi := _) (v := undef) rfl (by kernel_rfl) (by kernel_rfl) (by kernel_rfl) (fun _ _ _ h => h) (Or.inr ⟨by rfl, rfl⟩) (by assumption) ?restt19
    try simp only [layA]
    refine wpAnyH_take (i := 10) (oi := _) (v := undef) rfl (by kernel_rfl) (by kernel_rfl) (by kernel_rfl) (fun _ _ _ h => h) (Or.inr ⟨by rfl, rfl⟩) (by assumption) ?restt110
    try simp only [layA]
    refine wpAnyH_take (i := 11) (oi := _) (v := ?vt111) rfl (by kernel_rfl) (by kernel_rfl) (by kernel_rfl) (fun _ _ _ h => h) (Or.inl ⟨by rfl, ?hyt111⟩) (by assumption) ?restt111
    case hyt111 => (intro w hSw; (try dsimp only at hSw); go_simp; first | done | rfl)
    try simp only [layA]
    refine wpAnyH_take (i := 12) (oi := _) (v := ?vt112) rfl (by kernel_rfl) (by kernel_rfl) (by kernel_rfl) (fun _ _ _ h => h) (Or.inl ⟨by rfl, ?hyt112⟩) (by assumption) ?restt112
    case hyt112 => (intro w hSw; (try dsimp only at hSw); go_simp; first | done | rfl)
    try simp only [layA]
    refine wpAnyH_take (i := 13) (oi := _) (v := undef) rfl (by kernel_rfl) (by kernel_rfl) (by kernel_rfl) (fun _ _ _ h => h) (Or.inr ⟨by rfl, rfl⟩) (by assumption) ?restt113
    try simp only [layA]
    refine wpAnyH_take (i := 14) (oi := _) (v := undef) rfl (by kernel_rfl) (by kernel_rfl) (by kernel_rfl) (fun _ _ _ h => h) (Or.inr ⟨by rfl, rfl⟩) (by assumption) ?restt114
    try simp only [layA]
    refine wpAnyH_take (i := 15) (oi := _) (v := undef) rfl (by kernel_rfl) (by kernel_rfl) (by kernel_rfl) (fun _ _ _ h => h) (Or.inr ⟨by rfl, rfl⟩) (by assumption) ?restt115
    try simp only [layA]
    refine wpAnyH_take (i := 16) (oi := _) (v := undef) rfl (by kernel_rfl) (by kernel_rfl) (by kernel_rfl) (fun _ _ _ h => h) (Or.inr ⟨by rfl, rfl⟩) (by assumption) ?restt116
    try simp only [layA]
    refine wpAnyH_take (i := 17) (oi := _) (v := undef) rfl (by kernel_rfl) (by kernel_rfl) (by kernel_rfl) (fun _ _ _ h => h) (Or.inr ⟨by rfl, rfl⟩) (by assumption) ?restt117
    try simp only [layA]
    refine wpAnyH_take (i := 18) (oi := _) (v := ?vt118) rfl (by kernel_rfl) (by kernel_rfl) (by kernel_rfl) (fun _ _ _ h => h) (Or.inl ⟨by rfl, ?hyt118⟩) (by assumption) ?restt118
    case hyt118 => (intro w hSw; (try dsimp only at hSw); go_simp; first | done | rfl)
    try simp only [layA]
    refine wpAnyH_take (i := 19) (oi := _) (v := ?vt119) rfl (by kernel_rfl) (by kernel_rfl) (by kernel_rfl) (fun _ _ _ h => h) (Or.inl ⟨by rfl, ?hyt119⟩) (by assumption) ?restt119
    case hyt119 => (intro w hSw; (try dsimp only at hSw); go_simp; first | done | rfl)
    try simp only [layA]
    refine wpAnyH_take (i := 20) (oi := _) (v := undef) rfl (by kernel_rfl) (by kernel_rfl) (by kernel_rfl) (fun _ _ _ h => h) (Or.inr ⟨by rfl, rfl⟩) (by assumption) ?restt120
    try simp only [layA]
    refine wpAnyH_take (i := 21) (oi := _) (v := undef) rfl (by kernel_rfl) (by kernel_rfl) (by kernel_rfl) (fun _ _ _ h => h) (Or.inr ⟨by rfl, rfl⟩) (by assumption) ?restt121
    try simp only [layA]
    refine wpAnyH_take (i := 22) (oi := _) (v := undef) rfl (by kernel_rfl) (by kernel_rfl) (by kernel_rfl) (fun _ _ _ h => h) (Or.inr ⟨by rfl, rfl⟩) (by assumption) ?restt122
    try simp only [layA]
    refine wpAnyH_take (i := 23) (oi := _) (v := undef) rfl (by kernel_rfl) (by kernel_rfl) (by kernel_rfl) (fun _ _ _ h => h) (Or.inr ⟨by rfl, rfl⟩) (by assumption) ?restt123
    try simp only [layA]
    refine wpAnyH_take (i := 24) (oi := _) (v := undef) rfl (by kernel_rfl) (by kernel_rfl) (by kernel_rfl) (fun _ _ _ h => h) (Or.inr ⟨by rfl, rfl⟩) (by assumption) ?restt124
    try simp only [layA]
    refine wpAnyH_take (i := 25) (oi := _) (v := ?vt125) rfl (by kernel_rfl) (by kernel_rfl) (by kernel_rfl) (fun _ _ _ h => h) (Or.inl ⟨by rfl, ?hyt125⟩) (by assumption) ?restt125
    case hyt125 => (intro w hSw; (try dsimp only at hSw); go_simp; first | done | rfl)
    try simp only [layA]
    refine wpAnyH_take (i := 26) (oi := _) (v := ?vt126) rfl (by kernel_rfl) (by kernel_rfl) (by kernel_rfl) (fun _ _ _ h => h) (Or.inl ⟨by rfl, ?hyt126⟩) (by assumption) ?restt126
    case hyt126 => (intro w hSw; (try dsimp only at hSw); go_simp; first | done | rfl)
    try simp only [layA]
    refine wpAnyH_done (by kernel_rfl) ?_ _
    go_wp2
    go_ret
    exact ⟨ret_b HD.out.symm, fin hHeld⟩
  · have e1 := eqKnot' ⟨a.x, a.y⟩ ⟨b.x, b.y⟩ false (by simpa using h1)
    by_cases h2 : (⟨a.x, a.y⟩ : Knot) = ⟨b.x + b.s, b.y + 1⟩
    · have e2 := eqKnot' ⟨a.x, a.y⟩ ⟨b.x + b.s, b.y + 1⟩ true (by simpa using h2)
      have HD := Lib.hid (show decide (Tch a b) = true by rw [decide_eq_true_eq]; exact .inr (.inl h2))
      clear h1 h2
      go_wp2_with fail
      rw [← HW1.out]
      refine wp_region_held_drew (S := (fun w' => Below w1.heap.size w1 w')) (by kernel_rfl) ?_ (fun hHeld => ?_)
      · exact below_drew (Below.refl _ _)
      refine wpAnyH_take (i := 0) (oi := _) (v := ?vt20) rfl (by kernel_rfl) (by kernel_rfl) (by kernel_rfl) (fun _ _ _ h => h) (Or.inl ⟨by rfl, ?hyt20⟩) (by assumption) ?restt20
      case hyt20 => (intro w hSw; (try dsimp only at hSw); obtain ⟨p0, p1, p2, q0, q1, q2⟩ := Q hSw; go_simp; first | done | rfl)
      try simp only [layA]
      refine wpAnyH_take (i := 2) (oi := _) (v := ?vt22) rfl (by kernel_rfl) (by kernel_rfl) (by kernel_rfl) (fun _ _ _ h => h) (Or.inl ⟨by rfl, ?hyt22⟩) (by assumption) ?restt22
      case hyt22 => (intro w hSw; (try dsimp only at hSw); obtain ⟨p0, p1, p2, q0, q1, q2⟩ := Q hSw; go_simp; first | done | rfl)
      try simp only [layA]
      refine wpAnyH_ready (rs := [1]) (by kernel_rfl) (by simp) ?_
      refine AllReadyH.cons (o := _) rfl (fun K hK => ?_) AllReadyH.nil
      simp only [layG]
      go_simp
      go_at_call 80
      refine (refLower a.x a.y a.s _).mono ?_
      rintro e w4 ⟨rfl, hbq⟩
      refine hK.out _ _ (hbT (by assumption) hbq) (fun hHeld => ?_)
      clear hK K
      try simp only [layA]
      refine wpAnyH_ready (rs := [3]) (by kernel_rfl) (by simp) ?_
      refine AllReadyH.cons (o := _) rfl (fun K hK => ?_) AllReadyH.nil
      simp only [layG]
      go_simp
      go_at_call 80
      refine (refLower b.x b.y b.s _).mono ?_
      rintro e w4 ⟨rfl, hbq⟩
      refine hK.out _ _ (hbT (by assumption) hbq) (fun hHeld => ?_)
      clear hK K
      try simp only [layA]
      refine wpAnyH_take (i := 4) (oi := _) (v := ?vt24) rfl (by kernel_rfl) (by kernel_rfl) (by kernel_rfl) (fun _ _ _ h => h) (Or.inl ⟨by rfl, ?hyt24⟩) (by assumption) ?restt24
      case hyt24 => (intro w hSw; (try dsimp only at hSw); go_simp; first | done | rfl)
      try simp only [layA]
      refine wpAnyH_take (i := 5) (oi := _) (v := ?vt25) rfl (by kernel_rfl) (by kernel_rfl) (by kernel_rfl) (fun _ _ _ h => h) (Or.inl ⟨by rfl, ?hyt25⟩) (by assumption) ?restt25
      case hyt25 => (intro w hSw; (try dsimp only at hSw); go_simp; first | done | rfl)
      try simp only [layA]
      refine wpAnyH_take (i := 6) (oi := _) (v := ?vt26) rfl (by kernel_rfl) (by kernel_rfl) (by kernel_rfl) (fun _ _ _ h => h) (Or.inl ⟨by rfl, ?hyt26⟩) (by assumption) ?restt26
      case hyt26 => (intro w hSw; (try dsimp only at hSw); obtain ⟨p0, p1, p2, q0, q1, q2⟩ := Q hSw; go_simp; first | done | rfl)
      try simp only [layA]
      refine wpAnyH_take (i := 8) (oi := _) (v := ?vt28) rfl (by kernel_rfl) (by kernel_rfl) (by kernel_rfl) (fun _ _ _ h => h) (Or.inl ⟨by rfl, ?hyt28⟩) (by assumption) ?restt28
      case hyt28 => (intro w hSw; (try dsimp only at hSw); obtain ⟨p0, p1, p2, q0, q1, q2⟩ := Q hSw; go_simp; first | done | rfl)
      try simp only [layA]
      refine wpAnyH_ready (rs := [7]) (by kernel_rfl) (by simp) ?_
      refine AllReadyH.cons (o := _) rfl (fun K hK => ?_) AllReadyH.nil
      simp only [layG]
      rw [if_pos (by rfl)]
      go_simp
      go_at_call 80
      refine (refLower a.x a.y a.s _).mono ?_
      rintro e w4 ⟨rfl, hbq⟩
      refine hK.out _ _ (hbT (by assumption) hbq) (fun hHeld => ?_)
      clear hK K
      try simp only [layA]
      refine wpAnyH_ready (rs := [9]) (by kernel_rfl) (by simp) ?_
      refine AllReadyH.cons (o := _) rfl (fun K hK => ?_) AllReadyH.nil
      simp only [layG]
      rw [if_pos (by rfl)]
      go_simp
      go_at_call 81
      refine (refUpper b.x b.y b.s _ b1 b2 b3 b4 b5 b6).mono ?_
      rintro e w4 ⟨rfl, hbq⟩
      refine hK.out _ _ (hbT (by assumption) hbq) (fun hHeld => ?_)
      clear hK K
      try simp only [layA]
      refine wpAnyH_take (i := 10) (oi := _) (v := ?vt210) rfl (by kernel_rfl) (by kernel_rfl) (by kernel_rfl) (fun _ _ _ h => h) (Or.inl ⟨by rfl, ?hyt210⟩) (by assumption) ?restt210
      case hyt210 => (intro w hSw; (try dsimp only at hSw); go_simp; first | done | rfl)
      try simp only [layA]
      refine wpAnyH_take (i := 11) (oi := _) (v := ?vt211) rfl (by kernel_rfl) (by kernel_rfl) (by kernel_rfl) (fun _ _ _ h => h) (Or.inl ⟨by rfl, ?hyt211⟩) (by assumption) ?restt211
      case hyt211 => (intro w hSw; (try dsimp only at hSw); go_simp; first | done | rfl)
      try simp only [layA]
      refine wpAnyH_take (i := 12) (oi := _) (v := ?vt212) rfl (by kernel_rfl) (by kernel_rfl) (by kernel_rfl) (fun _ _ _ h => h) (Or.inl ⟨by rfl, ?hyt212⟩) (by assumption) ?restt212
      case hyt212 => (intro w hSw; (try dsimp only at hSw); go_simp; first | done | rfl)
      try simp only [layA]
      refine wpAnyH_take (i := 13) (oi := _) (v := undef) rfl (by kernel_rfl) (by kernel_rfl) (by kernel_rfl) (fun _ _ _ h => h) (Or.inr ⟨by rfl, rfl⟩) (by assumption) ?restt213
      try simp only [layA]
      refine wpAnyH_take (i := 14) (oi := _) (v := undef) rfl (by kernel_rfl) (by kernel_rfl) (by kernel_rfl) (fun _ _ _ h => h) (Or.inr ⟨by rfl, rfl⟩) (by assumption) ?restt214
      try simp only [layA]
      refine wpAnyH_take (i := 15) (oi := _) (v := undef) rfl (by kernel_rfl) (by kernel_rfl) (by kernel_rfl) (fun _ _ _ h => h) (Or.inr ⟨by rfl, rfl⟩) (by assumption) ?restt215
      try simp only [layA]
      refine wpAnyH_take (i := 16) (oi := _) (v := undef) rfl (by kernel_rfl) (by kernel_rfl) (by kernel_rfl) (fun _ _ _ h => h) (Or.inr ⟨by rfl, rfl⟩) (by assumption) ?restt216
      try simp only [layA]
      refine wpAnyH_take (i := 17) (oi := _) (v := undef) rfl (by kernel_rfl) (by kernel_rfl) (by kernel_rfl) (fun _ _ _ h => h) (Or.inr ⟨by rfl, rfl⟩) (by assumption) ?restt217
      try simp only [layA]
      refine wpAnyH_take (i := 18) (oi := _) (v := ?vt218) rfl (by kernel_rfl) (by kernel_rfl) (by kernel_rfl) (fun _ _ _ h => h) (Or.inl ⟨by rfl, ?hyt218⟩) (by assumption) ?restt218
      case hyt218 => (intro w hSw; (try dsimp only at hSw); go_simp; first | done | rfl)
      try simp only [layA]
      refine wpAnyH_take (i := 19) (oi := _) (v := ?vt219) rfl (by kernel_rfl) (by kernel_rfl) (by kernel_rfl) (fun _ _ _ h => h) (Or.inl ⟨by rfl, ?hyt219⟩) (by assumption) ?restt219
      case hyt219 => (intro w hSw; (try dsimp only at hSw); go_simp; first | done | rfl)
      try simp only [layA]
      refine wpAnyH_take (i := 20) (oi := _) (v := undef) rfl (by kernel_rfl) (by kernel_rfl) (by kernel_rfl) (fun _ _ _ h => h) (Or.inr ⟨by rfl, rfl⟩) (by assumption) ?restt220
      try simp only [layA]
      refine wpAnyH_take (i := 21) (oi := _) (v := undef) rfl (by kernel_rfl) (by kernel_rfl) (by kernel_rfl) (fun _ _ _ h => h) (Or.inr ⟨by rfl, rfl⟩) (by assumption) ?restt221
      try simp only [layA]
      refine wpAnyH_take (i := 22) (oi := _) (v := undef) rfl (by kernel_rfl) (by kernel_rfl) (by kernel_rfl) (fun _ _ _ h => h) (Or.inr ⟨by rfl, rfl⟩) (by assumption) ?restt222
      try simp only [layA]
      refine wpAnyH_take (i := 23) (oi := _) (v := undef) rfl (by kernel_rfl) (by kernel_rfl) (by kernel_rfl) (fun _ _ _ h => h) (Or.inr ⟨by rfl, rfl⟩) (by assumption) ?restt223
      try simp only [layA]
      refine wpAnyH_take (i := 24) (oi := _) (v := undef) rfl (by kernel_rfl) (by kernel_rfl) (by kernel_rfl) (fun _ _ _ h => h) (Or.inr ⟨by rfl, rfl⟩) (by assumption) ?restt224
      try simp only [layA]
      refine wpAnyH_take (i := 25) (oi := _) (v := ?vt225) rfl (by kernel_rfl) (by kernel_rfl) (by kernel_rfl) (fun _ _ _ h => h) (Or.inl ⟨by rfl, ?hyt225⟩) (by assumption) ?restt225
      case hyt225 => (intro w hSw; (try dsimp only at hSw); go_simp; first | done | rfl)
      try simp only [layA]
      refine wpAnyH_take (i := 26) (oi := _) (v := ?vt226) rfl (by kernel_rfl) (by kernel_rfl) (by kernel_rfl) (fun _ _ _ h => h) (Or.inl ⟨by rfl, ?hyt226⟩) (by assumption) ?restt226
      case hyt226 => (intro w hSw; (try dsimp only at hSw); go_simp; first | done | rfl)
      try simp only [layA]
      refine wpAnyH_done (by kernel_rfl) ?_ _
      go_wp2
      go_ret
      exact ⟨ret_b HD.out.symm, fin hHeld⟩
    · have e2 := eqKnot' ⟨a.x, a.y⟩ ⟨b.x + b.s, b.y + 1⟩ false (by simpa using h2)
      by_cases h3 : (⟨a.x + a.s, a.y + 1⟩ : Knot) = ⟨b.x, b.y⟩
      · have e3 := eqKnot' ⟨a.x + a.s, a.y + 1⟩ ⟨b.x, b.y⟩ true (by simpa using h3)
        have HD := Lib.hid (show decide (Tch a b) = true by rw [decide_eq_true_eq]; exact .inr (.inr (.inl h3)))
        clear h1 h2 h3
        go_wp2_with fail
        rw [← HW1.out]
        refine wp_region_held_drew (S := (fun w' => Below w1.heap.size w1 w')) (by kernel_rfl) ?_ (fun hHeld => ?_)
        · exact below_drew (Below.refl _ _)
        refine wpAnyH_take (i := 0) (oi := _) (v := ?vt30) rfl (by kernel_rfl) (by kernel_rfl) (by kernel_rfl) (fun _ _ _ h => h) (Or.inl ⟨by rfl, ?hyt30⟩) (by assumption) ?restt30
        case hyt30 => (intro w hSw; (try dsimp only at hSw); obtain ⟨p0, p1, p2, q0, q1, q2⟩ := Q hSw; go_simp; first | done | rfl)
        try simp only [layA]
        refine wpAnyH_take (i := 2) (oi := _) (v := ?vt32) rfl (by kernel_rfl) (by kernel_rfl) (by kernel_rfl) (fun _ _ _ h => h) (Or.inl ⟨by rfl, ?hyt32⟩) (by assumption) ?restt32
        case hyt32 => (intro w hSw; (try dsimp only at hSw); obtain ⟨p0, p1, p2, q0, q1, q2⟩ := Q hSw; go_simp; first | done | rfl)
        try simp only [layA]
        refine wpAnyH_ready (rs := [1]) (by kernel_rfl) (by simp) ?_
        refine AllReadyH.cons (o := _) rfl (fun K hK => ?_) AllReadyH.nil
        simp only [layG]
        go_simp
        go_at_call 80
        refine (refLower a.x a.y a.s _).mono ?_
        rintro e w4 ⟨rfl, hbq⟩
        refine hK.out _ _ (hbT (by assumption) hbq) (fun hHeld => ?_)
        clear hK K
        try simp only [layA]
        refine wpAnyH_ready (rs := [3]) (by kernel_rfl) (by simp) ?_
        refine AllReadyH.cons (o := _) rfl (fun K hK => ?_) AllReadyH.nil
        simp only [layG]
        go_simp
        go_at_call 80
        refine (refLower b.x b.y b.s _).mono ?_
        rintro e w4 ⟨rfl, hbq⟩
        refine hK.out _ _ (hbT (by assumption) hbq) (fun hHeld => ?_)
        clear hK K
        try simp only [layA]
        refine wpAnyH_take (i := 4) (oi := _) (v := ?vt34) rfl (by kernel_rfl) (by kernel_rfl) (by kernel_rfl) (fun _ _ _ h => h) (Or.inl ⟨by rfl, ?hyt34⟩) (by assumption) ?restt34
        case hyt34 => (intro w hSw; (try dsimp only at hSw); go_simp; first | done | rfl)
        try simp only [layA]
        refine wpAnyH_take (i := 5) (oi := _) (v := ?vt35) rfl (by kernel_rfl) (by kernel_rfl) (by kernel_rfl) (fun _ _ _ h => h) (Or.inl ⟨by rfl, ?hyt35⟩) (by assumption) ?restt35
        case hyt35 => (intro w hSw; (try dsimp only at hSw); go_simp; first | done | rfl)
        try simp only [layA]
        refine wpAnyH_take (i := 6) (oi := _) (v := ?vt36) rfl (by kernel_rfl) (by kernel_rfl) (by kernel_rfl) (fun _ _ _ h => h) (Or.inl ⟨by rfl, ?hyt36⟩) (by assumption) ?restt36
        case hyt36 => (intro w hSw; (try dsimp only at hSw); obtain ⟨p0, p1, p2, q0, q1, q2⟩ := Q hSw; go_simp; first | done | rfl)
        try simp only [layA]
        refine wpAnyH_take (i := 8) (oi := _) (v := ?vt38) rfl (by kernel_rfl) (by kernel_rfl) (by kernel_rfl) (fun _ _ _ h => h) (Or.inl ⟨by rfl, ?hyt38⟩) (by assumption) ?restt38
        case hyt38 => (intro w hSw; (try dsimp only at hSw); obtain ⟨p0, p1, p2, q0, q1, q2⟩ := Q hSw; go_simp; first | done | rfl)
        try simp only [layA]
        refine wpAnyH_ready (rs := [7]) (by kernel_rfl) (by simp) ?_
        refine AllReadyH.cons (o := _) rfl (fun K hK => ?_) AllReadyH.nil
        simp only [layG]
        rw [if_pos (by rfl)]
        go_simp
        go_at_call 80
        refine (refLower a.x a.y a.s _).mono ?_
        rintro e w4 ⟨rfl, hbq⟩
        refine hK.out _ _ (hbT (by assumption) hbq) (fun hHeld => ?_)
        clear hK K
        try simp only [layA]
        refine wpAnyH_ready (rs := [9]) (by kernel_rfl) (by simp) ?_
        refine AllReadyH.cons (o := _) rfl (fun K hK => ?_) AllReadyH.nil
        simp only [layG]
        rw [if_pos (by rfl)]
        go_simp
        go_at_call 81
        refine (refUpper b.x b.y b.s _ b1 b2 b3 b4 b5 b6).mono ?_
        rintro e w4 ⟨rfl, hbq⟩
        refine hK.out _ _ (hbT (by assumption) hbq) (fun hHeld => ?_)
        clear hK K
        try simp only [layA]
        refine wpAnyH_take (i := 10) (oi := _) (v := ?vt310) rfl (by kernel_rfl) (by kernel_rfl) (by kernel_rfl) (fun _ _ _ h => h) (Or.inl ⟨by rfl, ?hyt310⟩) (by assumption) ?restt310
        case hyt310 => (intro w hSw; (try dsimp only at hSw); go_simp; first | done | rfl)
        try simp only [layA]
        refine wpAnyH_take (i := 11) (oi := _) (v := ?vt311) rfl (by kernel_rfl) (by kernel_rfl) (by kernel_rfl) (fun _ _ _ h => h) (Or.inl ⟨by rfl, ?hyt311⟩) (by assumption) ?restt311
        case hyt311 => (intro w hSw; (try dsimp only at hSw); go_simp; first | done | rfl)
        try simp only [layA]
        refine wpAnyH_take (i := 12) (oi := _) (v := ?vt312) rfl (by kernel_rfl) (by kernel_rfl) (by kernel_rfl) (fun _ _ _ h => h) (Or.inl ⟨by rfl, ?hyt312⟩) (by assumption) ?restt312
        case hyt312 => (intro w hSw; (try dsimp only at hSw); go_simp; first | done | rfl)
        try simp only [layA]
        refine wpAnyH_take (i := 13) (oi := _) (v := ?vt313) rfl (by kernel_rfl) (by kernel_rfl) (by kernel_rfl) (fun _ _ _ h => h) (Or.inl ⟨by rfl, ?hyt313⟩) (by assumption) ?restt313
        case hyt313 => (intro w hSw; (try dsimp only at hSw); obtain ⟨p0, p1, p2, q0, q1, q2⟩ := Q hSw; go_simp; first | done | rfl)
        try simp only [layA]
        refine wpAnyH_take (i := 15) (oi := _) (v := ?vt315) rfl (by kernel_rfl) (by kernel_rfl) (by kernel_rfl) (fun _ _ _ h => h) (Or.inl ⟨by rfl, ?hyt315⟩) (by assumption) ?restt315
        case hyt315 => (intro w hSw; (try dsimp only at hSw); obtain ⟨p0, p1, p2, q0, q1, q2⟩ := Q hSw; go_simp; first | done | rfl)
        try simp only [layA]
        refine wpAnyH_ready (rs := [14]) (by kernel_rfl) (by simp) ?_
        refine AllReadyH.cons (o := _) rfl (fun K hK => ?_) AllReadyH.nil
        simp only [layG]
        rw [if_pos (by rfl)]
        go_simp
        go_at_call 81
        refine (refUpper a.x a.y a.s _ a1 a2 a3 a4 a5 a6).mono ?_
        rintro e w4 ⟨rfl, hbq⟩
        refine hK.out _ _ (hbT (by assumption) hbq) (fun hHeld => ?_)
        clear hK K
        try simp only [layA]
        refine wpAnyH_ready (rs := [16]) (by kernel_rfl) (by simp) ?_
        refine AllReadyH.cons (o := _) rfl (fun K hK => ?_) AllReadyH.nil
        simp only [layG]
        rw [if_pos (by rfl)]
        go_simp
        go_at_call 80
        refine (refLower b.x b.y b.s _).mono ?_
        rintro e w4 ⟨rfl, hbq⟩
        refine hK.out _ _ (hbT (by assumption) hbq) (fun hHeld => ?_)
        clear hK K
        try simp only [layA]
        refine wpAnyH_take (i := 17) (oi := _) (v := ?vt317) rfl (by kernel_rfl) (by kernel_rfl) (by kernel_rfl) (fun _ _ _ h => h) (Or.inl ⟨by rfl, ?hyt317⟩) (by assumption) ?restt317
        case hyt317 => (intro w hSw; (try dsimp only at hSw); go_simp; first | done | rfl)
        try simp only [layA]
        refine wpAnyH_take (i := 18) (oi := _) (v := ?vt318) rfl (by kernel_rfl) (by kernel_rfl) (by kernel_rfl) (fun _ _ _ h => h) (Or.inl ⟨by rfl, ?hyt318⟩) (by assumption) ?restt318
        case hyt318 => (intro w hSw; (try dsimp only at hSw); go_simp; first | done | rfl)
        try simp only [layA]
        refine wpAnyH_take (i := 19) (oi := _) (v := ?vt319) rfl (by kernel_rfl) (by kernel_rfl) (by kernel_rfl) (fun _ _ _ h => h) (Or.inl ⟨by rfl, ?hyt319⟩) (by assumption) ?restt319
        case hyt319 => (intro w hSw; (try dsimp only at hSw); go_simp; first | done | rfl)
        try simp only [layA]
        refine wpAnyH_take (i := 20) (oi := _) (v := undef) rfl (by kernel_rfl) (by kernel_rfl) (by kernel_rfl) (fun _ _ _ h => h) (Or.inr ⟨by rfl, rfl⟩) (by assumption) ?restt320
        try simp only [layA]
        refine wpAnyH_take (i := 21) (oi := _) (v := undef) rfl (by kernel_rfl) (by kernel_rfl) (by kernel_rfl) (fun _ _ _ h => h) (Or.inr ⟨by rfl, rfl⟩) (by assumption) ?restt321
        try simp only [layA]
        refine wpAnyH_take (i := 22) (oi := _) (v := undef) rfl (by kernel_rfl) (by kernel_rfl) (by kernel_rfl) (fun _ _ _ h => h) (Or.inr ⟨by rfl, rfl⟩) (by assumption) ?restt322
        try simp only [layA]
        refine wpAnyH_take (i := 23) (oi := _) (v := undef) rfl (by kernel_rfl) (by kernel_rfl) (by kernel_rfl) (fun _ _ _ h => h) (Or.inr ⟨by rfl, rfl⟩) (by assumption) ?restt323
        try simp only [layA]
        refine wpAnyH_take (i := 24) (oi := _) (v := undef) rfl (by kernel_rfl) (by kernel_rfl) (by kernel_rfl) (fun _ _ _ h => h) (Or.inr ⟨by rfl, rfl⟩) (by assumption) ?restt324
        try simp only [layA]
        refine wpAnyH_take (i := 25) (oi := _) (v := ?vt325) rfl (by kernel_rfl) (by kernel_rfl) (by kernel_rfl) (fun _ _ _ h => h) (Or.inl ⟨by rfl, ?hyt325⟩) (by assumption) ?restt325
        case hyt325 => (intro w hSw; (try dsimp only at hSw); go_simp; first | done | rfl)
        try simp only [layA]
        refine wpAnyH_take (i := 26) (oi := _) (v := ?vt326) rfl (by kernel_rfl) (by kernel_rfl) (by kernel_rfl) (fun _ _ _ h => h) (Or.inl ⟨by rfl, ?hyt326⟩) (by assumption) ?restt326
        case hyt326 => (intro w hSw; (try dsimp only at hSw); go_simp; first | done | rfl)
        try simp only [layA]
        refine wpAnyH_done (by kernel_rfl) ?_ _
        go_wp2
        go_ret
        exact ⟨ret_b HD.out.symm, fin hHeld⟩
      · have e3 := eqKnot' ⟨a.x + a.s, a.y + 1⟩ ⟨b.x, b.y⟩ false (by simpa using h3)
        by_cases h4 : (⟨a.x + a.s, a.y + 1⟩ : Knot) = ⟨b.x + b.s, b.y + 1⟩
        · have e4 := eqKnot' ⟨a.x + a.s, a.y + 1⟩ ⟨b.x + b.s, b.y + 1⟩ true (by simpa using h4)
          have HD := Lib.hid (show decide (Tch a b) = true by rw [decide_eq_true_eq]; exact .inr (.inr (.inr h4)))
          clear h1 h2 h3 h4
          go_wp2_with fail
          rw [← HW1.out]
          refine wp_region_held_drew (S := (fun w' => Below w1.heap.size w1 w')) (by kernel_rfl) ?_ (fun hHeld => ?_)
          · exact below_drew (Below.refl _ _)
          refine wpAnyH_take (i := 0) (oi := _) (v := ?vt40) rfl (by kernel_rfl) (by kernel_rfl) (by kernel_rfl) (fun _ _ _ h => h) (Or.inl ⟨by rfl, ?hyt40⟩) (by assumption) ?restt40
          case hyt40 => (intro w hSw; (try dsimp only at hSw); obtain ⟨p0, p1, p2, q0, q1, q2⟩ := Q hSw; go_simp; first | done | rfl)
          try simp only [layA]
          refine wpAnyH_take (i := 2) (oi := _) (v := ?vt42) rfl (by kernel_rfl) (by kernel_rfl) (by kernel_rfl) (fun _ _ _ h => h) (Or.inl ⟨by rfl, ?hyt42⟩) (by assumption) ?restt42
          case hyt42 => (intro w hSw; (try dsimp only at hSw); obtain ⟨p0, p1, p2, q0, q1, q2⟩ := Q hSw; go_simp; first | done | rfl)
          try simp only [layA]
          refine wpAnyH_ready (rs := [1]) (by kernel_rfl) (by simp) ?_
          refine AllReadyH.cons (o := _) rfl (fun K hK => ?_) AllReadyH.nil
          simp only [layG]
          go_simp
          go_at_call 80
          refine (refLower a.x a.y a.s _).mono ?_
          rintro e w4 ⟨rfl, hbq⟩
          refine hK.out _ _ (hbT (by assumption) hbq) (fun hHeld => ?_)
          clear hK K
          try simp only [layA]
          refine wpAnyH_ready (rs := [3]) (by kernel_rfl) (by simp) ?_
          refine AllReadyH.cons (o := _) rfl (fun K hK => ?_) AllReadyH.nil
          simp only [layG]
          go_simp
          go_at_call 80
          refine (refLower b.x b.y b.s _).mono ?_
          rintro e w4 ⟨rfl, hbq⟩
          refine hK.out _ _ (hbT (by assumption) hbq) (fun hHeld => ?_)
          clear hK K
          try simp only [layA]
          refine wpAnyH_take (i := 4) (oi := _) (v := ?vt44) rfl (by kernel_rfl) (by kernel_rfl) (by kernel_rfl) (fun _ _ _ h => h) (Or.inl ⟨by rfl, ?hyt44⟩) (by assumption) ?restt44
          case hyt44 => (intro w hSw; (try dsimp only at hSw); go_simp; first | done | rfl)
          try simp only [layA]
          refine wpAnyH_take (i := 5) (oi := _) (v := ?vt45) rfl (by kernel_rfl) (by kernel_rfl) (by kernel_rfl) (fun _ _ _ h => h) (Or.inl ⟨by rfl, ?hyt45⟩) (by assumption) ?restt45
          case hyt45 => (intro w hSw; (try dsimp only at hSw); go_simp; first | done | rfl)
          try simp only [layA]
          refine wpAnyH_take (i := 6) (oi := _) (v := ?vt46) rfl (by kernel_rfl) (by kernel_rfl) (by kernel_rfl) (fun _ _ _ h => h) (Or.inl ⟨by rfl, ?hyt46⟩) (by assumption) ?restt46
          case hyt46 => (intro w hSw; (try dsimp only at hSw); obtain ⟨p0, p1, p2, q0, q1, q2⟩ := Q hSw; go_simp; first | done | rfl)
          try simp only [layA]
          refine wpAnyH_take (i := 8) (oi := _) (v := ?vt48) rfl (by kernel_rfl) (by kernel_rfl) (by kernel_rfl) (fun _ _ _ h => h) (Or.inl ⟨by rfl, ?hyt48⟩) (by assumption) ?restt48
          case hyt48 => (intro w hSw; (try dsimp only at hSw); obtain ⟨p0, p1, p2, q0, q1, q2⟩ := Q hSw; go_simp; first | done | rfl)
          try simp only [layA]
          refine wpAnyH_ready (rs := [7]) (by kernel_rfl) (by simp) ?_
          refine AllReadyH.cons (o := _) rfl (fun K hK => ?_) AllReadyH.nil
          simp only [layG]
          rw [if_pos (by rfl)]
          go_simp
          go_at_call 80
          refine (refLower a.x a.y a.s _).mono ?_
          rintro e w4 ⟨rfl, hbq⟩
          refine hK.out _ _ (hbT (by assumption) hbq) (fun hHeld => ?_)
          clear hK K
          try simp only [layA]
          refine wpAnyH_ready (rs := [9]) (by kernel_rfl) (by simp) ?_
          refine AllReadyH.cons (o := _) rfl (fun K hK => ?_) AllReadyH.nil
          simp only [layG]
          rw [if_pos (by rfl)]
          go_simp
          go_at_call 81
          refine (refUpper b.x b.y b.s _ b1 b2 b3 b4 b5 b6).mono ?_
          rintro e w4 ⟨rfl, hbq⟩
          refine hK.out _ _ (hbT (by assumption) hbq) (fun hHeld => ?_)
          clear hK K
          try simp only [layA]
          refine wpAnyH_take (i := 10) (oi := _) (v := ?vt410) rfl (by kernel_rfl) (by kernel_rfl) (by kernel_rfl) (fun _ _ _ h => h) (Or.inl ⟨by rfl, ?hyt410⟩) (by assumption) ?restt410
          case hyt410 => (intro w hSw; (try dsimp only at hSw); go_simp; first | done | rfl)
          try simp only [layA]
          refine wpAnyH_take (i := 11) (oi := _) (v := ?vt411) rfl (by kernel_rfl) (by kernel_rfl) (by kernel_rfl) (fun _ _ _ h => h) (Or.inl ⟨by rfl, ?hyt411⟩) (by assumption) ?restt411
          case hyt411 => (intro w hSw; (try dsimp only at hSw); go_simp; first | done | rfl)
          try simp only [layA]
          refine wpAnyH_take (i := 12) (oi := _) (v := ?vt412) rfl (by kernel_rfl) (by kernel_rfl) (by kernel_rfl) (fun _ _ _ h => h) (Or.inl ⟨by rfl, ?hyt412⟩) (by assumption) ?restt412
          case hyt412 => (intro w hSw; (try dsimp only at hSw); go_simp; first | done | rfl)
          try simp only [layA]
          refine wpAnyH_take (i := 13) (oi := _) (v := ?vt413) rfl (by kernel_rfl) (by kernel_rfl) (by kernel_rfl) (fun _ _ _ h => h) (Or.inl ⟨by rfl, ?hyt413⟩) (by assumption) ?restt413
          case hyt413 => (intro w hSw; (try dsimp only at hSw); obtain ⟨p0, p1, p2, q0, q1, q2⟩ := Q hSw; go_simp; first | done | rfl)
          try simp only [layA]
          refine wpAnyH_take (i := 15) (oi := _) (v := ?vt415) rfl (by kernel_rfl) (by kernel_rfl) (by kernel_rfl) (fun _ _ _ h => h) (Or.inl ⟨by rfl, ?hyt415⟩) (by assumption) ?restt415
          case hyt415 => (intro w hSw; (try dsimp only at hSw); obtain ⟨p0, p1, p2, q0, q1, q2⟩ := Q hSw; go_simp; first | done | rfl)
          try simp only [layA]
          refine wpAnyH_ready (rs := [14]) (by kernel_rfl) (by simp) ?_
          refine AllReadyH.cons (o := _) rfl (fun K hK => ?_) AllReadyH.nil
          simp only [layG]
          rw [if_pos (by rfl)]
          go_simp
          go_at_call 81
          refine (refUpper a.x a.y a.s _ a1 a2 a3 a4 a5 a6).mono ?_
          rintro e w4 ⟨rfl, hbq⟩
          refine hK.out _ _ (hbT (by assumption) hbq) (fun hHeld => ?_)
          clear hK K
          try simp only [layA]
          refine wpAnyH_ready (rs := [16]) (by kernel_rfl) (by simp) ?_
          refine AllReadyH.cons (o := _) rfl (fun K hK => ?_) AllReadyH.nil
          simp only [layG]
          rw [if_pos (by rfl)]
          go_simp
          go_at_call 80
          refine (refLower b.x b.y b.s _).mono ?_
          rintro e w4 ⟨rfl, hbq⟩
          refine hK.out _ _ (hbT (by assumption) hbq) (fun hHeld => ?_)
          clear hK K
          try simp only [layA]
          refine wpAnyH_take (i := 17) (oi := _) (v := ?vt417) rfl (by kernel_rfl) (by kernel_rfl) (by kernel_rfl) (fun _ _ _ h => h) (Or.inl ⟨by rfl, ?hyt417⟩) (by assumption) ?restt417
          case hyt417 => (intro w hSw; (try dsimp only at hSw); go_simp; first | done | rfl)
          try simp only [layA]
          refine wpAnyH_take (i := 18) (oi := _) (v := ?vt418) rfl (by kernel_rfl) (by kernel_rfl) (by kernel_rfl) (fun _ _ _ h => h) (Or.inl ⟨by rfl, ?hyt418⟩) (by assumption) ?restt418
          case hyt418 => (intro w hSw; (try dsimp only at hSw); go_simp; first | done | rfl)
          try simp only [layA]
          refine wpAnyH_take (i := 19) (oi := _) (v := ?vt419) rfl (by kernel_rfl) (by kernel_rfl) (by kernel_rfl) (fun _ _ _ h => h) (Or.inl ⟨by rfl, ?hyt419⟩) (by assumption) ?restt419
          case hyt419 => (intro w hSw; (try dsimp only at hSw); go_simp; first | done | rfl)
          try simp only [layA]
          refine wpAnyH_take (i := 20) (oi := _) (v := ?vt420) rfl (by kernel_rfl) (by kernel_rfl) (by kernel_rfl) (fun _ _ _ h => h) (Or.inl ⟨by rfl, ?hyt420⟩) (by assumption) ?restt420
          case hyt420 => (intro w hSw; (try dsimp only at hSw); obtain ⟨p0, p1, p2, q0, q1, q2⟩ := Q hSw; go_simp; first | done | rfl)
          try simp only [layA]
          refine wpAnyH_take (i := 22) (oi := _) (v := ?vt422) rfl (by kernel_rfl) (by kernel_rfl) (by kernel_rfl) (fun _ _ _ h => h) (Or.inl ⟨by rfl, ?hyt422⟩) (by assumption) ?restt422
          case hyt422 => (intro w hSw; (try dsimp only at hSw); obtain ⟨p0, p1, p2, q0, q1, q2⟩ := Q hSw; go_simp; first | done | rfl)
          try simp only [layA]
          refine wpAnyH_ready (rs := [21]) (by kernel_rfl) (by simp) ?_
          refine AllReadyH.cons (o := _) rfl (fun K hK => ?_) AllReadyH.nil
          simp only [layG]
          rw [if_pos (by rfl)]
          go_simp
          go_at_call 81
          refine (refUpper a.x a.y a.s _ a1 a2 a3 a4 a5 a6).mono ?_
          rintro e w4 ⟨rfl, hbq⟩
          refine hK.out _ _ (hbT (by assumption) hbq) (fun hHeld => ?_)
          clear hK K
          try simp only [layA]
          refine wpAnyH_ready (rs := [23]) (by kernel_rfl) (by simp) ?_
          refine AllReadyH.cons (o := _) rfl (fun K hK => ?_) AllReadyH.nil
          simp only [layG]
          rw [if_pos (by rfl)]
          go_simp
          go_at_call 81
          refine (refUpper b.x b.y b.s _ b1 b2 b3 b4 b5 b6).mono ?_
          rintro e w4 ⟨rfl, hbq⟩
          refine hK.out _ _ (hbT (by assumption) hbq) (fun hHeld => ?_)
          clear hK K
          try simp only [layA]
          refine wpAnyH_take (i := 24) (oi := _) (v := ?vt424) rfl (by kernel_rfl) (by kernel_rfl) (by kernel_rfl) (fun _ _ _ h => h) (Or.inl ⟨by rfl, ?hyt424⟩) (by assumption) ?restt424
          case hyt424 => (intro w hSw; (try dsimp only at hSw); go_simp; first | done | rfl)
          try simp only [layA]
          refine wpAnyH_take (i := 25) (oi := _) (v := ?vt425) rfl (by kernel_rfl) (by kernel_rfl) (by kernel_rfl) (fun _ _ _ h => h) (Or.inl ⟨by rfl, ?hyt425⟩) (by assumption) ?restt425
          case hyt425 => (intro w hSw; (try dsimp only at hSw); go_simp; first | done | rfl)
          try simp only [layA]
          refine wpAnyH_take (i := 26) (oi := _) (v := ?vt426) rfl (by kernel_rfl) (by kernel_rfl) (by kernel_rfl) (fun _ _ _ h => h) (Or.inl ⟨by rfl, ?hyt426⟩) (by assumption) ?restt426
          case hyt426 => (intro w hSw; (try dsimp only at hSw); go_simp; first | done | rfl)
          try simp only [layA]
          refine wpAnyH_done (by kernel_rfl) ?_ _
          go_wp2
          go_ret
          exact ⟨ret_b HD.out.symm, fin hHeld⟩
        · have e4 := eqKnot' ⟨a.x + a.s, a.y + 1⟩ ⟨b.x + b.s, b.y + 1⟩ false (by simpa using h4)
          have HD := Lib.hid (show decide (Tch a b) = false by rw [decide_eq_false_iff_not]; exact fun h => h.elim h1 fun h => h.elim h2 fun h => h.elim h3 h4)
          clear h1 h2 h3 h4
          go_wp2_with fail
          rw [← HW1.out]
          refine wp_region_held_drew (S := (fun w' => Below w1.heap.size w1 w')) (by kernel_rfl) ?_ (fun hHeld => ?_)
          · exact below_drew (Below.refl _ _)
          refine wpAnyH_take (i := 0) (oi := _) (v := ?vt50) rfl (by kernel_rfl) (by kernel_rfl) (by kernel_rfl) (fun _ _ _ h => h) (Or.inl ⟨by rfl, ?hyt50⟩) (by assumption) ?restt50
          case hyt50 => (intro w hSw; (try dsimp only at hSw); obtain ⟨p0, p1, p2, q0, q1, q2⟩ := Q hSw; go_simp; first | done | rfl)
          try simp only [layA]
          refine wpAnyH_take (i := 2) (oi := _) (v := ?vt52) rfl (by kernel_rfl) (by kernel_rfl) (by kernel_rfl) (fun _ _ _ h => h) (Or.inl ⟨by rfl, ?hyt52⟩) (by assumption) ?restt52
          case hyt52 => (intro w hSw; (try dsimp only at hSw); obtain ⟨p0, p1, p2, q0, q1, q2⟩ := Q hSw; go_simp; first | done | rfl)
          try simp only [layA]
          refine wpAnyH_ready (rs := [1]) (by kernel_rfl) (by simp) ?_
          refine AllReadyH.cons (o := _) rfl (fun K hK => ?_) AllReadyH.nil
          simp only [layG]
          go_simp
          go_at_call 80
          refine (refLower a.x a.y a.s _).mono ?_
          rintro e w4 ⟨rfl, hbq⟩
          refine hK.out _ _ (hbT (by assumption) hbq) (fun hHeld => ?_)
          clear hK K
          try simp only [layA]
          refine wpAnyH_ready (rs := [3]) (by kernel_rfl) (by simp) ?_
          refine AllReadyH.cons (o := _) rfl (fun K hK => ?_) AllReadyH.nil
          simp only [layG]
          go_simp
          go_at_call 80
          refine (refLower b.x b.y b.s _).mono ?_
          rintro e w4 ⟨rfl, hbq⟩
          refine hK.out _ _ (hbT (by assumption) hbq) (fun hHeld => ?_)
          clear hK K
          try simp only [layA]
          refine wpAnyH_take (i := 4) (oi := _) (v := ?vt54) rfl (by kernel_rfl) (by kernel_rfl) (by kernel_rfl) (fun _ _ _ h => h) (Or.inl ⟨by rfl, ?hyt54⟩) (by assumption) ?restt54
          case hyt54 => (intro w hSw; (try dsimp only at hSw); go_simp; first | done | rfl)
          try simp only [layA]
          refine wpAnyH_take (i := 5) (oi := _) (v := ?vt55) rfl (by kernel_rfl) (by kernel_rfl) (by kernel_rfl) (fun _ _ _ h => h) (Or.inl ⟨by rfl, ?hyt55⟩) (by assumption) ?restt55
          case hyt55 => (intro w hSw; (try dsimp only at hSw); go_simp; first | done | rfl)
          try simp only [layA]
          refine wpAnyH_take (i := 6) (oi := _) (v := ?vt56) rfl (by kernel_rfl) (by kernel_rfl) (by kernel_rfl) (fun _ _ _ h => h) (Or.inl ⟨by rfl, ?hyt56⟩) (by assumption) ?restt56
          case hyt56 => (intro w hSw; (try dsimp only at hSw); obtain ⟨p0, p1, p2, q0, q1, q2⟩ := Q hSw; go_simp; first | done | rfl)
          try simp only [layA]
          refine wpAnyH_take (i := 8) (oi := _) (v := ?vt58) rfl (by kernel_rfl) (by kernel_rfl) (by kernel_rfl) (fun _ _ _ h => h) (Or.inl ⟨by rfl, ?hyt58⟩) (by assumption) ?restt58
          case hyt58 => (intro w hSw; (try dsimp only at hSw); obtain ⟨p0, p1, p2, q0, q1, q2⟩ := Q hSw; go_simp; first | done | rfl)
          try simp only [layA]
          refine wpAnyH_ready (rs := [7]) (by kernel_rfl) (by simp) ?_
          refine AllReadyH.cons (o := _) rfl (fun K hK => ?_) AllReadyH.nil
          simp only [layG]
          rw [if_pos (by rfl)]
          go_simp
          go_at_call 80
          refine (refLower a.x a.y a.s _).mono ?_
          rintro e w4 ⟨rfl, hbq⟩
          refine hK.out _ _ (hbT (by assumption) hbq) (fun hHeld => ?_)
          clear hK K
          try simp only [layA]
          refine wpAnyH_ready (rs := [9]) (by kernel_rfl) (by simp) ?_
          refine AllReadyH.cons (o := _) rfl (fun K hK => ?_) AllReadyH.nil
          simp only [layG]
          rw [if_pos (by rfl)]
          go_simp
          go_at_call 81
          refine (refUpper b.x b.y b.s _ b1 b2 b3 b4 b5 b6).mono ?_
          rintro e w4 ⟨rfl, hbq⟩
          refine hK.out _ _ (hbT (by assumption) hbq) (fun hHeld => ?_)
          clear hK K
          try simp only [layA]
          refine wpAnyH_take (i := 10) (oi := _) (v := ?vt510) rfl (by kernel_rfl) (by kernel_rfl) (by kernel_rfl) (fun _ _ _ h => h) (Or.inl ⟨by rfl, ?hyt510⟩) (by assumption) ?restt510
          case hyt510 => (intro w hSw; (try dsimp only at hSw); go_simp; first | done | rfl)
          try simp only [layA]
          refine wpAnyH_take (i := 11) (oi := _) (v := ?vt511) rfl (by kernel_rfl) (by kernel_rfl) (by kernel_rfl) (fun _ _ _ h => h) (Or.inl ⟨by rfl, ?hyt511⟩) (by assumption) ?restt511
          case hyt511 => (intro w hSw; (try dsimp only at hSw); go_simp; first | done | rfl)
          try simp only [layA]
          refine wpAnyH_take (i := 12) (oi := _) (v := ?vt512) rfl (by kernel_rfl) (by kernel_rfl) (by kernel_rfl) (fun _ _ _ h => h) (Or.inl ⟨by rfl, ?hyt512⟩) (by assumption) ?restt512
          case hyt512 => (intro w hSw; (try dsimp only at hSw); go_simp; first | done | rfl)
          try simp only [layA]
          refine wpAnyH_take (i := 13) (oi := _) (v := ?vt513) rfl (by kernel_rfl) (by kernel_rfl) (by kernel_rfl) (fun _ _ _ h => h) (Or.inl ⟨by rfl, ?hyt513⟩) (by assumption) ?restt513
          case hyt513 => (intro w hSw; (try dsimp only at hSw); obtain ⟨p0, p1, p2, q0, q1, q2⟩ := Q hSw; go_simp; first | done | rfl)
          try simp only [layA]
          refine wpAnyH_take (i := 15) (oi := _) (v := ?vt515) rfl (by kernel_rfl) (by kernel_rfl) (by kernel_rfl) (fun _ _ _ h => h) (Or.inl ⟨by rfl, ?hyt515⟩) (by assumption) ?restt515
          case hyt515 => (intro w hSw; (try dsimp only at hSw); obtain ⟨p0, p1, p2, q0, q1, q2⟩ := Q hSw; go_simp; first | done | rfl)
          try simp only [layA]
          refine wpAnyH_ready (rs := [14]) (by kernel_rfl) (by simp) ?_
          refine AllReadyH.cons (o := _) rfl (fun K hK => ?_) AllReadyH.nil
          simp only [layG]
          rw [if_pos (by rfl)]
          go_simp
          go_at_call 81
          refine (refUpper a.x a.y a.s _ a1 a2 a3 a4 a5 a6).mono ?_
          rintro e w4 ⟨rfl, hbq⟩
          refine hK.out _ _ (hbT (by assumption) hbq) (fun hHeld => ?_)
          clear hK K
          try simp only [layA]
          refine wpAnyH_ready (rs := [16]) (by kernel_rfl) (by simp) ?_
          refine AllReadyH.cons (o := _) rfl (fun K hK => ?_) AllReadyH.nil
          simp only [layG]
          rw [if_pos (by rfl)]
          go_simp
          go_at_call 80
          refine (refLower b.x b.y b.s _).mono ?_
          rintro e w4 ⟨rfl, hbq⟩
          refine hK.out _ _ (hbT (by assumption) hbq) (fun hHeld => ?_)
          clear hK K
          try simp only [layA]
          refine wpAnyH_take (i := 17) (oi := _) (v := ?vt517) rfl (by kernel_rfl) (by kernel_rfl) (by kernel_rfl) (fun _ _ _ h => h) (Or.inl ⟨by rfl, ?hyt517⟩) (by assumption) ?restt517
          case hyt517 => (intro w hSw; (try dsimp only at hSw); go_simp; first | done | rfl)
          try simp only [layA]
          refine wpAnyH_take (i := 18) (oi := _) (v := ?vt518) rfl (by kernel_rfl) (by kernel_rfl) (by kernel_rfl) (fun _ _ _ h => h) (Or.inl ⟨by rfl, ?hyt518⟩) (by assumption) ?restt518
          case hyt518 => (intro w hSw; (try dsimp only at hSw); go_simp; first | done | rfl)
          try simp only [layA]
          refine wpAnyH_take (i := 19) (oi := _) (v := ?vt519) rfl (by kernel_rfl) (by kernel_rfl) (by kernel_rfl) (fun _ _ _ h => h) (Or.inl ⟨by rfl, ?hyt519⟩) (by assumption) ?restt519
          case hyt519 => (intro w hSw; (try dsimp only at hSw); go_simp; first | done | rfl)
          try simp only [layA]
          refine wpAnyH_take (i := 20) (oi := _) (v := ?vt520) rfl (by kernel_rfl) (by kernel_rfl) (by kernel_rfl) (fun _ _ _ h => h) (Or.inl ⟨by rfl, ?hyt520⟩) (by assumption) ?restt520
          case hyt520 => (intro w hSw; (try dsimp only at hSw); obtain ⟨p0, p1, p2, q0, q1, q2⟩ := Q hSw; go_simp; first | done | rfl)
          try simp only [layA]
          refine wpAnyH_take (i := 22) (oi := _) (v := ?vt522) rfl (by kernel_rfl) (by kernel_rfl) (by kernel_rfl) (fun _ _ _ h => h) (Or.inl ⟨by rfl, ?hyt522⟩) (by assumption) ?restt522
          case hyt522 => (intro w hSw; (try dsimp only at hSw); obtain ⟨p0, p1, p2, q0, q1, q2⟩ := Q hSw; go_simp; first | done | rfl)
          try simp only [layA]
          refine wpAnyH_ready (rs := [21]) (by kernel_rfl) (by simp) ?_
          refine AllReadyH.cons (o := _) rfl (fun K hK => ?_) AllReadyH.nil
          simp only [layG]
          rw [if_pos (by rfl)]
          go_simp
          go_at_call 81
          refine (refUpper a.x a.y a.s _ a1 a2 a3 a4 a5 a6).mono ?_
          rintro e w4 ⟨rfl, hbq⟩
          refine hK.out _ _ (hbT (by assumption) hbq) (fun hHeld => ?_)
          clear hK K
          try simp only [layA]
          refine wpAnyH_ready (rs := [23]) (by kernel_rfl) (by simp) ?_
          refine AllReadyH.cons (o := _) rfl (fun K hK => ?_) AllReadyH.nil
          simp only [layG]
          rw [if_pos (by rfl)]
          go_simp
          go_at_call 81
          refine (refUpper b.x b.y b.s _ b1 b2 b3 b4 b5 b6).mono ?_
          rintro e w4 ⟨rfl, hbq⟩
          refine hK.out _ _ (hbT (by assumption) hbq) (fun hHeld => ?_)
          clear hK K
          try simp only [layA]
          refine wpAnyH_take (i := 24) (oi := _) (v := ?vt524) rfl (by kernel_rfl) (by kernel_rfl) (by kernel_rfl) (fun _ _ _ h => h) (Or.inl ⟨by rfl, ?hyt524⟩) (by assumption) ?restt524
          case hyt524 => (intro w hSw; (try dsimp only at hSw); go_simp; first | done | rfl)
          try simp only [layA]
          refine wpAnyH_take (i := 25) (oi := _) (v := ?vt525) rfl (by kernel_rfl) (by kernel_rfl) (by kernel_rfl) (fun _ _ _ h => h) (Or.inl ⟨by rfl, ?hyt525⟩) (by assumption) ?restt525
          case hyt525 => (intro w hSw; (try dsimp only at hSw); go_simp; first | done | rfl)
          try simp only [layA]
          refine wpAnyH_take (i := 26) (oi := _) (v := ?vt526) rfl (by kernel_rfl) (by kernel_rfl) (by kernel_rfl) (fun _ _ _ h => h) (Or.inl ⟨by rfl, ?hyt526⟩) (by assumption) ?restt526
          case hyt526 => (intro w hSw; (try dsimp only at hSw); go_simp; first | done | rfl)
          try simp only [layA]
          refine wpAnyH_done (by kernel_rfl) ?_ _
          go_wp2
          go_ret
          exact ⟨ret_b HD.out.symm, fin hHeld⟩
end Go.Proofs.YtdeplhihcifmeaaGreatDoor

/- Part of the reference: all bars that are connected with one. -/
namespace Go.Proofs.YtdeplhihcifmeaaGreatDoor
open Go.RowKit Go.Shelf Ck

theorem rowNew (w : World) (base : Nat) (hb : base ≤ w.heap.size) (t : TypeId) (l : List Bar) (hl : l.length ≤ 10000) : (w.alloc (.cells (bcellsL l).toArray t)).ownsRow base t 3 (.slice (some ⟨w.heap.size, 0, none⟩) l.length l.length) l.length (bcellsL l) :=
  ⟨by rw [bcellsL_length], .inr ⟨w.heap.size, l.length, _, rfl, hb, heap_alloc_new _ _, Nat.le_refl _, by unfold maxLen; omega, by simp [bcellsL_length], by rw [List.take_of_length_le (by simp [bcellsL_length])]⟩⟩
def PartR (l : List Bar) (b : Bar) (w : World) (e : Ending) (w' : World) : Prop := ∃ v g, e = .returned v ∧ g.Pairwise Blt ∧ (∀ y, y ∈ g ↔ y ∈ l ∧ Conn l b.lo y.lo) ∧ g.length ≤ l.length ∧ w'.ownsRow w.heap.size 24 3 v g.length (bcellsL g) ∧ Below w.heap.size w w'
set_option maxHeartbeats 8000000 in
set_option maxRecDepth 100000 in
theorem refPart (A : Option Addr) (c : Nat) (l : List Bar) (b : Bar) (w : World) (hl : l.length ≤ 4096) (hok : ∀ x ∈ l, okBar x) (hm : b ∈ l) (h : OKS w A c l) :
    Calls Tryz.prog 106 #[.slice A l.length c, .agg #[.int .i64 b.x, .int .i64 b.y, .int .i64 b.s]] w (PartR l b w) := by
  obtain ⟨ib, hib, hb0, hb01, hb02⟩ := info_parts Tryz.info24
  have HIB := Lib.hid hib
  have HB0 := Lib.hid hb0
  have HB1 := Lib.hid hb01
  have HB2 := Lib.hid hb02
  obtain ⟨w1, hw1, z0, z1, z2, hbx, hz1⟩ := box3 w (.int .i64 b.x) (.int .i64 b.y) (.int .i64 b.s) 24
  have HW1 := Lib.hid hw1
  have HR := Lib.hid h
  have HOK := Lib.hid hok
  have HM := Lib.hid hm
  have hl' : (l.length : Int) ≤ 4096 := by omega
  have hz1s := hbx.size
  have hz1e : w1.heap.size = w.heap.size + 1 := by rw [hw1]; simp
  clear hib hb0 hb01 hb02 h hok hw1 hm
  go_enter Tryz.func106, Tryz.ntmps106
  go_wp2_with fail
  rw [← HW1.out]
  go_wp2_with fail
  obtain ⟨w2, hw2⟩ : ∃ w2, w1.alloc (.cells #[.int .i64 b.x, .int .i64 b.y, .int .i64 b.s] 24) = w2 := ⟨_, rfl⟩
  have HV0 := Lib.hid (show ShRow w.heap.size (.slice (some ⟨w.heap.size + 1, 0, none⟩) 1 1) [b] w2 by rw [← hz1e, ← hw2]; exact rowNew w1 _ hz1s _ [b] (by simp))
  have hb2 : Below w.heap.size w w2 := by rw [← hw2]; exact hbx.alloc hz1s _
  rw [hw2]
  clear hw2 z0 z1 z2 hbx
  go_loopw [5, 6, 7] (fun v i _ wr => ∃ (P : List Bar) (j : Nat), j ≤ P.length ∧ i = .int .i64 j ∧ Hid (ShRow w.heap.size v P wr) ∧ Hid (Rchs l b P j 0) ∧ Below w.heap.size w wr) (fun _ i _ _ => l.length - (intOf i).toNat)
  case atStart => exact ⟨[b], 0, Nat.zero_le _, rfl, HV0, Lib.hid (Rchs.start HM.out), hb2⟩
  case round =>
    obtain ⟨P, j, hj, rfl, hv, hre, hb⟩ := hrel
    have hbz := hb.size
    have hPl := hre.out.le
    obtain ⟨g, cap, rfl, hg, hkc, hcm, hgz⟩ := own_form hv.out (List.length_pos_of_mem hre.out.beg)
    by_cases hlt : j < P.length
    · have hjI : (j : Int) < (P.length : Int) := by omega
      have hj0 : (0 : Int) ≤ (j : Int) := by omega
      go_wp2_with fail
      go_loopw [5, 7] (fun v k' wr => ∃ (P : List Bar) (k : Nat), k ≤ l.length ∧ j < P.length ∧ k' = .int .i64 k ∧ Hid (ShRow w.heap.size v P wr) ∧ Hid (Rchs l b P j k) ∧ Below w.heap.size w wr) (fun _ k' _ => l.length - (intOf k').toNat)
      case atStart => exact ⟨P, 0, Nat.zero_le _, hlt, rfl, hv, hre, hb⟩
      case round =>
        clear hv hre hb hbz hPl hg hkc hcm hgz hlt hjI hj
        obtain ⟨P, k, hk, hjP, rfl, hv, hre, hb⟩ := hrel
        have hbz := hb.size
        have hPl := hre.out.le
        obtain ⟨g, cap, rfl, hg, hkc, hcm, hgz⟩ := own_form hv.out (List.length_pos_of_mem hre.out.beg)
        have HP := Lib.hid (show OKS wr (some ⟨g, 0, none⟩) cap P from ⟨hkc, hcm, by simp, RB.of_own hv.out⟩)
        by_cases hkl : k < l.length
        · obtain ⟨b', off, rfl, hB, hc⟩ := ((HR.out.below hb).2.2.2) (by omega)
          obtain ⟨d0, d1, d2⟩ := hc k hkl
          obtain ⟨_, _, hA', _, hcp⟩ := HP.out.2.2.2 (by omega)
          cases hA'
          obtain ⟨c0, c1, c2⟩ := hcp j hjP
          simp only [Nat.zero_add] at c0 c1 c2
          have hkI : (k : Int) < (l.length : Int) := by omega
          have hk0 : (0 : Int) ≤ (k : Int) := by omega
          have hjI : (j : Int) < (P.length : Int) := by omega
          clear hc hcp
          obtain ⟨y, hy⟩ : ∃ y, l[k] = y := ⟨_, rfl⟩
          obtain ⟨p, hp⟩ : ∃ p, P[j] = p := ⟨_, rfl⟩
          have HPO := Lib.hid (show okBar p by rw [← hp]; exact HOK.out _ (hre.out.sub _ (List.getElem_mem hjP)))
          have HYO := Lib.hid (show okBar y by rw [← hy]; exact HOK.out _ (List.getElem_mem hkl))
          have HSK := Lib.hid (show (Tch p y → y ∈ P) → Rchs l b P j (k + 1) from fun h => hre.out.skip hjP hkl (by rw [hy, hp]; exact h))
          have HAD := Lib.hid (show Tch p y → y ∉ P → Rchs l b (P ++ [y]) j (k + 1) from fun h1 h2 => by have := hre.out.add hjP hkl (by rw [hy, hp]; exact h1) (by rw [hy]; exact h2); rwa [hy] at this)
          rw [hy] at d0 d1 d2
          rw [hp] at c0 c1 c2
          have CR : ∀ {W : World}, Below wr.heap.size wr W → W.cell? ⟨g, j * 3, none⟩ = some (.int .i64 p.x) ∧ W.cell? ⟨g, j * 3 + 1, none⟩ = some (.int .i64 p.y) ∧ W.cell? ⟨g, j * 3 + 2, none⟩ = some (.int .i64 p.s) ∧ W.cell? ⟨b', off + k * 3, none⟩ = some (.int .i64 y.x) ∧ W.cell? ⟨b', off + k * 3 + 1, none⟩ = some (.int .i64 y.y) ∧ W.cell? ⟨b', off + k * 3 + 2, none⟩ = some (.int .i64 y.s) :=
            fun hq => ⟨(hq.cell (p := ⟨g, j * 3, none⟩) hgz).trans c0, (hq.cell (p := ⟨g, j * 3 + 1, none⟩) hgz).trans c1, (hq.cell (p := ⟨g, j * 3 + 2, none⟩) hgz).trans c2, (hq.cell (p := ⟨b', off + k * 3, none⟩) hB).trans d0, (hq.cell (p := ⟨b', off + k * 3 + 1, none⟩) hB).trans d1, (hq.cell (p := ⟨b', off + k * 3 + 2, none⟩) hB).trans d2⟩
          clear hy hp d0 d1 d2 c0 c1 c2
          by_cases ht : Tch p y
          · have HT := Lib.hid (show decide (Tch p y) = true by simpa using ht)
            by_cases hin : y ∈ P
            · have HH := Lib.hid (show decide (y ∈ P) = true by simpa using hin)
              have HRS := Lib.hid (HSK.out fun _ => hin)
              clear ht hin HSK HAD hre
              go_wp2_with fail
              refine wp_region_held_drew (S := (fun w' => Below wr.heap.size wr w')) (by kernel_rfl) ?_ (fun hHeld => ?_)
              · exact below_drew (Below.refl _ _)
              refine wpAnyH_take (i := 0) (oi := _) (v := ?va0) rfl (by kernel_rfl) (by kernel_rfl) (by kernel_rfl) (fun _ _ _ h => h) (Or.inl ⟨by rfl, ?hya0⟩) (by assumption) ?resta0
              case hya0 => (intro w hSw; (try dsimp only at hSw); go_simp; first | done | rfl)
              try simp only [layA]
              refine wpAnyH_take (i := 1) (oi := _) (v := ?va1) rfl (by kernel_rfl) (by kernel_rfl) (by kernel_rfl) (fun _ _ _ h => h) (Or.inl ⟨by rfl, ?hya1⟩) (by assumption) ?resta1
              case hya1 => (intro w hSw; (try dsimp only at hSw); go_simp; first | done | rfl)
              try simp only [layA]
              refine wpAnyH_take (i := 2) (oi := _) (v := ?va2) rfl (by kernel_rfl) (by kernel_rfl) (by kernel_rfl) (fun _ _ _ h => h) (Or.inl ⟨by rfl, ?hya2⟩) (by assumption) ?resta2
              case hya2 => (intro w hSw; (try dsimp only at hSw); go_simp; first | done | rfl)
              try simp only [layA]
              refine wpAnyH_take (i := 3) (oi := _) (v := ?va3) rfl (by kernel_rfl) (by kernel_rfl) (by kernel_rfl) (fun _ _ _ h => h) (Or.inl ⟨by rfl, ?hya3⟩) (by assumption) ?resta3
              case hya3 => (intro w hSw; (try dsimp only at hSw); obtain ⟨e0, e1, e2, f0, f1, f2⟩ := CR hSw; go_simp; first | done | rfl)
              try simp only [layA]
              refine wpAnyH_take (i := 4) (oi := _) (v := ?va4) rfl (by kernel_rfl) (by kernel_rfl) (by kernel_rfl) (fun _ _ _ h => h) (Or.inl ⟨by rfl, ?hya4⟩) (by assumption) ?resta4
              case hya4 => (intro w hSw; (try dsimp only at hSw); go_simp; first | done | rfl)
              try simp only [layA]
              refine wpAnyH_take (i := 5) (oi := _) (v := ?va5) rfl (by kernel_rfl) (by kernel_rfl) (by kernel_rfl) (fun _ _ _ h => h) (Or.inl ⟨by rfl, ?hya5⟩) (by assumption) ?resta5
              case hya5 => (intro w hSw; (try dsimp only at hSw); go_simp; first | done | rfl)
              try simp only [layA]
              refine wpAnyH_take (i := 6) (oi := _) (v := ?va6) rfl (by kernel_rfl) (by kernel_rfl) (by kernel_rfl) (fun _ _ _ h => h) (Or.inl ⟨by rfl, ?hya6⟩) (by assumption) ?resta6
              case hya6 => (intro w hSw; (try dsimp only at hSw); go_simp; first | done | rfl)
              try simp only [layA]
              refine wpAnyH_take (i := 7) (oi := _) (v := ?va7) rfl (by kernel_rfl) (by kernel_rfl) (by kernel_rfl) (fun _ _ _ h => h) (Or.inl ⟨by rfl, ?hya7⟩) (by assumption) ?resta7
              case hya7 => (intro w hSw; (try dsimp only at hSw); obtain ⟨e0, e1, e2, f0, f1, f2⟩ := CR hSw; go_simp; first | done | rfl)
              try simp only [layA]
              refine wpAnyH_ready (rs := [8]) (by kernel_rfl) (by simp) ?_
              refine AllReadyH.cons (o := _) rfl (fun K hK => ?_) AllReadyH.nil
              simp only [layG]
              go_simp
              go_at_call 143
              refine (refTouches p y _ HPO.out HYO.out).mono ?_
              rintro e w4 ⟨rfl, hbq⟩
              rw [HT.out]
              refine hK.out _ _ (hbT (by assumption) hbq) (fun hHeld => ?_)
              clear hK K
              try simp only [layA]
              refine wpAnyH_take (i := 9) (oi := _) (v := ?va9) rfl (by kernel_rfl) (by kernel_rfl) (by kernel_rfl) (fun _ _ _ h => h) (Or.inl ⟨by rfl, ?hya9⟩) (by assumption) ?resta9
              case hya9 => (intro w hSw; (try dsimp only at hSw); go_simp; first | done | rfl)
              try simp only [layA]
              refine wpAnyH_take (i := 10) (oi := _) (v := ?va10) rfl (by kernel_rfl) (by kernel_rfl) (by kernel_rfl) (fun _ _ _ h => h) (Or.inl ⟨by rfl, ?hya10⟩) (by assumption) ?resta10
              case hya10 => (intro w hSw; (try dsimp only at hSw); go_simp; first | done | rfl)
              try simp only [layA]
              refine wpAnyH_take (i := 11) (oi := _) (v := ?va11) rfl (by kernel_rfl) (by kernel_rfl) (by kernel_rfl) (fun _ _ _ h => h) (Or.inl ⟨by rfl, ?hya11⟩) (by assumption) ?resta11
              case hya11 => (intro w hSw; (try dsimp only at hSw); go_simp; first | done | rfl)
              try simp only [layA]
              refine wpAnyH_take (i := 12) (oi := _) (v := ?va12) rfl (by kernel_rfl) (by kernel_rfl) (by kernel_rfl) (fun _ _ _ h => h) (Or.inl ⟨by rfl, ?hya12⟩) (by assumption) ?resta12
              case hya12 => (intro w hSw; (try dsimp only at hSw); go_simp; first | done | rfl)
              try simp only [layA]
              refine wpAnyH_take (i := 13) (oi := _) (v := ?va13) rfl (by kernel_rfl) (by kernel_rfl) (by kernel_rfl) (fun _ _ _ h => h) (Or.inl ⟨by rfl, ?hya13⟩) (by assumption) ?resta13
              case hya13 => (intro w hSw; (try dsimp only at hSw); go_simp; first | done | rfl)
              try simp only [layA]
              refine wpAnyH_take (i := 14) (oi := _) (v := ?va14) rfl (by kernel_rfl) (by kernel_rfl) (by kernel_rfl) (fun _ _ _ h => h) (Or.inl ⟨by rfl, ?hya14⟩) (by assumption) ?resta14
              case hya14 => (intro w hSw; (try dsimp only at hSw); obtain ⟨e0, e1, e2, f0, f1, f2⟩ := CR hSw; go_simp; first | done | rfl)
              try simp only [layA]
              refine wpAnyH_ready (rs := [15]) (by kernel_rfl) (by simp) ?_
              refine AllReadyH.cons (o := _) rfl (fun K hK => ?_) AllReadyH.nil
              simp only [layG]
              rw [if_pos (by rfl)]
              go_simp
              go_at_call 31
              refine (refHasBar (some ⟨g, 0, none⟩) cap P y _ (by omega) (HP.out.below hHeld).2.2.2).mono ?_
              rintro e w5 ⟨rfl, hbq⟩
              rw [HH.out]
              refine hK.out _ _ (hbT (by assumption) hbq) (fun hHeld => ?_)
              clear hK K
              try simp only [layA]
              refine wpAnyH_take (i := 16) (oi := _) (v := ?va16) rfl (by kernel_rfl) (by kernel_rfl) (by kernel_rfl) (fun _ _ _ h => h) (Or.inl ⟨by rfl, ?hya16⟩) (by assumption) ?resta16
              case hya16 => (intro w hSw; (try dsimp only at hSw); go_simp; first | done | rfl)
              try simp only [layA]
              refine wpAnyH_take (i := 17) (oi := _) (v := ?va17) rfl (by kernel_rfl) (by kernel_rfl) (by kernel_rfl) (fun _ _ _ h => h) (Or.inl ⟨by rfl, ?hya17⟩) (by assumption) ?resta17
              case hya17 => (intro w hSw; (try dsimp only at hSw); go_simp; first | done | rfl)
              try simp only [layA]
              refine wpAnyH_done (by kernel_rfl) ?_ _
              have hbel := hb.trans (hHeld.mono hbz)
              have HV2 := Lib.hid (show ShRow w.heap.size (.slice (some ⟨g, 0, none⟩) P.length cap) P _ from ownsRow_below hv.out hHeld)
              go_wp2
              go_roundw
              case rel => exact ⟨P, k + 1, by omega, by omega, by go_num, HV2, HRS, hbel⟩
              case measure => simp [intOf]; omega
            · have HH := Lib.hid (show decide (y ∈ P) = false by simpa using hin)
              have HRA := Lib.hid (HAD.out ht hin)
              have hPl2 : P.length + 1 ≤ l.length := by have := HRA.out.le; rw [List.length_append] at this; simpa using this
              clear ht hin HSK HAD hre
              go_wp2_with fail
              refine wp_region_held_drew (S := (fun w' => Below wr.heap.size wr w')) (by kernel_rfl) ?_ (fun hHeld => ?_)
              · exact below_drew (Below.refl _ _)
              refine wpAnyH_take (i := 0) (oi := _) (v := ?vb0) rfl (by kernel_rfl) (by kernel_rfl) (by kernel_rfl) (fun _ _ _ h => h) (Or.inl ⟨by rfl, ?hyb0⟩) (by assumption) ?restb0
              case hyb0 => (intro w hSw; (try dsimp only at hSw); go_simp; first | done | rfl)
              try simp only [layA]
              refine wpAnyH_take (i := 1) (oi := _) (v := ?vb1) rfl (by kernel_rfl) (by kernel_rfl) (by kernel_rfl) (fun _ _ _ h => h) (Or.inl ⟨by rfl, ?hyb1⟩) (by assumption) ?restb1
              case hyb1 => (intro w hSw; (try dsimp only at hSw); go_simp; first | done | rfl)
              try simp only [layA]
              refine wpAnyH_take (i := 2) (oi := _) (v := ?vb2) rfl (by kernel_rfl) (by kernel_rfl) (by kernel_rfl) (fun _ _ _ h => h) (Or.inl ⟨by rfl, ?hyb2⟩) (by assumption) ?restb2
              case hyb2 => (intro w hSw; (try dsimp only at hSw); go_simp; first | done | rfl)
              try simp only [layA]
              refine wpAnyH_take (i := 3) (oi := _) (v := ?vb3) rfl (by kernel_rfl) (by kernel_rfl) (by kernel_rfl) (fun _ _ _ h => h) (Or.inl ⟨by rfl, ?hyb3⟩) (by assumption) ?restb3
              case hyb3 => (intro w hSw; (try dsimp only at hSw); obtain ⟨e0, e1, e2, f0, f1, f2⟩ := CR hSw; go_simp; first | done | rfl)
              try simp only [layA]
              refine wpAnyH_take (i := 4) (oi := _) (v := ?vb4) rfl (by kernel_rfl) (by kernel_rfl) (by kernel_rfl) (fun _ _ _ h => h) (Or.inl ⟨by rfl, ?hyb4⟩) (by assumption) ?restb4
              case hyb4 => (intro w hSw; (try dsimp only at hSw); go_simp; first | done | rfl)
              try simp only [layA]
              refine wpAnyH_take (i := 5) (oi := _) (v := ?vb5) rfl (by kernel_rfl) (by kernel_rfl) (by kernel_rfl) (fun _ _ _ h => h) (Or.inl ⟨by rfl, ?hyb5⟩) (by assumption) ?restb5
              case hyb5 => (intro w hSw; (try dsimp only at hSw); go_simp; first | done | rfl)
              try simp only [layA]
              refine wpAnyH_take (i := 6) (oi := _) (v := ?vb6) rfl (by kernel_rfl) (by kernel_rfl) (by kernel_rfl) (fun _ _ _ h => h) (Or.inl ⟨by rfl, ?hyb6⟩) (by assumption) ?restb6
              case hyb6 => (intro w hSw; (try dsimp only at hSw); go_simp; first | done | rfl)
              try simp only [layA]
              refine wpAnyH_take (i := 7) (oi := _) (v := ?vb7) rfl (by kernel_rfl) (by kernel_rfl) (by kernel_rfl) (fun _ _ _ h => h) (Or.inl ⟨by rfl, ?hyb7⟩) (by assumption) ?restb7
              case hyb7 => (intro w hSw; (try dsimp only at hSw); obtain ⟨e0, e1, e2, f0, f1, f2⟩ := CR hSw; go_simp; first | done | rfl)
              try simp only [layA]
              refine wpAnyH_ready (rs := [8]) (by kernel_rfl) (by simp) ?_
              refine AllReadyH.cons (o := _) rfl (fun K hK => ?_) AllReadyH.nil
              simp only [layG]
              go_simp
              go_at_call 143
              refine (refTouches p y _ HPO.out HYO.out).mono ?_
              rintro e w4 ⟨rfl, hbq⟩
              rw [HT.out]
              refine hK.out _ _ (hbT (by assumption) hbq) (fun hHeld => ?_)
              clear hK K
              try simp only [layA]
              refine wpAnyH_take (i := 9) (oi := _) (v := ?vb9) rfl (by kernel_rfl) (by kernel_rfl) (by kernel_rfl) (fun _ _ _ h => h) (Or.inl ⟨by rfl, ?hyb9⟩) (by assumption) ?restb9
              case hyb9 => (intro w hSw; (try dsimp only at hSw); go_simp; first | done | rfl)
              try simp only [layA]
              refine wpAnyH_take (i := 10) (oi := _) (v := ?vb10) rfl (by kernel_rfl) (by kernel_rfl) (by kernel_rfl) (fun _ _ _ h => h) (Or.inl ⟨by rfl, ?hyb10⟩) (by assumption) ?restb10
              case hyb10 => (intro w hSw; (try dsimp only at hSw); go_simp; first | done | rfl)
              try simp only [layA]
              refine wpAnyH_take (i := 11) (oi := _) (v := ?vb11) rfl (by kernel_rfl) (by kernel_rfl) (by kernel_rfl) (fun _ _ _ h => h) (Or.inl ⟨by rfl, ?hyb11⟩) (by assumption) ?restb11
              case hyb11 => (intro w hSw; (try dsimp only at hSw); go_simp; first | done | rfl)
              try simp only [layA]
              refine wpAnyH_take (i := 12) (oi := _) (v := ?vb12) rfl (by kernel_rfl) (by kernel_rfl) (by kernel_rfl) (fun _ _ _ h => h) (Or.inl ⟨by rfl, ?hyb12⟩) (by assumption) ?restb12
              case hyb12 => (intro w hSw; (try dsimp only at hSw); go_simp; first | done | rfl)
              try simp only [layA]
              refine wpAnyH_take (i := 13) (oi := _) (v := ?vb13) rfl (by kernel_rfl) (by kernel_rfl) (by kernel_rfl) (fun _ _ _ h => h) (Or.inl ⟨by rfl, ?hyb13⟩) (by assumption) ?restb13
              case hyb13 => (intro w hSw; (try dsimp only at hSw); go_simp; first | done | rfl)
              try simp only [layA]
              refine wpAnyH_take (i := 14) (oi := _) (v := ?vb14) rfl (by kernel_rfl) (by kernel_rfl) (by kernel_rfl) (fun _ _ _ h => h) (Or.inl ⟨by rfl, ?hyb14⟩) (by assumption) ?restb14
              case hyb14 => (intro w hSw; (try dsimp only at hSw); obtain ⟨e0, e1, e2, f0, f1, f2⟩ := CR hSw; go_simp; first | done | rfl)
              try simp only [layA]
              refine wpAnyH_ready (rs := [15]) (by kernel_rfl) (by simp) ?_
              refine AllReadyH.cons (o := _) rfl (fun K hK => ?_) AllReadyH.nil
              simp only [layG]
              rw [if_pos (by rfl)]
              go_simp
              go_at_call 31
              refine (refHasBar (some ⟨g, 0, none⟩) cap P y _ (by omega) (HP.out.below hHeld).2.2.2).mono ?_
              rintro e w5 ⟨rfl, hbq⟩
              rw [HH.out]
              refine hK.out _ _ (hbT (by assumption) hbq) (fun hHeld => ?_)
              clear hK K
              try simp only [layA]
              refine wpAnyH_take (i := 16) (oi := _) (v := ?vb16) rfl (by kernel_rfl) (by kernel_rfl) (by kernel_rfl) (fun _ _ _ h => h) (Or.inl ⟨by rfl, ?hyb16⟩) (by assumption) ?restb16
              case hyb16 => (intro w hSw; (try dsimp only at hSw); go_simp; first | done | rfl)
              try simp only [layA]
              refine wpAnyH_take (i := 17) (oi := _) (v := ?vb17) rfl (by kernel_rfl) (by kernel_rfl) (by kernel_rfl) (fun _ _ _ h => h) (Or.inl ⟨by rfl, ?hyb17⟩) (by assumption) ?restb17
              case hyb17 => (intro w hSw; (try dsimp only at hSw); go_simp; first | done | rfl)
              try simp only [layA]
              refine wpAnyH_done (by kernel_rfl) ?_ _
              obtain ⟨e0, e1, e2, f0, f1, f2⟩ := CR hHeld
              have hbel := hb.trans (hHeld.mono hbz)
              have hbel2 := hbel.size
              have hV5 := ownsRow_below hv.out hHeld
              go_wp2_with (at_builtin; refine wpList_append_own _ rfl _ _ 22 rfl w.heap.size 24 ib (.agg #[.int .i64 0, .int .i64 0, .int .i64 0]) 3 24 Tryz.underlying22 HIB.out HB0.out HB1.out HB2.out rfl (by decide) _ _ _ rfl (World.ownsRow.alloc hV5 _) ⟨w5.heap.size, 0, none⟩ 1 1 [.int .i64 y.x, .int .i64 y.y, .int .i64 y.s] rfl rfl (three_new _ _ _ _ _) ?c2 ?c3 ?c4 ?c5 ?_)
              case c2 => intro u hu; simp at hu; rcases hu with rfl | rfl | rfl <;> rfl
              case c3 => unfold maxLen; omega
              case c4 => omega
              case c5 => simp; omega
              intro v' w8 hown8 hgrow8 _
              have B8 : Below w.heap.size w w8 := (hbel.alloc hbel2 _).grown hgrow8 (by simp; omega) (ownsRow_base hV5)
              have HO8 := Lib.hid (show ShRow w.heap.size v' (P ++ [y]) w8 by unfold ShRow; rw [List.length_append, bcellsL_snoc]; exact hown8)
              clear hown8 hgrow8 hV5
              go_wp2
              go_roundw
              case rel => exact ⟨P ++ [y], k + 1, by omega, by rw [List.length_append]; omega, by go_num, HO8, HRA, B8⟩
              case measure => simp [intOf]; omega
          · have HT := Lib.hid (show decide (Tch p y) = false by simpa using ht)
            have HRS := Lib.hid (HSK.out fun h => absurd h ht)
            clear ht HSK HAD hre
            go_wp2_with fail
            refine wp_region_held_drew (S := (fun w' => Below wr.heap.size wr w')) (by kernel_rfl) ?_ (fun hHeld => ?_)
            · exact below_drew (Below.refl _ _)
            refine wpAnyH_take (i := 0) (oi := _) (v := ?vc0) rfl (by kernel_rfl) (by kernel_rfl) (by kernel_rfl) (fun _ _ _ h => h) (Or.inl ⟨by rfl, ?hyc0⟩) (by assumption) ?restc0
            case hyc0 => (intro w hSw; (try dsimp only at hSw); go_simp; first | done | rfl)
            try simp only [layA]
            refine wpAnyH_take (i := 1) (oi := _) (v := ?vc1) rfl (by kernel_rfl) (by kernel_rfl) (by kernel_rfl) (fun _ _ _ h => h) (Or.inl ⟨by rfl, ?hyc1⟩) (by assumption) ?restc1
            case hyc1 => (intro w hSw; (try dsimp only at hSw); go_simp; first | done | rfl)
            try simp only [layA]
            refine wpAnyH_take (i := 2) (oi := _) (v := ?vc2) rfl (by kernel_rfl) (by kernel_rfl) (by kernel_rfl) (fun _ _ _ h => h) (Or.inl ⟨by rfl, ?hyc2⟩) (by assumption) ?restc2
            case hyc2 => (intro w hSw; (try dsimp only at hSw); go_simp; first | done | rfl)
            try simp only [layA]
            refine wpAnyH_take (i := 3) (oi := _) (v := ?vc3) rfl (by kernel_rfl) (by kernel_rfl) (by kernel_rfl) (fun _ _ _ h => h) (Or.inl ⟨by rfl, ?hyc3⟩) (by assumption) ?restc3
            case hyc3 => (intro w hSw; (try dsimp only at hSw); obtain ⟨e0, e1, e2, f0, f1, f2⟩ := CR hSw; go_simp; first | done | rfl)
            try simp only [layA]
            refine wpAnyH_take (i := 4) (oi := _) (v := ?vc4) rfl (by kernel_rfl) (by kernel_rfl) (by kernel_rfl) (fun _ _ _ h => h) (Or.inl ⟨by rfl, ?hyc4⟩) (by assumption) ?restc4
            case hyc4 => (intro w hSw; (try dsimp only at hSw); go_simp; first | done | rfl)
            try simp only [layA]
            refine wpAnyH_take (i := 5) (oi := _) (v := ?vc5) rfl (by kernel_rfl) (by kernel_rfl) (by kernel_rfl) (fun _ _ _ h => h) (Or.inl ⟨by rfl, ?hyc5⟩) (by assumption) ?restc5
            case hyc5 => (intro w hSw; (try dsimp only at hSw); go_simp; first | done | rfl)
            try simp only [layA]
            refine wpAnyH_take (i := 6) (oi := _) (v := ?vc6) rfl (by kernel_rfl) (by kernel_rfl) (by kernel_rfl) (fun _ _ _ h => h) (Or.inl ⟨by rfl, ?hyc6⟩) (by assumption) ?restc6
            case hyc6 => (intro w hSw; (try dsimp only at hSw); go_simp; first | done | rfl)
            try simp only [layA]
            refine wpAnyH_take (i := 7) (oi := _) (v := ?vc7) rfl (by kernel_rfl) (by kernel_rfl) (by kernel_rfl) (fun _ _ _ h => h) (Or.inl ⟨by rfl, ?hyc7⟩) (by assumption) ?restc7
            case hyc7 => (intro w hSw; (try dsimp only at hSw); obtain ⟨e0, e1, e2, f0, f1, f2⟩ := CR hSw; go_simp; first | done | rfl)
            try simp only [layA]
            refine wpAnyH_ready (rs := [8]) (by kernel_rfl) (by simp) ?_
            refine AllReadyH.cons (o := _) rfl (fun K hK => ?_) AllReadyH.nil
            simp only [layG]
            go_simp
            go_at_call 143
            refine (refTouches p y _ HPO.out HYO.out).mono ?_
            rintro e w4 ⟨rfl, hbq⟩
            rw [HT.out]
            refine hK.out _ _ (hbT (by assumption) hbq) (fun hHeld => ?_)
            clear hK K
            try simp only [layA]
            refine wpAnyH_take (i := 9) (oi := _) (v := ?vc9) rfl (by kernel_rfl) (by kernel_rfl) (by kernel_rfl) (fun _ _ _ h => h) (Or.inl ⟨by rfl, ?hyc9⟩) (by assumption) ?restc9
            case hyc9 => (intro w hSw; (try dsimp only at hSw); go_simp; first | done | rfl)
            try simp only [layA]
            refine wpAnyH_take (i := 10) (oi := _) (v := undef) rfl (by kernel_rfl) (by kernel_rfl) (by kernel_rfl) (fun _ _ _ h => h) (Or.inr ⟨by rfl, rfl⟩) (by assumption) ?restc10
            try simp only [layA]
            refine wpAnyH_take (i := 11) (oi := _) (v := undef) rfl (by kernel_rfl) (by kernel_rfl) (by kernel_rfl) (fun _ _ _ h => h) (Or.inr ⟨by rfl, rfl⟩) (by assumption) ?restc11
            try simp only [layA]
            refine wpAnyH_take (i := 12) (oi := _) (v := undef) rfl (by kernel_rfl) (by kernel_rfl) (by kernel_rfl) (fun _ _ _ h => h) (Or.inr ⟨by rfl, rfl⟩) (by assumption) ?restc12
            try simp only [layA]
            refine wpAnyH_take (i := 13) (oi := _) (v := undef) rfl (by kernel_rfl) (by kernel_rfl) (by kernel_rfl) (fun _ _ _ h => h) (Or.inr ⟨by rfl, rfl⟩) (by assumption) ?restc13
            try simp only [layA]
            refine wpAnyH_take (i := 14) (oi := _) (v := undef) rfl (by kernel_rfl) (by kernel_rfl) (by kernel_rfl) (fun _ _ _ h => h) (Or.inr ⟨by rfl, rfl⟩) (by assumption) ?restc14
            try simp only [layA]
            refine wpAnyH_take (i := 15) (oi := _) (v := undef) rfl (by kernel_rfl) (by kernel_rfl) (by kernel_rfl) (fun _ _ _ h => h) (Or.inr ⟨by rfl, rfl⟩) (by assumption) ?restc15
            try simp only [layA]
            refine wpAnyH_take (i := 16) (oi := _) (v := undef) rfl (by kernel_rfl) (by kernel_rfl) (by kernel_rfl) (fun _ _ _ h => h) (Or.inr ⟨by rfl, rfl⟩) (by assumption) ?restc16
            try simp only [layA]
            refine wpAnyH_take (i := 17) (oi := _) (v := ?vc17) rfl (by kernel_rfl) (by kernel_rfl) (by kernel_rfl) (fun _ _ _ h => h) (Or.inl ⟨by rfl, ?hyc17⟩) (by assumption) ?restc17
            case hyc17 => (intro w hSw; (try dsimp only at hSw); go_simp; first | done | rfl)
            try simp only [layA]
            refine wpAnyH_done (by kernel_rfl) ?_ _
            have hbel := hb.trans (hHeld.mono hbz)
            have HV2 := Lib.hid (show ShRow w.heap.size (.slice (some ⟨g, 0, none⟩) P.length cap) P _ from ownsRow_below hv.out hHeld)
            go_wp2
            go_roundw
            case rel => exact ⟨P, k + 1, by omega, by omega, by go_num, HV2, HRS, hbel⟩
            case measure => simp [intOf]; omega
        · obtain rfl : k = l.length := by omega
          have HRN := Lib.hid (hre.out.next hjP)
          go_wp2
          go_roundw
          case rel => exact ⟨P, j + 1, by omega, by go_num, hv, HRN, hb⟩
          case measure => simp [intOf]; omega
    · obtain rfl : j = P.length := by omega
      have HP := Lib.hid (show OKS wr (some ⟨g, 0, none⟩) cap P from ⟨hkc, hcm, by simp, RB.of_own hv.out⟩)
      have HDN := Lib.hid (hre.out.done (Nat.le_refl _))
      clear hv hre
      go_wp2_with fail
      refine (refSorted (some ⟨g, 0, none⟩) cap P _ (by omega) HP.out.2.2.2).mono ?_
      rintro e w3 ⟨v3, rfl, hrow3, hb3⟩
      have HO3 := Lib.hid (ownsRow_mono hrow3 hbz)
      clear hrow3
      go_wp2
      go_ret
      exact ⟨v3, srtL P, rfl, srtL_pw P, HDN.out, by have := srtL_length P; omega, HO3.out, hb.trans (hb3.mono hbz)⟩
end Go.Proofs.YtdeplhihcifmeaaGreatDoor

/- Parts of the reference. -/
namespace Go.Proofs.YtdeplhihcifmeaaGreatDoor
open Go.RowKit Go.Shelf Ck

def anyIn (G : List (List Bar)) (y : Bar) : Bool := G.any fun g => decide (y ∈ g)
theorem anyIn_iff (G : List (List Bar)) (y : Bar) : anyIn G y = true ↔ ∃ g ∈ G, y ∈ g := by simp [anyIn]
theorem anyIn_snoc {G : List (List Bar)} {k : Nat} (h : k < G.length) (y : Bar) : anyIn (G.take (k + 1)) y = (anyIn (G.take k) y || decide (y ∈ G[k])) := by
  rw [List.take_succ_eq_append_getElem h, anyIn, List.any_append]
  simp [anyIn]
def PartsR (l : List Bar) (w : World) (e : Ending) (w' : World) : Prop := ∃ v G, e = .returned v ∧ PartsAre l G ∧ G.length ≤ l.length ∧ Forms w.heap.size v G w' ∧ Below w.heap.size w w'
set_option maxHeartbeats 8000000 in
set_option maxRecDepth 100000 in
theorem refParts (A : Option Addr) (c : Nat) (l : List Bar) (w : World) (hl : l.length ≤ 4096) (hN : Net l) (h : OKS w A c l) :
    Calls Tryz.prog 55 #[.slice A l.length c] w (PartsR l w) := by
  obtain ⟨i0, hi, hz0, hz1, hz2⟩ := info_parts Tryz.info22
  have HI := Lib.hid hi
  have HZ0 := Lib.hid hz0
  have HZ1 := Lib.hid hz1
  have HZ2 := Lib.hid hz2
  have HR := Lib.hid h
  have HN := Lib.hid hN
  have hl' : (l.length : Int) ≤ 4096 := by omega
  clear hi hz0 hz1 hz2 h hN
  go_enter Tryz.func55, Tryz.ntmps55
  go_wp2_with fail
  go_loopw [3, 4, 5, 6] (fun v i _ _ wr => ∃ (G : List (List Bar)) (j : Nat), j ≤ l.length ∧ i = .int .i64 j ∧ Hid (Forms w.heap.size v G wr) ∧ Hid (PartsTo l j G) ∧ Below w.heap.size w wr) (fun _ i _ _ _ => l.length - (intOf i).toNat)
  case atStart => exact ⟨[], 0, Nat.zero_le _, rfl, Lib.hid ⟨[], rfl, by simp, ⟨rfl, .inl ⟨rfl, rfl⟩⟩⟩, Lib.hid (PartsTo.start l), Below.refl _ _⟩
  case round =>
    obtain ⟨G, j, hj, rfl, hF, hpt, hb⟩ := hrel
    have hbz := hb.size
    have hgl := hpt.out.le
    by_cases hlt : j < l.length
    · obtain ⟨b', off, rfl, hB, hc⟩ := ((HR.out.below hb).2.2.2) (by omega)
      obtain ⟨d0, d1, d2⟩ := hc j hlt
      have hjI : (j : Int) < (l.length : Int) := by omega
      have hj0 : (0 : Int) ≤ (j : Int) := by omega
      obtain ⟨y, hy⟩ : ∃ y, l[j] = y := ⟨_, rfl⟩
      have HY := Lib.hid hy
      rw [hy] at d0 d1 d2
      obtain ⟨fs, hfs, hfo, hfr⟩ := hF.out.has
      have hfn : fs.length = G.length := by rw [← hfs, List.length_map]
      obtain ⟨av, cv, rfl, -, -⟩ := own_slice hfr
      have HFS := Lib.hid hfs
      have HFO := Lib.hid hfo
      have HFR := Lib.hid hfr
      have hfI : (fs.length : Int) ≤ 4096 := by omega
      have HFN := Lib.hid hfn
      clear hfn
      clear hc hy hfs hfo hfr hF
      obtain ⟨wo, hwo⟩ : ∃ wo, wo = wr := ⟨_, rfl⟩
      have HWO := Lib.hid hwo
      clear hwo
      go_wp2_with fail
      go_loopw [5, 6] (fun f k' wi => ∃ k : Nat, k ≤ fs.length ∧ k' = .int .i64 k ∧ f = .bool (anyIn (G.take k) y) ∧ Below wo.heap.size wo wi) (fun _ k' _ => fs.length - (intOf k').toNat)
      case atStart => exact ⟨0, Nat.zero_le _, rfl, by simp [anyIn], by rw [HWO.out]; exact Below.refl _ _⟩
      case round =>
        obtain ⟨k, hk, rfl, rfl, hbi⟩ := hrel
        have hWO := HWO.out
        subst hWO
        by_cases hkl : k < fs.length
        · have hkG : k < G.length := by have := HFN.out; omega
          obtain ⟨fk, hfk⟩ : ∃ fk, fs[k] = fk := ⟨_, rfl⟩
          have hfkl : fk.l = G[k] := by
            have h1 : (fs.map Hd.l)[k]'(by rw [List.length_map]; exact hkl) = fk.l := by rw [List.getElem_map, hfk]
            rw [← h1]
            exact List.getElem_of_eq HFS.out _
          have hfko := HFO.out fk (by rw [← hfk]; exact List.getElem_mem hkl)
          have hfl : fk.l.length ≤ 10000 := by have := hfko.1; omega
          have HFK := Lib.hid ((hfko.ok).2.below hbi)
          obtain ⟨g, cap, he, hg, -, -, hgz⟩ := own_form HFR.out (by omega)
          injection he with e1 e2 e3
          subst e1
          have hcell := HFR.out.cells (g := g) rfl k fk.v (by rw [List.getElem?_map, List.getElem?_eq_getElem hkl, hfk]; rfl)
          rw [add0] at hcell
          have HAS := Lib.hid (anyIn_snoc hkG y)
          have HDK := Lib.hid hfkl
          have hkI : (k : Int) < (fs.length : Int) := by omega
          have hk0 : (0 : Int) ≤ (k : Int) := by omega
          have CR : ∀ {W : World}, Below wr.heap.size wr W → W.cell? ⟨g, k, none⟩ = some (.slice fk.a fk.l.length fk.c) ∧ W.cell? ⟨b', off + j * 3, none⟩ = some (.int .i64 y.x) ∧ W.cell? ⟨b', off + j * 3 + 1, none⟩ = some (.int .i64 y.y) ∧ W.cell? ⟨b', off + j * 3 + 2, none⟩ = some (.int .i64 y.s) :=
            fun hq => by
              have hq2 := hbi.trans (hq.mono hbi.size)
              exact ⟨(hq2.cell (p := ⟨g, k, none⟩) hgz).trans hcell, (hq2.cell (p := ⟨b', off + j * 3, none⟩) hB).trans d0, (hq2.cell (p := ⟨b', off + j * 3 + 1, none⟩) hB).trans d1, (hq2.cell (p := ⟨b', off + j * 3 + 2, none⟩) hB).trans d2⟩
          clear hcell hfk hfkl hfko d0 d1 d2 e3
          cases hfd : anyIn (G.take k) y
          · have HFF := Lib.hid (show anyIn (G.take (k + 1)) y = decide (y ∈ fk.l) by rw [HAS.out, hfd, HDK.out]; rfl)
            clear hfd
            go_wp2_with fail
            refine wp_region_held_drew (S := (fun w' => Below wr.heap.size wr w')) (by kernel_rfl) ?_ (fun hHeld => ?_)
            · exact below_drew (Below.refl _ _)
            refine wpAnyH_take (i := 0) (oi := _) (v := ?va0) rfl (by kernel_rfl) (by kernel_rfl) (by kernel_rfl) (fun _ _ _ h => h) (Or.inl ⟨by rfl, ?hya0⟩) (by assumption) ?resta0
            case hya0 => (intro w hSw; (try dsimp only at hSw); go_simp; first | done | rfl)
            try simp only [layA]
            refine wpAnyH_take (i := 1) (oi := _) (v := ?va1) rfl (by kernel_rfl) (by kernel_rfl) (by kernel_rfl) (fun _ _ _ h => h) (Or.inl ⟨by rfl, ?hya1⟩) (by assumption) ?resta1
            case hya1 => (intro w hSw; (try dsimp only at hSw); go_simp; first | done | rfl)
            try simp only [layA]
            refine wpAnyH_take (i := 2) (oi := _) (v := ?va2) rfl (by kernel_rfl) (by kernel_rfl) (by kernel_rfl) (fun _ _ _ h => h) (Or.inl ⟨by rfl, ?hya2⟩) (by assumption) ?resta2
            case hya2 => (intro w hSw; (try dsimp only at hSw); go_simp; first | done | rfl)
            try simp only [layA]
            refine wpAnyH_take (i := 3) (oi := _) (v := ?va3) rfl (by kernel_rfl) (by kernel_rfl) (by kernel_rfl) (fun _ _ _ h => h) (Or.inl ⟨by rfl, ?hya3⟩) (by assumption) ?resta3
            case hya3 => (intro w hSw; (try dsimp only at hSw); go_simp; first | done | rfl)
            try simp only [layA]
            refine wpAnyH_take (i := 4) (oi := _) (v := ?va4) rfl (by kernel_rfl) (by kernel_rfl) (by kernel_rfl) (fun _ _ _ h => h) (Or.inl ⟨by rfl, ?hya4⟩) (by assumption) ?resta4
            case hya4 => (intro w hSw; (try dsimp only at hSw); go_simp; first | done | rfl)
            try simp only [layA]
            refine wpAnyH_take (i := 5) (oi := _) (v := ?va5) rfl (by kernel_rfl) (by kernel_rfl) (by kernel_rfl) (fun _ _ _ h => h) (Or.inl ⟨by rfl, ?hya5⟩) (by assumption) ?resta5
            case hya5 => (intro w hSw; (try dsimp only at hSw); obtain ⟨e0, f0, f1, f2⟩ := CR hSw; go_simp; first | done | rfl)
            try simp only [layA]
            refine wpAnyH_take (i := 6) (oi := _) (v := ?va6) rfl (by kernel_rfl) (by kernel_rfl) (by kernel_rfl) (fun _ _ _ h => h) (Or.inl ⟨by rfl, ?hya6⟩) (by assumption) ?resta6
            case hya6 => (intro w hSw; (try dsimp only at hSw); go_simp; first | done | rfl)
            try simp only [layA]
            refine wpAnyH_take (i := 7) (oi := _) (v := ?va7) rfl (by kernel_rfl) (by kernel_rfl) (by kernel_rfl) (fun _ _ _ h => h) (Or.inl ⟨by rfl, ?hya7⟩) (by assumption) ?resta7
            case hya7 => (intro w hSw; (try dsimp only at hSw); go_simp; first | done | rfl)
            try simp only [layA]
            refine wpAnyH_take (i := 8) (oi := _) (v := ?va8) rfl (by kernel_rfl) (by kernel_rfl) (by kernel_rfl) (fun _ _ _ h => h) (Or.inl ⟨by rfl, ?hya8⟩) (by assumption) ?resta8
            case hya8 => (intro w hSw; (try dsimp only at hSw); go_simp; first | done | rfl)
            try simp only [layA]
            refine wpAnyH_take (i := 9) (oi := _) (v := ?va9) rfl (by kernel_rfl) (by kernel_rfl) (by kernel_rfl) (fun _ _ _ h => h) (Or.inl ⟨by rfl, ?hya9⟩) (by assumption) ?resta9
            case hya9 => (intro w hSw; (try dsimp only at hSw); obtain ⟨e0, f0, f1, f2⟩ := CR hSw; go_simp; first | done | rfl)
            try simp only [layA]
            refine wpAnyH_ready (rs := [10]) (by kernel_rfl) (by simp) ?_
            refine AllReadyH.cons (o := _) rfl (fun K hK => ?_) AllReadyH.nil
            simp only [layG]
            rw [if_pos (by rfl)]
            go_simp
            go_at_call 31
            refine (refHasBar fk.a fk.c fk.l y _ hfl (HFK.out.below hHeld).2.2.2).mono ?_
            rintro e w5 ⟨rfl, hbq⟩
            refine hK.out _ _ (hbT (by assumption) hbq) (fun hHeld => ?_)
            clear hK K
            try simp only [layA]
            refine wpAnyH_take (i := 11) (oi := _) (v := ?va11) rfl (by kernel_rfl) (by kernel_rfl) (by kernel_rfl) (fun _ _ _ h => h) (Or.inl ⟨by rfl, ?hya11⟩) (by assumption) ?resta11
            case hya11 => (intro w hSw; (try dsimp only at hSw); go_simp; first | done | rfl)
            try simp only [layA]
            refine wpAnyH_take (i := 12) (oi := _) (v := ?va12) rfl (by kernel_rfl) (by kernel_rfl) (by kernel_rfl) (fun _ _ _ h => h) (Or.inl ⟨by rfl, ?hya12⟩) (by assumption) ?resta12
            case hya12 => (intro w hSw; (try dsimp only at hSw); go_simp; first | done | rfl)
            try simp only [layA]
            refine wpAnyH_done (by kernel_rfl) ?_ _
            go_wp2
            go_roundw
            case rel => exact ⟨k + 1, by omega, by go_num, by rw [HFF.out], hbi.trans (hHeld.mono hbi.size)⟩
            case measure => simp [intOf]; omega
          · have HFF := Lib.hid (show anyIn (G.take (k + 1)) y = true by rw [HAS.out, hfd]; rfl)
            clear hfd
            go_wp2_with fail
            refine wp_region_held_drew (S := (fun w' => Below wr.heap.size wr w')) (by kernel_rfl) ?_ (fun hHeld => ?_)
            · exact below_drew (Below.refl _ _)
            refine wpAnyH_take (i := 0) (oi := _) (v := ?vb0) rfl (by kernel_rfl) (by kernel_rfl) (by kernel_rfl) (fun _ _ _ h => h) (Or.inl ⟨by rfl, ?hyb0⟩) (by assumption) ?restb0
            case hyb0 => (intro w hSw; (try dsimp only at hSw); go_simp; first | done | rfl)
            try simp only [layA]
            refine wpAnyH_take (i := 1) (oi := _) (v := ?vb1) rfl (by kernel_rfl) (by kernel_rfl) (by kernel_rfl) (fun _ _ _ h => h) (Or.inl ⟨by rfl, ?hyb1⟩) (by assumption) ?restb1
            case hyb1 => (intro w hSw; (try dsimp only at hSw); go_simp; first | done | rfl)
            try simp only [layA]
            refine wpAnyH_take (i := 2) (oi := _) (v := undef) rfl (by kernel_rfl) (by kernel_rfl) (by kernel_rfl) (fun _ _ _ h => h) (Or.inr ⟨by rfl, rfl⟩) (by assumption) ?restb2
            try simp only [layA]
            refine wpAnyH_take (i := 3) (oi := _) (v := undef) rfl (by kernel_rfl) (by kernel_rfl) (by kernel_rfl) (fun _ _ _ h => h) (Or.inr ⟨by rfl, rfl⟩) (by assumption) ?restb3
            try simp only [layA]
            refine wpAnyH_take (i := 4) (oi := _) (v := undef) rfl (by kernel_rfl) (by kernel_rfl) (by kernel_rfl) (fun _ _ _ h => h) (Or.inr ⟨by rfl, rfl⟩) (by assumption) ?restb4
            try simp only [layA]
            refine wpAnyH_take (i := 5) (oi := _) (v := undef) rfl (by kernel_rfl) (by kernel_rfl) (by kernel_rfl) (fun _ _ _ h => h) (Or.inr ⟨by rfl, rfl⟩) (by assumption) ?restb5
            try simp only [layA]
            refine wpAnyH_take (i := 6) (oi := _) (v := undef) rfl (by kernel_rfl) (by kernel_rfl) (by kernel_rfl) (fun _ _ _ h => h) (Or.inr ⟨by rfl, rfl⟩) (by assumption) ?restb6
            try simp only [layA]
            refine wpAnyH_take (i := 7) (oi := _) (v := undef) rfl (by kernel_rfl) (by kernel_rfl) (by kernel_rfl) (fun _ _ _ h => h) (Or.inr ⟨by rfl, rfl⟩) (by assumption) ?restb7
            try simp only [layA]
            refine wpAnyH_take (i := 8) (oi := _) (v := undef) rfl (by kernel_rfl) (by kernel_rfl) (by kernel_rfl) (fun _ _ _ h => h) (Or.inr ⟨by rfl, rfl⟩) (by assumption) ?restb8
            try simp only [layA]
            refine wpAnyH_take (i := 9) (oi := _) (v := undef) rfl (by kernel_rfl) (by kernel_rfl) (by kernel_rfl) (fun _ _ _ h => h) (Or.inr ⟨by rfl, rfl⟩) (by assumption) ?restb9
            try simp only [layA]
            refine wpAnyH_take (i := 10) (oi := _) (v := undef) rfl (by kernel_rfl) (by kernel_rfl) (by kernel_rfl) (fun _ _ _ h => h) (Or.inr ⟨by rfl, rfl⟩) (by assumption) ?restb10
            try simp only [layA]
            refine wpAnyH_take (i := 11) (oi := _) (v := ?vb11) rfl (by kernel_rfl) (by kernel_rfl) (by kernel_rfl) (fun _ _ _ h => h) (Or.inl ⟨by rfl, ?hyb11⟩) (by assumption) ?restb11
            case hyb11 => (intro w hSw; (try dsimp only at hSw); go_simp; first | done | rfl)
            try simp only [layA]
            refine wpAnyH_take (i := 12) (oi := _) (v := ?vb12) rfl (by kernel_rfl) (by kernel_rfl) (by kernel_rfl) (fun _ _ _ h => h) (Or.inl ⟨by rfl, ?hyb12⟩) (by assumption) ?restb12
            case hyb12 => (intro w hSw; (try dsimp only at hSw); go_simp; first | done | rfl)
            try simp only [layA]
            refine wpAnyH_done (by kernel_rfl) ?_ _
            go_wp2
            go_roundw
            case rel => exact ⟨k + 1, by omega, by go_num, by rw [HFF.out], hbi.trans (hHeld.mono hbi.size)⟩
            case measure => simp [intOf]; omega
        · obtain rfl : k = fs.length := by omega
          have hGk : G.take fs.length = G := by rw [HFN.out, List.take_length]
          rw [hGk]
          have HFR2 := Lib.hid (ownsRow_below HFR.out hbi)
          have HFO2 := Lib.hid (show ∀ f ∈ fs, f.own w.heap.size wr from fun f hf => ⟨(HFO.out f hf).1, ownsRow_below (HFO.out f hf).2 hbi⟩)
          have hb2 := hb.trans (hbi.mono hbz)
          have hb2z := hb2.size
          cases hfd : anyIn G y
          · have hnf : ¬ ∃ g ∈ G, l[j] ∈ g := by
              rw [HY.out]
              intro hx
              rw [(anyIn_iff G y).2 hx] at hfd
              cases hfd
            have HNF := Lib.hid hnf
            have HPT := Lib.hid hpt.out
            have hbr := hbi.size
            replace d0 := (hbi.cell (p := ⟨b', off + j * 3, none⟩) hB).trans d0
            replace d1 := (hbi.cell (p := ⟨b', off + j * 3 + 1, none⟩) hB).trans d1
            replace d2 := (hbi.cell (p := ⟨b', off + j * 3 + 2, none⟩) hB).trans d2
            have hmem : y ∈ l := by rw [← HY.out]; exact List.getElem_mem hlt
            clear hnf hfd hpt
            go_wp2_with fail
            refine (refPart (some ⟨b', off, none⟩) c l y _ hl HN.out.1 hmem (HR.out.below hb2)).mono ?_
            rintro e w4 ⟨v4, g4, rfl, gs, gm, gl, hr4, hb4⟩
            obtain ⟨a4, c4, rfl, ho4⟩ := own_oks hr4
            have HR4 := Lib.hid (ownsRow_mono hr4 hb2z)
            have HPN := Lib.hid (HPT.out.fresh HN.out.2 hlt HNF.out gs (fun q => by rw [HY.out]; exact gm q))
            have HFR4 := Lib.hid (ownsRow_below HFR2.out hb4)
            have HFO4 := Lib.hid (show ∀ f ∈ fs, f.own w.heap.size w4 from fun f hf => ⟨(HFO2.out f hf).1, ownsRow_below (HFO2.out f hf).2 hb4⟩)
            have C4 := hb2.trans (hb4.mono hb2z)
            have hc4z := C4.size
            clear hr4 ho4 gs gm hb4
            go_wp2_with (at_builtin; refine wpList_append_own _ rfl _ _ 82 rfl w.heap.size 22 i0 (.slice none 0 0) 1 24 Tryz.underlying82 HI.out HZ0.out HZ1.out HZ2.out rfl (by decide) _ _ _ rfl (HFR4.out.alloc _) ⟨w4.heap.size, 0, none⟩ 1 1 [.slice a4 g4.length c4] rfl rfl (one_new _ _ _) ?c2 ?c3 ?c4 ?c5 ?_)
            case c2 => intro u hu; simp at hu; subst hu; rfl
            case c3 => unfold maxLen; omega
            case c4 => omega
            case c5 => simp; omega
            intro v' w6 hown6 hgrow6 _
            have HF6 := Lib.hid (show Forms w.heap.size v' (G ++ [g4]) w6 from ⟨fs ++ [⟨a4, c4, g4⟩], by rw [List.map_append, HFS.out]; rfl, fun x hx => by
              rcases List.mem_append.1 hx with hx | hx
              · exact ⟨(HFO4.out x hx).1, row_keeps (HFO4.out x hx).2 HFR4.out (by decide) hgrow6⟩
              · rw [List.mem_singleton] at hx
                subst hx
                exact ⟨by show g4.length ≤ 4096; omega, row_keeps HR4.out HFR4.out (by decide) hgrow6⟩, by
              rw [List.length_append, List.map_append]
              exact hown6⟩)
            have C6 : Below w.heap.size w w6 := (C4.alloc hc4z _).grown hgrow6 (by simp; omega) (ownsRow_base HFR4.out)
            clear hown6 hgrow6
            go_wp2
            go_roundw
            case rel => exact ⟨G ++ [g4], j + 1, by omega, by go_num, HF6, HPN, C6⟩
            case measure => simp [intOf]; omega
          · have HPO := Lib.hid (hpt.out.old hlt (by rw [HY.out]; exact (anyIn_iff G y).1 hfd))
            have HFF := Lib.hid (show Forms w.heap.size (.slice av fs.length cv) G wr from ⟨fs, HFS.out, HFO2.out, HFR2.out⟩)
            clear hfd
            go_wp2
            go_roundw
            case rel => exact ⟨G, j + 1, by omega, by go_num, HFF, HPO, hb2⟩
            case measure => simp [intOf]; omega
    · obtain rfl : j = l.length := by omega
      have HD := Lib.hid hpt.out.done
      clear hpt
      go_wp2
      go_ret
      exact ⟨_, G, rfl, HD.out, hgl, hF.out, hb⟩
end Go.Proofs.YtdeplhihcifmeaaGreatDoor

/- Lists of nets in memory; SameNets of the reference. -/
namespace Go.Proofs.YtdeplhihcifmeaaGreatDoor
open Go.RowKit Go.Shelf Ck

/-- The slice reads as these nets. -/
def OKN (w : World) (a : Option Addr) (_ : Nat) (G : List (List Bar)) : Prop := ∃ fs : List Hd, fs.map Hd.l = G ∧ (∀ f ∈ fs, f.ok w) ∧ (0 < fs.length → ∃ b off, a = some ⟨b, off, none⟩ ∧ b < w.heap.size ∧ ∀ i (h : i < fs.length), w.cell? ⟨b, off + i, none⟩ = some fs[i].v)
theorem OKN.below {w w' : World} {a : Option Addr} {c : Nat} {G : List (List Bar)} (h : OKN w a c G) (hb : Below w.heap.size w w') : OKN w' a c G := by
  obtain ⟨fs, h1, h2, h3⟩ := h
  refine ⟨fs, h1, fun f hf => (h2 f hf).below hb, fun hl => ?_⟩
  obtain ⟨b, off, e, hB, hc⟩ := h3 hl
  exact ⟨b, off, e, Nat.lt_of_lt_of_le hB hb.size, fun i hi => (hb.cell (p := ⟨b, off + i, none⟩) hB).trans (hc i hi)⟩
theorem Forms.okn {B : Nat} {v : Value} {G : List (List Bar)} {w : World} (h : Forms B v G w) : ∃ a c, v = .slice a G.length c ∧ OKN w a c G := by
  obtain ⟨fs, h1, h2, h3⟩ := h.has
  obtain ⟨a, c, rfl, -, -⟩ := own_slice h3
  have hn : fs.length = G.length := by rw [← h1, List.length_map]
  refine ⟨a, c, by rw [hn], fs, h1, fun f hf => (h2 f hf).ok, fun hl => ?_⟩
  obtain ⟨g, cap, he, -, -, -, hg⟩ := own_form h3 hl
  injection he with e1 e2 e3
  subst e1
  refine ⟨g, 0, rfl, hg, fun i hi => ?_⟩
  have := h3.cells (g := g) rfl i fs[i].v (by rw [List.getElem?_map, List.getElem?_eq_getElem hi]; rfl)
  rw [add0] at this
  rw [Nat.zero_add]
  exact this
theorem OKN.at {w : World} {a : Option Addr} {c : Nat} {G : List (List Bar)} (h : OKN w a c G) {k : Nat} (hk : k < G.length) : ∃ b off fa fc, a = some ⟨b, off, none⟩ ∧ b < w.heap.size ∧ w.cell? ⟨b, off + k, none⟩ = some (.slice fa G[k].length fc) ∧ OKS w fa fc G[k] ∧ G[k].length ≤ 4096 := by
  obtain ⟨fs, h1, h2, h3⟩ := h
  have hn : fs.length = G.length := by rw [← h1, List.length_map]
  obtain ⟨b, off, e, hB, hc⟩ := h3 (by omega)
  have hkf : k < fs.length := by omega
  have hl : fs[k].l = G[k] := by
    have h4 : (fs.map Hd.l)[k]'(by rw [List.length_map]; exact hkf) = fs[k].l := by rw [List.getElem_map]
    rw [← h4]
    exact List.getElem_of_eq h1 _
  have h5 := hc k hkf
  have h6 := h2 _ (List.getElem_mem hkf)
  refine ⟨b, off, fs[k].a, fs[k].c, e, hB, ?_, ?_, ?_⟩
  · rw [h5, ← hl]; rfl
  · rw [← hl]; exact h6.2
  · rw [← hl]; exact h6.1
set_option maxHeartbeats 2000000 in
set_option maxRecDepth 100000 in
theorem refSameNets (A A' : Option Addr) (c c' : Nat) (G : List (List Bar)) (w : World) (hl : G.length ≤ 4096) (h : OKN w A c G) (h' : OKN w A' c' G) :
    Calls Tryz.prog 54 #[.slice A G.length c, .slice A' G.length c'] w fun e w' => e = .returned (.bool true) ∧ Below w.heap.size w w' := by
  have HR := Lib.hid h
  have HR' := Lib.hid h'
  clear h h'
  have hne : ((G.length : Int) != (G.length : Int)) = false := by simp
  go_enter Tryz.func54, Tryz.ntmps54
  go_wp2_with fail
  go_loopw [5] (fun i wr => ∃ k : Nat, k ≤ G.length ∧ i = .int .i64 k ∧ Below w.heap.size w wr) (fun i _ => G.length - (intOf i).toNat)
  case atStart => exact ⟨0, Nat.zero_le _, rfl, Below.refl _ _⟩
  case round =>
    obtain ⟨k, hk, rfl, hb⟩ := hrel
    by_cases hlt : k < G.length
    · obtain ⟨b, off, fa, fc, rfl, hB, c0, hfo, hL4⟩ := (HR.out.below hb).at hlt
      obtain ⟨b', off', ga, gc, rfl, hB', c1, hgo, -⟩ := (HR'.out.below hb).at hlt
      have b1 : (0 : Int) ≤ (k : Int) := by omega
      have b2 : (k : Int) < (G.length : Int) := by omega
      have HFK := Lib.hid hfo
      have HGK := Lib.hid hgo
      have CR : ∀ {W : World}, Below wr.heap.size wr W → W.cell? ⟨b, off + k, none⟩ = some (.slice fa G[k].length fc) ∧ W.cell? ⟨b', off' + k, none⟩ = some (.slice ga G[k].length gc) := fun hq => ⟨(hq.cell (p := ⟨b, off + k, none⟩) hB).trans c0, (hq.cell (p := ⟨b', off' + k, none⟩) hB').trans c1⟩
      clear hfo hgo c0 c1
      generalize G[k] = L at *
      go_wp2_with fail
      refine wp_region_held_drew (S := (fun w' => Below wr.heap.size wr w')) (by kernel_rfl) ?_ (fun hHeld => ?_)
      · exact below_drew (Below.refl _ _)
      refine wpAnyH_take (i := 0) (oi := _) (v := ?va0) rfl (by kernel_rfl) (by kernel_rfl) (by kernel_rfl) (fun _ _ _ h => h) (Or.inl ⟨by rfl, ?hya0⟩) (by assumption) ?resta0
      case hya0 => (intro w hSw; (try dsimp only at hSw); go_simp; first | done | rfl)
      try simp only [layA]
      refine wpAnyH_take (i := 1) (oi := _) (v := ?va1) rfl (by kernel_rfl) (by kernel_rfl) (by kernel_rfl) (fun _ _ _ h => h) (Or.inl ⟨by rfl, ?hya1⟩) (by assumption) ?resta1
      case hya1 => (intro w hSw; (try dsimp only at hSw); go_simp; first | done | rfl)
      try simp only [layA]
      refine wpAnyH_take (i := 2) (oi := _) (v := ?va2) rfl (by kernel_rfl) (by kernel_rfl) (by kernel_rfl) (fun _ _ _ h => h) (Or.inl ⟨by rfl, ?hya2⟩) (by assumption) ?resta2
      case hya2 => (intro w hSw; (try dsimp only at hSw); go_simp; first | done | rfl)
      try simp only [layA]
      refine wpAnyH_take (i := 3) (oi := _) (v := ?va3) rfl (by kernel_rfl) (by kernel_rfl) (by kernel_rfl) (fun _ _ _ h => h) (Or.inl ⟨by rfl, ?hya3⟩) (by assumption) ?resta3
      case hya3 => (intro w hSw; (try dsimp only at hSw); obtain ⟨e0, e1⟩ := CR hSw; go_simp; first | done | rfl)
      try simp only [layA]
      refine wpAnyH_take (i := 4) (oi := _) (v := ?va4) rfl (by kernel_rfl) (by kernel_rfl) (by kernel_rfl) (fun _ _ _ h => h) (Or.inl ⟨by rfl, ?hya4⟩) (by assumption) ?resta4
      case hya4 => (intro w hSw; (try dsimp only at hSw); go_simp; first | done | rfl)
      try simp only [layA]
      refine wpAnyH_take (i := 5) (oi := _) (v := ?va5) rfl (by kernel_rfl) (by kernel_rfl) (by kernel_rfl) (fun _ _ _ h => h) (Or.inl ⟨by rfl, ?hya5⟩) (by assumption) ?resta5
      case hya5 => (intro w hSw; (try dsimp only at hSw); go_simp; first | done | rfl)
      try simp only [layA]
      refine wpAnyH_take (i := 6) (oi := _) (v := ?va6) rfl (by kernel_rfl) (by kernel_rfl) (by kernel_rfl) (fun _ _ _ h => h) (Or.inl ⟨by rfl, ?hya6⟩) (by assumption) ?resta6
      case hya6 => (intro w hSw; (try dsimp only at hSw); go_simp; first | done | rfl)
      try simp only [layA]
      refine wpAnyH_take (i := 7) (oi := _) (v := ?va7) rfl (by kernel_rfl) (by kernel_rfl) (by kernel_rfl) (fun _ _ _ h => h) (Or.inl ⟨by rfl, ?hya7⟩) (by assumption) ?resta7
      case hya7 => (intro w hSw; (try dsimp only at hSw); obtain ⟨e0, e1⟩ := CR hSw; go_simp; first | done | rfl)
      try simp only [layA]
      refine wpAnyH_ready (rs := [8]) (by kernel_rfl) (by simp) ?_
      refine AllReadyH.cons (o := _) rfl (fun K hK => ?_) AllReadyH.nil
      simp only [layG]
      go_simp
      go_at_call 73
      refine (refSameNet fa ga fc gc L _ hL4 (HFK.out.below hHeld).2.2.2 (HGK.out.below hHeld).2.2.2).mono ?_
      rintro e w5 ⟨rfl, hbq⟩
      refine hK.out _ _ (hbT (by assumption) hbq) (fun hHeld => ?_)
      clear hK K
      try simp only [layA]
      refine wpAnyH_take (i := 9) (oi := _) (v := ?va9) rfl (by kernel_rfl) (by kernel_rfl) (by kernel_rfl) (fun _ _ _ h => h) (Or.inl ⟨by rfl, ?hya9⟩) (by assumption) ?resta9
      case hya9 => (intro w hSw; (try dsimp only at hSw); go_simp; first | done | rfl)
      try simp only [layA]
      refine wpAnyH_done (by kernel_rfl) ?_ _
      go_wp2
      go_roundw
      case rel => exact ⟨k + 1, by omega, by go_num, hb.trans (hHeld.mono hb.size)⟩
      case measure => simp [intOf]; omega
    · obtain rfl : k = G.length := by omega
      go_wp2_with fail
      go_ret
      exact ⟨rfl, hb⟩
end Go.Proofs.YtdeplhihcifmeaaGreatDoor

/- partsOf of the program, with what its rows hold. -/
namespace Go.Proofs.YtdeplhihcifmeaaGreatDoor
open Go.RowKit

structure HeadsX (W : World) (base P n : Nat) (F : Nat → List Ck.Bar) (cur : Array Value) : Prop where
  blk : W.heap[P]? = some (.cells cur 22 (0, 0))
  size : cur.size = n
  own : ∀ j (h : j < cur.size), W.ownsRow base 24 3 cur[j] (F j).length (bcellsL (F j))
  apart : ∀ j j' (h : j < cur.size) (h' : j' < cur.size), j ≠ j' → cur[j].ownBlock = none ∨ cur[j].ownBlock ≠ cur[j'].ownBlock
theorem HeadsX.lt {W : World} {base P n : Nat} {F : Nat → List Ck.Bar} {cur : Array Value} (h : HeadsX W base P n F cur) : P < W.heap.size := (Array.getElem?_eq_some_iff.1 h.blk).1
theorem HeadsX.cell {W : World} {base P n : Nat} {F : Nat → List Ck.Bar} {cur : Array Value} (h : HeadsX W base P n F cur) {q : Nat} (hq : q < cur.size) : W.cell? ⟨P, q, none⟩ = some cur[q] := by
  simp [World.cell?, h.blk, Array.getElem?_eq_getElem hq]
theorem HeadsX.frozen {W : World} {base P n : Nat} {F : Nat → List Ck.Bar} {cur : Array Value} (h : HeadsX W base P n F cur) (q : Nat) : W.frozen? ⟨P, q, none⟩ = false := by
  simp [World.frozen?, h.blk]
theorem HeadsX.below {W W' : World} {base P n : Nat} {F : Nat → List Ck.Bar} {cur : Array Value} (h : HeadsX W base P n F cur) (hb : Below W.heap.size W W') : HeadsX W' base P n F cur where
  blk := (hb.block P h.lt).trans h.blk
  size := h.size
  own j hj := ownsRow_below (h.own j hj) hb
  apart := h.apart
theorem HeadsX.step {W W1 W2 : World} {base P n q g cap : Nat} {F F' : Nat → List Ck.Bar} {cur : Array Value} (h : HeadsX W base P n F cur) (hF : ∀ j, j ≠ q → F' j = F j) (hW : Below W.heap.size W W1) (hq : q < cur.size)
    {m : Nat} (hm : m = (F' q).length) (hown : W2.ownsRow base 24 3 (.slice (some ⟨g, 0, none⟩) m cap) m (bcellsL (F' q))) (hg : W1.grownBy W2 cur[q].ownBlock) (hblk : cur[q].ownBlock = some g ∨ g = W1.heap.size) :
    HeadsX (W2.setCell ⟨P, q, none⟩ (.slice (some ⟨g, 0, none⟩) m cap)) base P n F' (cur.set q (.slice (some ⟨g, 0, none⟩) m cap)) := by
  have hT : (24 : Nat) ≠ 22 := by decide
  have h1 := h.below hW
  have oq := h1.own q hq
  have hPne := own_block_ne oq h1.blk hT
  have hP2 : W2.heap[P]? = some (.cells cur 22 (0, 0)) := (hg.block P h1.lt (fun e => hPne e.symm)).trans h1.blk
  have hs := setCell_grown W2 P q (.slice (some ⟨g, 0, none⟩) m cap)
  have hgne : (Value.slice (some ⟨g, 0, none⟩) m cap).ownBlock ≠ some P := own_block_ne hown hP2 hT
  have hold : ∀ j (hj : j < cur.size) (hjq : j ≠ q), W2.ownsRow base 24 3 cur[j] (F j).length (bcellsL (F j)) := fun j hj hjq =>
    (h1.own j hj).kept hg (h.apart j q hj hq hjq)
  refine ⟨?_, by rw [Array.size_set, h.size], fun j hj => ?_, fun j j' hj hj' hne => ?_⟩
  · simp only [World.setCell, Array.getElem?_modify, hP2]
    simp [Array.setIfInBounds, hq]
  · rw [Array.size_set] at hj
    by_cases hjq : q = j
    · subst hjq
      rw [Array.getElem_set_self]
      rw [← hm]
      exact hown.kept hs (.inr hgne)
    · rw [Array.getElem_set_ne _ hj hjq]
      have oj := hold j hj (fun e => hjq e.symm)
      rw [hF j (fun e => hjq e.symm)]
      exact oj.kept hs (.inr (own_block_ne oj hP2 hT))
  · rw [Array.size_set] at hj hj'
    have other : ∀ i (hi : i < cur.size), i ≠ q → cur[i].ownBlock = none ∨ cur[i].ownBlock ≠ some g := fun i hi hiq => by
      rcases hblk with hb | hb
      · rw [← hb]; exact h.apart i q hi hq hiq
      · refine .inr (fun e => ?_)
        have oi := h1.own i hi
        have := own_lt oi e
        omega
    by_cases e1 : q = j
    · subst e1
      rw [Array.getElem_set_self, Array.getElem_set_ne _ hj' hne]
      refine .inr (fun e => ?_)
      rcases other j' hj' (fun e => hne e.symm) with h' | h'
      · rw [h'] at e; cases e
      · exact h' e.symm
    · rw [Array.getElem_set_ne _ hj e1]
      by_cases e2 : q = j'
      · subst e2
        rw [Array.getElem_set_self]
        exact other j hj (fun e => e1 e.symm)
      · rw [Array.getElem_set_ne _ hj' e2]
        exact h.apart j j' hj hj' hne
theorem HeadsX.made (w : World) (base n : Nat) (_ : base ≤ w.heap.size) : HeadsX (w.alloc (.cells (zeros n) 22)) base w.heap.size n (fun _ => []) (zeros n) where
  blk := heap_alloc_new _ _
  size := by rw [zeros, size_madeCells]; omega
  own j hj := by
    have : (zeros n)[j] = .slice none 0 0 := by simp [zeros, madeCells, Value.cells, Nat.mod_one]
    rw [this]
    exact World.ownsRow_nil _ _ _ _
  apart j j' hj hj' _ := by
    have : (zeros n)[j] = .slice none 0 0 := by simp [zeros, madeCells, Value.cells, Nat.mod_one]
    rw [this]
    exact .inl rfl

theorem partN_snoc {M : List (Ck.Knot × Int)} {l : List Ck.Bar} {k q : Nat} (hk : k < l.length) (hq : mget M l[k].lo = (q : Int) + 1) :
    partN M (l.take (k + 1)) q = partN M (l.take k) q ++ [l[k]] ∧ ∀ j, j ≠ q → partN M (l.take (k + 1)) j = partN M (l.take k) j := by
  refine ⟨?_, fun j hj => ?_⟩
  · rw [List.take_succ_eq_append_getElem hk, partN, List.filter_append, partN]
    congr 1
    rw [List.filter_cons, if_pos (by simp only [decide_eq_true_eq]; omega)]
    rfl
  · rw [List.take_succ_eq_append_getElem hk, partN, List.filter_append, partN]
    rw [List.filter_cons, if_neg (by simp only [decide_eq_true_eq]; omega)]
    simp
def hdOf (v : Value) (l : List Ck.Bar) : Hd := match v with
  | .slice a _ c => ⟨a, c, l⟩
  | _ => ⟨none, 0, l⟩
theorem hdOf_l (v : Value) (l : List Ck.Bar) : (hdOf v l).l = l := by unfold hdOf; split <;> rfl
theorem HeadsX.forms {W : World} {base P n : Nat} {M : List (Ck.Knot × Int)} {l : List Ck.Bar} {cur : Array Value} (h : HeadsX W base P n (partN M l) cur) (hP : base ≤ P) (hn : n ≤ maxLen) (hle : ∀ q, (partN M l q).length ≤ 4096) : Forms base (.slice (some ⟨P, 0, none⟩) n n) (partsN M l n) W := by
  have hv : ∀ j (hj : j < cur.size), (hdOf cur[j] (partN M l j)).v = cur[j] := fun j hj => by
    obtain ⟨a, c, e, -, -⟩ := own_slice (h.own j hj)
    rw [e]; rfl
  refine ⟨(List.range n).map fun j => hdOf (cur.getD j (.slice none 0 0)) (partN M l j), ?_, ?_, ?_⟩
  · rw [List.map_map, partsN]
    exact List.map_congr_left fun j _ => hdOf_l _ _
  · intro f hf
    obtain ⟨j, hj, rfl⟩ := List.mem_map.1 hf
    have hj' : j < cur.size := by rw [h.size]; exact List.mem_range.1 hj
    rw [show cur.getD j (.slice none 0 0) = cur[j] by simp [Array.getD, hj']]
    refine ⟨by rw [hdOf_l]; exact hle j, ?_⟩
    rw [hv j hj', hdOf_l]
    exact h.own j hj'
  · have e : ((List.range n).map fun j => hdOf (cur.getD j (.slice none 0 0)) (partN M l j)).map Hd.v = cur.toList := by
      refine List.ext_getElem (by simp [h.size]) fun j h1 h2 => ?_
      have hj' : j < cur.size := by simpa using h2
      simp only [List.getElem_map, List.getElem_range, Array.getElem_toList]
      rw [show cur.getD j (.slice none 0 0) = cur[j] by simp [Array.getD, hj']]
      exact hv j hj'
    rw [e]
    have hs := h.size
    refine ⟨by simp [hs], .inr ⟨P, n, cur, by simp, hP, h.blk, by simp, hn, by simp [hs], ?_⟩⟩
    rw [List.take_of_length_le (by simp [hs])]
set_option maxHeartbeats 4000000 in
set_option maxRecDepth 100000 in
theorem netPartsOfX (A : Option Addr) (c : Nat) (l : List Ck.Bar) (w : World) (hl : l.length ≤ 4096) (hs : l.Pairwise Ck.Blt) (hok : ∀ x ∈ l, Ck.okBar x) (h : RB w w.heap.size A l) :
    Calls Tryz.prog 105 #[.slice A l.length c] w (PartsR l w) := by
  have hmm := @run_makeMap Tryz.prog
  have hl' : (l.length : Int) ≤ 4096 := by omega
  have HS := Lib.hid hs
  have HR := Lib.hid h
  have HOK := Lib.hid hok
  clear hs h hok
  go_enter Tryz.func105, Tryz.ntmps105
  go_wp2_with fail
  go_step3
  go_wp2_with fail
  go_step3
  go_wp2_with fail

  go_loopg [4, 5] l.length (fun g cv iv wi => ∃ i n F M, g = l.length - i ∧ i ≤ l.length ∧ cv = .int .i64 (n : Nat) ∧ iv = .int .i64 (i : Nat) ∧ PtX l i F M ∧ Hid (F.length = n) ∧ MIs wi w.heap.size M ∧ Below w.heap.size w wi)
  case atStart => exact ⟨0, 0, [], [], rfl, Nat.zero_le _, rfl, rfl, PtX.start l, Lib.hid rfl, MIs.made _, (Below.refl _ _).alloc (Nat.le_refl _) _⟩
  case round =>
    obtain ⟨i, n, F, M, hg, hi, rfl, rfl, hpt, HFN, hmi, hbi⟩ := hrel
    have HG := Lib.hid hg
    have HPT := Lib.hid hpt
    have hnl : n ≤ i := by have := hpt.pt.le; rw [HFN.out] at this; exact this
    clear hg hpt
    by_cases hlt : i < l.length
    · have hne : ((i : Int) == (l.length : Int)) = false := by rw [beq_eq_false_iff_ne]; omega
      have hrb := HR.out.below hbi
      have hbz := hbi.size
      obtain ⟨b, off, rfl, hB, hc⟩ := hrb (by omega)
      obtain ⟨c0, c1, c2⟩ := hc i hlt
      clear hc hrb
      have hml := hmi.lt
      by_cases hz : mget M l[i].lo = 0
      · have hzb : (mget M l[i].lo == 0) = true := by rw [hz]; rfl
        have HZ := Lib.hid hz
        clear hz
        go_wp2_with fail
        refine (netLower _ _ _ _).mono ?_
        rintro e w2 ⟨rfl, hb2⟩
        have hm2 := hmi.below hb2 hml
        have hz2 : b < wr.heap.size := by omega
        have d0 := (hb2.cell (p := ⟨b, off + i * 3, none⟩) hz2).trans c0
        have d1 := (hb2.cell (p := ⟨b, off + i * 3 + 1, none⟩) hz2).trans c1
        have d2 := (hb2.cell (p := ⟨b, off + i * 3 + 2, none⟩) hz2).trans c2
        clear c0 c1 c2
        go_wp2_with (first
          | (at_lookup; refine wpList_lookup_kn _ rfl _ _ rfl w.heap.size M hm2 l[i].lo rfl rfl ?_)
          | (go_at_call 86; refine (netLower _ _ _ _).mono ?_; rintro e w3 ⟨rfl, hb3⟩)
          | (go_at_call 142; refine (netNumberFrom _ c w.heap.size l l[i].lo ((n : Int) + 1) M _ hl HS.out HOK.out ((HR.out.below ((hbi.trans (hb2.mono hbz)).trans (hb3.mono (by have := hb2.size; omega)))).more (by have := hb2.size; have := hb3.size; omega)) (Ck.lo_ends (List.getElem_mem hlt)) (by omega) (by omega) HZ.out HPT.out.pt.closed (hm2.below hb3 hm2.lt)).mono ?_; rintro e w4 ⟨rfl, M', hnum, hm4, hg4⟩))
        have hb4 : Below w.heap.size w w4 := ((hbi.trans (hb2.mono hbz)).trans (hb3.mono (by have := hb2.size; omega))).grown hg4 (by have := hb2.size; have := hb3.size; omega) (fun q e => by cases e; exact Nat.le_refl _)
        go_roundg (l.length - (i + 1))
        case measure => rw [HG.out]; omega
        case rel => exact ⟨i + 1, n + 1, F ++ [l[i]], M', rfl, by omega, by go_num, by go_num, HPT.out.fresh HS.out hlt HZ.out (fun k hk => by rw [hnum.1 k hk, HFN.out]; omega) hnum.2, Lib.hid (by rw [List.length_append, HFN.out]; rfl), hm4, hb4⟩
      · have hzb : (mget M l[i].lo == 0) = false := by simpa using hz
        have HZ := Lib.hid hz
        clear hz
        go_wp2_with fail
        refine (netLower _ _ _ _).mono ?_
        rintro e w2 ⟨rfl, hb2⟩
        have hm2 := hmi.below hb2 hml
        go_wp2_with (at_lookup; refine wpList_lookup_kn _ rfl _ _ rfl w.heap.size M hm2 l[i].lo rfl rfl ?_)
        go_roundg (l.length - (i + 1))
        case measure => rw [HG.out]; omega
        case rel => exact ⟨i + 1, n, F, M, rfl, by omega, rfl, by go_num, HPT.out.old hlt HZ.out, HFN, hm2, hbi.trans (hb2.mono hbz)⟩
    · obtain rfl : i = l.length := by omega
      obtain ⟨i1, hi1, hz01, hz11, hz21⟩ := info_parts Tryz.info22
      have hmk : ∀ W : World, (Instr.makeSlice 82 (.int .i64 (n : Int)) (.int .i64 (n : Int))).run Tryz.prog W = .ok (.slice (some ⟨W.heap.size, 0, none⟩) n n) (W.alloc (.cells (zeros n) 22)) := fun W => by
        have := run_make (P := Tryz.prog) W 82 22 i1 (.slice none 0 0) Tryz.underlying82 hi1 hz01 .i64 .i64 (n : Int) (n : Int) (by omega) (by omega) (by rw [hz21]; omega) (by omega)
        rw [hz11, Int.toNat_natCast] at this
        exact this
      have hbz := hbi.size
      obtain ⟨wo, rfl⟩ : ∃ wo : World, wo = wr := ⟨_, rfl⟩
      have HH := Lib.hid (HeadsX.made wo w.heap.size n hbz)
      have hm1 := hmi.below ((Below.refl _ _).alloc (Nat.le_refl _) (.cells (zeros n) 22)) hmi.lt
      have hb1 := hbi.alloc hbz (.cells (zeros n) 22)
      obtain ⟨wp, hwp⟩ : ∃ wp, wp = wo.alloc (.cells (zeros n) 22) := ⟨_, rfl⟩
      rw [← hwp] at HH hm1 hb1
      have HWP := Lib.hid hwp
      clear hwp hi1 hz01 hz11 hz21
      go_wp2_with fail
      rw [← HWP.out]
      obtain ⟨ib, hib, hb0, hb01, hb02⟩ := info_parts Tryz.info24
      have HIB := Lib.hid hib
      have HB0 := Lib.hid hb0
      have HB1 := Lib.hid hb01
      have HB2 := Lib.hid hb02
      clear hib hb0 hb01 hb02
      go_loopg [8, 9, 42] l.length (fun g _ _ iv wi => ∃ k cur, g = l.length - k ∧ k ≤ l.length ∧ iv = .int .i64 (k : Nat) ∧ HeadsX wi w.heap.size wo.heap.size n (partN M (l.take k)) cur ∧ MIs wi w.heap.size M ∧ Below w.heap.size w wi)
      case atStart => exact ⟨0, zeros n, rfl, Nat.zero_le _, rfl, HH.out, hm1, hb1⟩
      case round =>
        obtain ⟨k, cur, hg, hk, rfl, hh, hmk2, hbk⟩ := hrel
        have HGK := Lib.hid hg
        have HHK := Lib.hid hh
        clear hg hh
        by_cases hlt : k < l.length
        · have hrb := HR.out.below hbk
          have hbkz := hbk.size
          obtain ⟨b, off, rfl, hB, hc⟩ := hrb (by omega)
          obtain ⟨c0, c1, c2⟩ := hc k hlt
          obtain ⟨hp1, hp2⟩ := HPT.out.pt.pos (List.getElem_mem hlt)
          rw [HFN.out] at hp2
          obtain ⟨q, hq⟩ : ∃ q : Nat, mget M l[k].lo = (q : Int) + 1 := ⟨(mget M l[k].lo - 1).toNat, by omega⟩
          have hqn : q < n := by omega
          have HQ := Lib.hid hq
          clear hc hrb hq hp1 hp2
          go_wp2_with fail
          refine (netLower _ _ _ _).mono ?_
          rintro e w2 ⟨rfl, hb2⟩
          have b0 : w2.cell? ⟨wr.heap.size, 0, none⟩ = some (.int .i64 l[k].x) := by
            rw [hb2.cell (p := ⟨_, _, none⟩) (by simp), World.cell?_alloc_at _ _ _ _ (by simp)]; rfl
          have b1 : w2.cell? ⟨wr.heap.size, 1, none⟩ = some (.int .i64 l[k].y) := by
            rw [hb2.cell (p := ⟨_, _, none⟩) (by simp), World.cell?_alloc_at _ _ _ _ (by simp)]; rfl
          have b2 : w2.cell? ⟨wr.heap.size, 2, none⟩ = some (.int .i64 l[k].s) := by
            rw [hb2.cell (p := ⟨_, _, none⟩) (by simp), World.cell?_alloc_at _ _ _ _ (by simp)]; rfl
          have hq2 : Below wr.heap.size wr w2 := ((Below.refl _ _).alloc (Nat.le_refl _) _).trans (hb2.mono (by simp))
          have hm2 := hmk2.below hq2 hmk2.lt
          have hh2 := HHK.out.below hq2
          have hqs : q < cur.size := by rw [hh2.size]; exact hqn
          have hPc := hh2.cell hqs
          have hPf := hh2.frozen q
          have oq := hh2.own q hqs
          obtain ⟨mq, hmqe⟩ : ∃ mq, (partN M (l.take k) q).length = mq := ⟨_, rfl⟩
          obtain ⟨xq, hxqe⟩ : ∃ xq, bcellsL (partN M (l.take k) q) = xq := ⟨_, rfl⟩
          have hmq : mq ≤ k := by
            have h1 := List.length_filter_le (fun b : Ck.Bar => decide (mget M b.lo = ((q + 1 : Nat) : Int))) (l.take k)
            rw [← hmqe]; unfold partN
            rw [List.length_take] at h1; omega
          rw [hmqe, hxqe] at oq
          have HPQ := Lib.hid (partN_snoc hlt HQ.out)
          have HMQ := Lib.hid hmqe
          have HXQ := Lib.hid hxqe
          clear hmqe hxqe
          have HO := Lib.hid oq
          have HH2 := Lib.hid hh2
          have HPC := Lib.hid hPc
          have HPF := Lib.hid hPf
          have hbq := hbk.trans (hq2.mono hbkz)
          have hbqz := hbq.size
          generalize hcq : cur[q] = vq at hPc oq HO
          have HCQ := Lib.hid hcq
          have hqi0 : (0 : Int) ≤ (q : Int) := by omega
          have hqi1 : (q : Int) < (n : Int) := by omega
          clear oq hh2 hcq c0 c1 c2 hb2
          go_wp2_with (at_lookup; refine wpList_lookup_kn _ rfl _ _ rfl w.heap.size M hm2 l[k].lo rfl rfl ?_; rw [HQ.out])
          have hPlt := HH2.out.lt
          have hPne : vq.ownBlock ≠ some wo.heap.size := own_block_ne HO.out HH2.out.blk (by decide)
          go_region_law (first
            | (refine step_append_lies _ rfl (.tmp 56) (.tmp 58) 22 rfl w.heap.size 24 ib (.agg #[.int .i64 0, .int .i64 0, .int .i64 0]) 3 24 Tryz.underlying22 HIB.out HB0.out HB1.out HB2.out rfl (by decide) vq mq xq (by simp [Act.eval]) (by exact HO.out.alloc _) ⟨w2.heap.size, 0, none⟩ 1 1 [.int .i64 l[k].x, .int .i64 l[k].y, .int .i64 l[k].s] (by simp [Act.eval]) rfl (by exact three_new _ _ _ _ _) (by intro u hu; simp at hu; rcases hu with rfl | rfl | rfl <;> rfl) (by decide) (by unfold maxLen; omega) (by omega) (by simp; omega) (w2.heap.size + 1) (by simp) ?_; intro g cap w5 hown5 hgrow5 hblk5 hg5; have s0 : w5.cell? ⟨wo.heap.size, q, none⟩ = some vq := (World.cell?_of_block (hgrow5.block wo.heap.size (by simp; omega) (fun e => hPne e.symm))).trans (((Below.refl _ w2).alloc (Nat.le_refl _) _).cell (p := ⟨wo.heap.size, q, none⟩) hPlt |>.trans hPc); have sf : w5.frozen? ⟨wo.heap.size, q, none⟩ = false := (World.frozen?_of_block (hgrow5.block wo.heap.size (by simp; omega) (fun e => hPne e.symm))).trans (((Below.refl _ w2).alloc (Nat.le_refl _) _).frozen (p := ⟨wo.heap.size, q, none⟩) hPlt |>.trans hPf)))
          all_goals
            have hW1 : Below w2.heap.size w2 ((w2.alloc (.cells #[.int .i64 l[k].x, .int .i64 l[k].y, .int .i64 l[k].s] 24)).drew) := below_drew ((Below.refl _ _).alloc (Nat.le_refl _) _)
            have hmlt := hmi.lt
            have hm5 : MIs w5 w.heap.size M := (hm2.below hW1 hm2.lt).of_block (hgrow5.block w.heap.size (by have := hm2.lt; simp; omega) (fun e => own_map_ne HO.out hm2 e.symm))
            have hm6 : MIs (w5.setCell ⟨wo.heap.size, q, none⟩ (.slice (some ⟨g, 0, none⟩) (mq + 1) cap)) w.heap.size M := hm5.of_block (Below.heap_setCell _ _ _ _ (by show w.heap.size ≠ wo.heap.size; omega))
            have hb6 : Below w.heap.size w (w5.setCell ⟨wo.heap.size, q, none⟩ (.slice (some ⟨g, 0, none⟩) (mq + 1) cap)) := ((hbq.trans (hW1.mono hbqz)).grown hgrow5 (by simp; omega) (ownsRow_base HO.out)).setCell (by show w.heap.size ≤ wo.heap.size; omega) _
            have HST := Lib.hid (HH2.out.step (F' := partN M (l.take (k + 1))) HPQ.out.2 hW1 hqs (m := mq + 1) (by rw [HPQ.out.1, List.length_append, HMQ.out]; rfl) (by rw [HPQ.out.1, bcellsL_snoc, HXQ.out]; exact hown5) (by rw [HCQ.out]; exact hgrow5) (by rw [HCQ.out]; simpa using hblk5))
            have HM6 := Lib.hid hm6
            have HB6 := Lib.hid hb6
            clear hW1 hm5 hm6 hb6 hown5 hgrow5 hblk5 s0 sf hg5
            go_wp2
            go_roundg (l.length - (k + 1))
            case measure => rw [HGK.out]; omega
            case rel => exact ⟨k + 1, _, rfl, by omega, by go_num, HST.out, HM6.out, HB6.out⟩
        · obtain rfl : k = l.length := by omega
          have hh := HHK.out
          rw [List.take_length] at hh
          have HD := Lib.hid (HPT.out.parts HS.out)
          have HHF := Lib.hid hh
          clear hh
          go_wp2
          go_ret
          exact ⟨_, partsN M l n, rfl, by have := HD.out; rw [HFN.out] at this; exact this, by rw [partsN_length]; exact hnl, HHF.out.forms hbz (by unfold maxLen; omega) (fun q => by have := List.length_filter_le (fun b : Ck.Bar => decide (mget M b.lo = ((q + 1 : Nat) : Int))) l; unfold partN; omega), hbk⟩
end Go.Proofs.YtdeplhihcifmeaaGreatDoor

/- The knots of a net in their order: plain mathematics; Knots, Legs and Meshes of the program. -/
namespace Go.Proofs.YtdeplhihcifmeaaGreatDoor
open Go.RowKit Go.Sort Go.Shelf

def knotsL (l : List Ck.Bar) : List Ck.Knot := insL ltK (Ck.ends l) []
theorem knotsL_pw (l : List Ck.Bar) : (knotsL l).Pairwise fun a b => ltK a b = true := insL_sorted ltK ltK_tr ltK_tri _ [] List.Pairwise.nil
theorem knotsL_mem (l : List Ck.Bar) (k : Ck.Knot) : k ∈ knotsL l ↔ k ∈ Ck.ends l := by rw [knotsL, insL_mem]; simp
theorem knotsL_nodup (l : List Ck.Bar) : (knotsL l).Nodup := (knotsL_pw l).imp fun {a b} h e => by subst e; rw [ltK_irr] at h; cases h
end Go.Proofs.YtdeplhihcifmeaaGreatDoor
