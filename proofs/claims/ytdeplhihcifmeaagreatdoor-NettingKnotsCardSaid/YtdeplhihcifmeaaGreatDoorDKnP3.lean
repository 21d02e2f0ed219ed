/- Helpers: DKnP3. -/
import Derived.Test.YtdeplhihcifmeaaGreatDoorDKnP2
import Derived.Deep.RegionHeld3
import Derived.ProofKit
import Derived.Deep.Slices
import Derived.Deep.Fields
/- The reference's Degree and HasMesh. -/
namespace Go.Proofs.YtdeplhihcifmeaaGreatDoor
open Go.RowKit Go.Shelf Ck

def kgM4 (x y : Int) : List Bar := [⟨x, y - 1, -1⟩, ⟨x, y - 1, 1⟩, ⟨x - 1, y, 1⟩, ⟨x + 1, y, -1⟩]
theorem kgRow (w : World) (base : Nat) (hb : base ≤ w.heap.size) (t : TypeId) (l : List Bar) (hl : l.length = 4) : (w.alloc (.cells (bcellsL l).toArray t)).ownsRow base t 3 (.slice (some ⟨w.heap.size, 0, none⟩) 4 4) l.length (bcellsL l) :=
  ⟨by rw [bcellsL_length], .inr ⟨w.heap.size, 4, _, by rw [hl], hb, heap_alloc_new _ _, by omega, by unfold maxLen; omega, by simp [bcellsL_length, hl], by rw [List.take_of_length_le (by simp [bcellsL_length])]⟩⟩
theorem kgRow2 (w : World) (o : Obj) (base : Nat) (hb : base ≤ w.heap.size) (t : TypeId) (l : List Bar) (hl : l.length = 4) : ((w.alloc o).alloc (.cells (bcellsL l).toArray t)).ownsRow base t 3 (.slice (some ⟨w.heap.size + 1, 0, none⟩) 4 4) l.length (bcellsL l) := by
  have := kgRow (w.alloc o) base (by simp; omega) t l hl
  rwa [World.size_alloc] at this
set_option maxHeartbeats 8000000 in
set_option maxRecDepth 100000 in
theorem refDegree (A : Option Addr) (c : Nat) (l : List Bar) (x y : Int) (d : Nat) (w : World) (hd : (ends l).count ⟨x, y⟩ = d) (hl : l.length ≤ 4096) (hok : ∀ b ∈ l, okBar b) (h : OKS w A c l) :
    Calls Tryz.prog 45 #[.slice A l.length c, .agg #[.int .i64 x, .int .i64 y]] w fun e w' => e = .returned (.int .i64 (d : Int)) ∧ Below w.heap.size w w' := by
  obtain ⟨w1, hw1, z0, z1, hb1, hz1⟩ := box2 w (.int .i64 x) (.int .i64 y) 26
  have Q : ∀ {W : World}, Below w1.heap.size w1 W → W.cell? ⟨w.heap.size, 0, none⟩ = some (.int .i64 x) ∧ W.cell? ⟨w.heap.size, 1, none⟩ = some (.int .i64 y) := fun hb => ⟨(hb.cell (p := ⟨w.heap.size, 0, none⟩) hz1).trans z0, (hb.cell (p := ⟨w.heap.size, 1, none⟩) hz1).trans z1⟩
  have HW1 := Lib.hid hw1
  have HR := Lib.hid (h.below hb1)
  have HD := Lib.hid hd
  have HOK := Lib.hid hok
  have hl' : (l.length : Int) ≤ 4096 := by omega
  have hgd := guardKnot
  clear h hd hok hw1 z0 z1
  go_enter Tryz.func45, Tryz.ntmps45
  go_wp2_with fail
  rw [← HW1.out]
  go_wp2_with fail
  go_loopw [5, 6] (fun v i wr => ∃ j : Nat, j ≤ l.length ∧ i = .int .i64 j ∧ v = .int .i64 (((ends (l.take j)).count (⟨x, y⟩ : Knot) : Nat) : Int) ∧ Below w1.heap.size w1 wr) (fun _ i _ => l.length - (intOf i).toNat)
  case atStart => exact ⟨0, Nat.zero_le _, rfl, by simp [ends], Below.refl _ _⟩
  case round =>
    obtain ⟨j, hj, rfl, rfl, hb⟩ := hrel
    have hbz := hb.size
    by_cases hlt : j < l.length
    · obtain ⟨b, off, rfl, hB, hc⟩ := ((HR.out.below hb).2.2.2) (by omega)
      obtain ⟨d0, d1, d2⟩ := hc j hlt
      have hj1 : (j : Int) < (l.length : Int) := by omega
      have hj0 : (0 : Int) ≤ (j : Int) := by omega
      clear hc
      obtain ⟨k, hk⟩ : ∃ k, l[j] = k := ⟨_, rfl⟩
      have hcnt : (ends (l.take (j + 1))).count (⟨x, y⟩ : Knot) = (ends (l.take j)).count (⟨x, y⟩ : Knot) + [k.lo, k.hi].count (⟨x, y⟩ : Knot) := by
        rw [List.take_succ_eq_append_getElem hlt, ends_append, List.count_append, hk]
        simp [ends]
      have hle : (ends (l.take j)).count (⟨x, y⟩ : Knot) ≤ 8192 := by
        have h3 := List.count_le_length (a := (⟨x, y⟩ : Knot)) (l := ends (l.take j))
        have h4 := ends_length (l.take j)
        rw [List.length_take] at h4
        omega
      have HKO := Lib.hid (show okBar k by rw [← hk]; exact HOK.out _ (List.getElem_mem hlt))
      rw [hk] at d0 d1 d2
      obtain ⟨⟨⟨x1, x2⟩, ⟨y1, y2⟩, -⟩, ks, -, -⟩ := HKO.out
      simp only [Bar.lo] at x1 x2 y1 y2
      have ks1 : -1 ≤ k.s := by omega
      have ks2 : k.s ≤ 1 := by omega
      have CR : ∀ {W : World}, Below wr.heap.size wr W → W.cell? ⟨b, off + j * 3, none⟩ = some (.int .i64 k.x) ∧ W.cell? ⟨b, off + j * 3 + 1, none⟩ = some (.int .i64 k.y) ∧ W.cell? ⟨b, off + j * 3 + 2, none⟩ = some (.int .i64 k.s) :=
        fun hq => ⟨(hq.cell (p := ⟨b, off + j * 3, none⟩) hB).trans d0, (hq.cell (p := ⟨b, off + j * 3 + 1, none⟩) hB).trans d1, (hq.cell (p := ⟨b, off + j * 3 + 2, none⟩) hB).trans d2⟩
      clear hk ks d0 d1 d2
      generalize (ends (l.take j)).count (⟨x, y⟩ : Knot) = C at *
      by_cases h1 : (⟨k.x, k.y⟩ : Knot) = ⟨x, y⟩
      · have hq := eqKnot' ⟨k.x, k.y⟩ ⟨x, y⟩ true (by simpa using h1)
        have hne : k.hi ≠ (⟨x, y⟩ : Knot) := by
          intro h2
          rw [← h1] at h2
          simp only [Bar.hi, Knot.mk.injEq] at h2
          omega
        have HCT := Lib.hid (show (ends (l.take (j + 1))).count (⟨x, y⟩ : Knot) = C + 1 by
          rw [hcnt, List.count_cons, List.count_cons, List.count_nil, if_neg (by simpa using hne), if_pos (by simpa [Bar.lo] using h1)])
        clear h1 hne hcnt
        go_wp2_with fail
        refine wp_region_held_drew (S := (fun w' => Below wr.heap.size wr w')) (by kernel_rfl) ?_ (fun hHeld => ?_)
        · exact below_drew (Below.refl _ _)
        refine wpAnyH_take (i := 0) (oi := _) (v := ?vdlo0) rfl (by kernel_rfl) (by kernel_rfl) (by kernel_rfl) (fun _ _ _ h => h) (Or.inl ⟨by rfl, ?hydlo0⟩) (by assumption) ?restdlo0
        case hydlo0 => (intro w hSw; (try dsimp only at hSw); go_simp; first | done | rfl)
        try simp only [List.getElem_toArray, List.getElem_cons_succ, List.getElem_cons_zero, Act.put, List.setIfInBounds_toArray, List.set_cons_zero, List.set_cons_succ]
        refine wpAnyH_take (i := 1) (oi := _) (v := ?vdlo1) rfl (by kernel_rfl) (by kernel_rfl) (by kernel_rfl) (fun _ _ _ h => h) (Or.inl ⟨by rfl, ?hydlo1⟩) (by assumption) ?restdlo1
        case hydlo1 => (intro w hSw; (try dsimp only at hSw); go_simp; first | done | rfl)
        try simp only [List.getElem_toArray, List.getElem_cons_succ, List.getElem_cons_zero, Act.put, List.setIfInBounds_toArray, List.set_cons_zero, List.set_cons_succ]
        refine wpAnyH_take (i := 2) (oi := _) (v := ?vdlo2) rfl (by kernel_rfl) (by kernel_rfl) (by kernel_rfl) (fun _ _ _ h => h) (Or.inl ⟨by rfl, ?hydlo2⟩) (by assumption) ?restdlo2
        case hydlo2 => (intro w hSw; (try dsimp only at hSw); go_simp; first | done | rfl)
        try simp only [List.getElem_toArray, List.getElem_cons_succ, List.getElem_cons_zero, Act.put, List.setIfInBounds_toArray, List.set_cons_zero, List.set_cons_succ]
        refine wpAnyH_take (i := 3) (oi := _) (v := ?vdlo3) rfl (by kernel_rfl) (by kernel_rfl) (by kernel_rfl) (fun _ _ _ h => h) (Or.inl ⟨by rfl, ?hydlo3⟩) (by assumption) ?restdlo3
        case hydlo3 => (intro w hSw; (try dsimp only at hSw); obtain ⟨q0, q1⟩ := Q (hbT hb hSw); obtain ⟨e0, e1, e2⟩ := CR hSw; go_simp; first | done | rfl)
        try simp only [List.getElem_toArray, List.getElem_cons_succ, List.getElem_cons_zero, Act.put, List.setIfInBounds_toArray, List.set_cons_zero, List.set_cons_succ]
        refine wpAnyH_take (i := 5) (oi := _) (v := ?vdlo5) rfl (by kernel_rfl) (by kernel_rfl) (by kernel_rfl) (fun _ _ _ h => h) (Or.inl ⟨by rfl, ?hydlo5⟩) (by assumption) ?restdlo5
        case hydlo5 => (intro w hSw; (try dsimp only at hSw); obtain ⟨q0, q1⟩ := Q (hbT hb hSw); obtain ⟨e0, e1, e2⟩ := CR hSw; go_simp; first | done | rfl)
        try simp only [List.getElem_toArray, List.getElem_cons_succ, List.getElem_cons_zero, Act.put, List.setIfInBounds_toArray, List.set_cons_zero, List.set_cons_succ]
        refine wpAnyH_ready (rs := [4]) (by kernel_rfl) (by simp) ?_
        refine AllReadyH.cons (o := _) rfl (fun K hK => ?_) AllReadyH.nil
        simp only [List.getElem_toArray, List.getElem_cons_succ, List.getElem_cons_zero]
        go_simp
        go_at_call 80
        refine (refLower k.x k.y k.s _).mono ?_
        rintro e w4 ⟨rfl, hbq⟩
        refine hK.out _ _ (hbT (by assumption) hbq) (fun hHeld => ?_)
        clear hK K
        try simp only [List.getElem_toArray, List.getElem_cons_succ, List.getElem_cons_zero, Act.put, List.setIfInBounds_toArray, List.set_cons_zero, List.set_cons_succ]
        refine wpAnyH_take (i := 6) (oi := _) (v := ?vdlo6) rfl (by kernel_rfl) (by kernel_rfl) (by kernel_rfl) (fun _ _ _ h => h) (Or.inl ⟨by rfl, ?hydlo6⟩) (by assumption) ?restdlo6
        case hydlo6 => (intro w hSw; (try dsimp only at hSw); go_simp; first | done | rfl)
        try simp only [List.getElem_toArray, List.getElem_cons_succ, List.getElem_cons_zero, Act.put, List.setIfInBounds_toArray, List.set_cons_zero, List.set_cons_succ]
        refine wpAnyH_take (i := 7) (oi := _) (v := ?vdlo7) rfl (by kernel_rfl) (by kernel_rfl) (by kernel_rfl) (fun _ _ _ h => h) (Or.inl ⟨by rfl, ?hydlo7⟩) (by assumption) ?restdlo7
        case hydlo7 => (intro w hSw; (try dsimp only at hSw); go_simp; first | done | rfl)
        try simp only [List.getElem_toArray, List.getElem_cons_succ, List.getElem_cons_zero, Act.put, List.setIfInBounds_toArray, List.set_cons_zero, List.set_cons_succ]
        refine wpAnyH_take (i := 8) (oi := _) (v := undef) rfl (by kernel_rfl) (by kernel_rfl) (by kernel_rfl) (fun _ _ _ h => h) (Or.inr ⟨by rfl, rfl⟩) (by assumption) ?restdlo8
        try simp only [List.getElem_toArray, List.getElem_cons_succ, List.getElem_cons_zero, Act.put, List.setIfInBounds_toArray, List.set_cons_zero, List.set_cons_succ]
        refine wpAnyH_take (i := 9) (oi := _) (v := undef) rfl (by kernel_rfl) (by kernel_rfl) (by kernel_rfl) (fun _ _ _ h => h) (Or.inr ⟨by rfl, rfl⟩) (by assumption) ?restdlo9
        try simp only [List.getElem_toArray, List.getElem_cons_succ, List.getElem_cons_zero, Act.put, List.setIfInBounds_toArray, List.set_cons_zero, List.set_cons_succ]
        refine wpAnyH_take (i := 10) (oi := _) (v := undef) rfl (by kernel_rfl) (by kernel_rfl) (by kernel_rfl) (fun _ _ _ h => h) (Or.inr ⟨by rfl, rfl⟩) (by assumption) ?restdlo10
        try simp only [List.getElem_toArray, List.getElem_cons_succ, List.getElem_cons_zero, Act.put, List.setIfInBounds_toArray, List.set_cons_zero, List.set_cons_succ]
        refine wpAnyH_take (i := 11) (oi := _) (v := undef) rfl (by kernel_rfl) (by kernel_rfl) (by kernel_rfl) (fun _ _ _ h => h) (Or.inr ⟨by rfl, rfl⟩) (by assumption) ?restdlo11
        try simp only [List.getElem_toArray, List.getElem_cons_succ, List.getElem_cons_zero, Act.put, List.setIfInBounds_toArray, List.set_cons_zero, List.set_cons_succ]
        refine wpAnyH_take (i := 12) (oi := _) (v := undef) rfl (by kernel_rfl) (by kernel_rfl) (by kernel_rfl) (fun _ _ _ h => h) (Or.inr ⟨by rfl, rfl⟩) (by assumption) ?restdlo12
        try simp only [List.getElem_toArray, List.getElem_cons_succ, List.getElem_cons_zero, Act.put, List.setIfInBounds_toArray, List.set_cons_zero, List.set_cons_succ]
        refine wpAnyH_take (i := 13) (oi := _) (v := undef) rfl (by kernel_rfl) (by kernel_rfl) (by kernel_rfl) (fun _ _ _ h => h) (Or.inr ⟨by rfl, rfl⟩) (by assumption) ?restdlo13
        try simp only [List.getElem_toArray, List.getElem_cons_succ, List.getElem_cons_zero, Act.put, List.setIfInBounds_toArray, List.set_cons_zero, List.set_cons_succ]
        refine wpAnyH_take (i := 14) (oi := _) (v := undef) rfl (by kernel_rfl) (by kernel_rfl) (by kernel_rfl) (fun _ _ _ h => h) (Or.inr ⟨by rfl, rfl⟩) (by assumption) ?restdlo14
        try simp only [List.getElem_toArray, List.getElem_cons_succ, List.getElem_cons_zero, Act.put, List.setIfInBounds_toArray, List.set_cons_zero, List.set_cons_succ]
        refine wpAnyH_take (i := 15) (oi := _) (v := ?vdlo15) rfl (by kernel_rfl) (by kernel_rfl) (by kernel_rfl) (fun _ _ _ h => h) (Or.inl ⟨by rfl, ?hydlo15⟩) (by assumption) ?restdlo15
        case hydlo15 => (intro w hSw; (try dsimp only at hSw); go_simp; first | done | rfl)
        try simp only [List.getElem_toArray, List.getElem_cons_succ, List.getElem_cons_zero, Act.put, List.setIfInBounds_toArray, List.set_cons_zero, List.set_cons_succ]
        refine wpAnyH_done (by kernel_rfl) ?_ _
        have B5 := hbT hb hHeld
        skip
        go_wp2
        go_roundw
        case rel => exact ⟨j + 1, by omega, by go_num, by rw [HCT.out]; go_num, B5⟩
        case measure => simp [intOf]; omega
      · have hq := eqKnot' ⟨k.x, k.y⟩ ⟨x, y⟩ false (by simpa using h1)
        by_cases h2 : (⟨k.x + k.s, k.y + 1⟩ : Knot) = ⟨x, y⟩
        · have hq2 := eqKnot' ⟨k.x + k.s, k.y + 1⟩ ⟨x, y⟩ true (by simpa using h2)
          have HCT := Lib.hid (show (ends (l.take (j + 1))).count (⟨x, y⟩ : Knot) = C + 1 by
            rw [hcnt, List.count_cons, List.count_cons, List.count_nil, if_pos (by simpa [Bar.hi] using h2), if_neg (by simpa [Bar.lo] using h1)])
          clear h1 h2 hcnt
          go_wp2_with fail
          refine wp_region_held_drew (S := (fun w' => Below wr.heap.size wr w')) (by kernel_rfl) ?_ (fun hHeld => ?_)
          · exact below_drew (Below.refl _ _)
          refine wpAnyH_take (i := 0) (oi := _) (v := ?vdhi0) rfl (by kernel_rfl) (by kernel_rfl) (by kernel_rfl) (fun _ _ _ h => h) (Or.inl ⟨by rfl, ?hydhi0⟩) (by assumption) ?restdhi0
          case hydhi0 => (intro w hSw; (try dsimp only at hSw); go_simp; first | done | rfl)
          try simp only [List.getElem_toArray, List.getElem_cons_succ, List.getElem_cons_zero, Act.put, List.setIfInBounds_toArray, List.set_cons_zero, List.set_cons_succ]
          refine wpAnyH_take (i := 1) (oi := _) (v := ?vdhi1) rfl (by kernel_rfl) (by kernel_rfl) (by kernel_rfl) (fun _ _ _ h => h) (Or.inl ⟨by rfl, ?hydhi1⟩) (by assumption) ?restdhi1
          case hydhi1 => (intro w hSw; (try dsimp only at hSw); go_simp; first | done | rfl)
          try simp only [List.getElem_toArray, List.getElem_cons_succ, List.getElem_cons_zero, Act.put, List.setIfInBounds_toArray, List.set_cons_zero, List.set_cons_succ]
          refine wpAnyH_take (i := 2) (oi := _) (v := ?vdhi2) rfl (by kernel_rfl) (by kernel_rfl) (by kernel_rfl) (fun _ _ _ h => h) (Or.inl ⟨by rfl, ?hydhi2⟩) (by assumption) ?restdhi2
          case hydhi2 => (intro w hSw; (try dsimp only at hSw); go_simp; first | done | rfl)
          try simp only [List.getElem_toArray, List.getElem_cons_succ, List.getElem_cons_zero, Act.put, List.setIfInBounds_toArray, List.set_cons_zero, List.set_cons_succ]
          refine wpAnyH_take (i := 3) (oi := _) (v := ?vdhi3) rfl (by kernel_rfl) (by kernel_rfl) (by kernel_rfl) (fun _ _ _ h => h) (Or.inl ⟨by rfl, ?hydhi3⟩) (by assumption) ?restdhi3
          case hydhi3 => (intro w hSw; (try dsimp only at hSw); obtain ⟨q0, q1⟩ := Q (hbT hb hSw); obtain ⟨e0, e1, e2⟩ := CR hSw; go_simp; first | done | rfl)
          try simp only [List.getElem_toArray, List.getElem_cons_succ, List.getElem_cons_zero, Act.put, List.setIfInBounds_toArray, List.set_cons_zero, List.set_cons_succ]
          refine wpAnyH_take (i := 5) (oi := _) (v := ?vdhi5) rfl (by kernel_rfl) (by kernel_rfl) (by kernel_rfl) (fun _ _ _ h => h) (Or.inl ⟨by rfl, ?hydhi5⟩) (by assumption) ?restdhi5
          case hydhi5 => (intro w hSw; (try dsimp only at hSw); obtain ⟨q0, q1⟩ := Q (hbT hb hSw); obtain ⟨e0, e1, e2⟩ := CR hSw; go_simp; first | done | rfl)
          try simp only [List.getElem_toArray, List.getElem_cons_succ, List.getElem_cons_zero, Act.put, List.setIfInBounds_toArray, List.set_cons_zero, List.set_cons_succ]
          refine wpAnyH_ready (rs := [4]) (by kernel_rfl) (by simp) ?_
          refine AllReadyH.cons (o := _) rfl (fun K hK => ?_) AllReadyH.nil
          simp only [List.getElem_toArray, List.getElem_cons_succ, List.getElem_cons_zero]
          go_simp
          go_at_call 80
          refine (refLower k.x k.y k.s _).mono ?_
          rintro e w4 ⟨rfl, hbq⟩
          refine hK.out _ _ (hbT (by assumption) hbq) (fun hHeld => ?_)
          clear hK K
          try simp only [List.getElem_toArray, List.getElem_cons_succ, List.getElem_cons_zero, Act.put, List.setIfInBounds_toArray, List.set_cons_zero, List.set_cons_succ]
          refine wpAnyH_take (i := 6) (oi := _) (v := ?vdhi6) rfl (by kernel_rfl) (by kernel_rfl) (by kernel_rfl) (fun _ _ _ h => h) (Or.inl ⟨by rfl, ?hydhi6⟩) (by assumption) ?restdhi6
          case hydhi6 => (intro w hSw; (try dsimp only at hSw); go_simp; first | done | rfl)
          try simp only [List.getElem_toArray, List.getElem_cons_succ, List.getElem_cons_zero, Act.put, List.setIfInBounds_toArray, List.set_cons_zero, List.set_cons_succ]
          refine wpAnyH_take (i := 7) (oi := _) (v := ?vdhi7) rfl (by kernel_rfl) (by kernel_rfl) (by kernel_rfl) (fun _ _ _ h => h) (Or.inl ⟨by rfl, ?hydhi7⟩) (by assumption) ?restdhi7
          case hydhi7 => (intro w hSw; (try dsimp only at hSw); go_simp; first | done | rfl)
          try simp only [List.getElem_toArray, List.getElem_cons_succ, List.getElem_cons_zero, Act.put, List.setIfInBounds_toArray, List.set_cons_zero, List.set_cons_succ]
          refine wpAnyH_take (i := 8) (oi := _) (v := ?vdhi8) rfl (by kernel_rfl) (by kernel_rfl) (by kernel_rfl) (fun _ _ _ h => h) (Or.inl ⟨by rfl, ?hydhi8⟩) (by assumption) ?restdhi8
          case hydhi8 => (intro w hSw; (try dsimp only at hSw); go_simp; first | done | rfl)
          try simp only [List.getElem_toArray, List.getElem_cons_succ, List.getElem_cons_zero, Act.put, List.setIfInBounds_toArray, List.set_cons_zero, List.set_cons_succ]
          refine wpAnyH_take (i := 9) (oi := _) (v := ?vdhi9) rfl (by kernel_rfl) (by kernel_rfl) (by kernel_rfl) (fun _ _ _ h => h) (Or.inl ⟨by rfl, ?hydhi9⟩) (by assumption) ?restdhi9
          case hydhi9 => (intro w hSw; (try dsimp only at hSw); go_simp; first | done | rfl)
          try simp only [List.getElem_toArray, List.getElem_cons_succ, List.getElem_cons_zero, Act.put, List.setIfInBounds_toArray, List.set_cons_zero, List.set_cons_succ]
          refine wpAnyH_take (i := 10) (oi := _) (v := ?vdhi10) rfl (by kernel_rfl) (by kernel_rfl) (by kernel_rfl) (fun _ _ _ h => h) (Or.inl ⟨by rfl, ?hydhi10⟩) (by assumption) ?restdhi10
          case hydhi10 => (intro w hSw; (try dsimp only at hSw); go_simp; first | done | rfl)
          try simp only [List.getElem_toArray, List.getElem_cons_succ, List.getElem_cons_zero, Act.put, List.setIfInBounds_toArray, List.set_cons_zero, List.set_cons_succ]
          refine wpAnyH_take (i := 11) (oi := _) (v := ?vdhi11) rfl (by kernel_rfl) (by kernel_rfl) (by kernel_rfl) (fun _ _ _ h => h) (Or.inl ⟨by rfl, ?hydhi11⟩) (by assumption) ?restdhi11
          case hydhi11 => (intro w hSw; (try dsimp only at hSw); obtain ⟨q0, q1⟩ := Q (hbT hb hSw); obtain ⟨e0, e1, e2⟩ := CR hSw; go_simp; first | done | rfl)
          try simp only [List.getElem_toArray, List.getElem_cons_succ, List.getElem_cons_zero, Act.put, List.setIfInBounds_toArray, List.set_cons_zero, List.set_cons_succ]
          refine wpAnyH_take (i := 13) (oi := _) (v := ?vdhi13) rfl (by kernel_rfl) (by kernel_rfl) (by kernel_rfl) (fun _ _ _ h => h) (Or.inl ⟨by rfl, ?hydhi13⟩) (by assumption) ?restdhi13
          case hydhi13 => (intro w hSw; (try dsimp only at hSw); obtain ⟨q0, q1⟩ := Q (hbT hb hSw); obtain ⟨e0, e1, e2⟩ := CR hSw; go_simp; first | done | rfl)
          try simp only [List.getElem_toArray, List.getElem_cons_succ, List.getElem_cons_zero, Act.put, List.setIfInBounds_toArray, List.set_cons_zero, List.set_cons_succ]
          refine wpAnyH_ready (rs := [12]) (by kernel_rfl) (by simp) ?_
          refine AllReadyH.cons (o := _) rfl (fun K hK => ?_) AllReadyH.nil
          simp only [List.getElem_toArray, List.getElem_cons_succ, List.getElem_cons_zero]
          go_simp
          go_at_call 81
          refine (refUpper k.x k.y k.s _ x1 x2 y1 y2 ks1 ks2).mono ?_
          rintro e w5 ⟨rfl, hbq⟩
          refine hK.out _ _ (hbT (by assumption) hbq) (fun hHeld => ?_)
          clear hK K
          try simp only [List.getElem_toArray, List.getElem_cons_succ, List.getElem_cons_zero, Act.put, List.setIfInBounds_toArray, List.set_cons_zero, List.set_cons_succ]
          refine wpAnyH_take (i := 14) (oi := _) (v := ?vdhi14) rfl (by kernel_rfl) (by kernel_rfl) (by kernel_rfl) (fun _ _ _ h => h) (Or.inl ⟨by rfl, ?hydhi14⟩) (by assumption) ?restdhi14
          case hydhi14 => (intro w hSw; (try dsimp only at hSw); go_simp; first | done | rfl)
          try simp only [List.getElem_toArray, List.getElem_cons_succ, List.getElem_cons_zero, Act.put, List.setIfInBounds_toArray, List.set_cons_zero, List.set_cons_succ]
          refine wpAnyH_take (i := 15) (oi := _) (v := ?vdhi15) rfl (by kernel_rfl) (by kernel_rfl) (by kernel_rfl) (fun _ _ _ h => h) (Or.inl ⟨by rfl, ?hydhi15⟩) (by assumption) ?restdhi15
          case hydhi15 => (intro w hSw; (try dsimp only at hSw); go_simp; first | done | rfl)
          try simp only [List.getElem_toArray, List.getElem_cons_succ, List.getElem_cons_zero, Act.put, List.setIfInBounds_toArray, List.set_cons_zero, List.set_cons_succ]
          refine wpAnyH_done (by kernel_rfl) ?_ _
          have B5 := hbT hb hHeld
          skip
          go_wp2
          go_roundw
          case rel => exact ⟨j + 1, by omega, by go_num, by rw [HCT.out]; go_num, B5⟩
          case measure => simp [intOf]; omega
        · have hq2 := eqKnot' ⟨k.x + k.s, k.y + 1⟩ ⟨x, y⟩ false (by simpa using h2)
          have HCT := Lib.hid (show (ends (l.take (j + 1))).count (⟨x, y⟩ : Knot) = C by
            rw [hcnt, List.count_cons, List.count_cons, List.count_nil, if_neg (by simpa [Bar.hi] using h2), if_neg (by simpa [Bar.lo] using h1)]; omega)
          clear h1 h2 hcnt
          go_wp2_with fail
          refine wp_region_held_drew (S := (fun w' => Below wr.heap.size wr w')) (by kernel_rfl) ?_ (fun hHeld => ?_)
          · exact below_drew (Below.refl _ _)
          refine wpAnyH_take (i := 0) (oi := _) (v := ?vdno0) rfl (by kernel_rfl) (by kernel_rfl) (by kernel_rfl) (fun _ _ _ h => h) (Or.inl ⟨by rfl, ?hydno0⟩) (by assumption) ?restdno0
          case hydno0 => (intro w hSw; (try dsimp only at hSw); go_simp; first | done | rfl)
          try simp only [List.getElem_toArray, List.getElem_cons_succ, List.getElem_cons_zero, Act.put, List.setIfInBounds_toArray, List.set_cons_zero, List.set_cons_succ]
          refine wpAnyH_take (i := 1) (oi := _) (v := ?vdno1) rfl (by kernel_rfl) (by kernel_rfl) (by kernel_rfl) (fun _ _ _ h => h) (Or.inl ⟨by rfl, ?hydno1⟩) (by assumption) ?restdno1
          case hydno1 => (intro w hSw; (try dsimp only at hSw); go_simp; first | done | rfl)
          try simp only [List.getElem_toArray, List.getElem_cons_succ, List.getElem_cons_zero, Act.put, List.setIfInBounds_toArray, List.set_cons_zero, List.set_cons_succ]
          refine wpAnyH_take (i := 2) (oi := _) (v := ?vdno2) rfl (by kernel_rfl) (by kernel_rfl) (by kernel_rfl) (fun _ _ _ h => h) (Or.inl ⟨by rfl, ?hydno2⟩) (by assumption) ?restdno2
          case hydno2 => (intro w hSw; (try dsimp only at hSw); go_simp; first | done | rfl)
          try simp only [List.getElem_toArray, List.getElem_cons_succ, List.getElem_cons_zero, Act.put, List.setIfInBounds_toArray, List.set_cons_zero, List.set_cons_succ]
          refine wpAnyH_take (i := 3) (oi := _) (v := ?vdno3) rfl (by kernel_rfl) (by kernel_rfl) (by kernel_rfl) (fun _ _ _ h => h) (Or.inl ⟨by rfl, ?hydno3⟩) (by assumption) ?restdno3
          case hydno3 => (intro w hSw; (try dsimp only at hSw); obtain ⟨q0, q1⟩ := Q (hbT hb hSw); obtain ⟨e0, e1, e2⟩ := CR hSw; go_simp; first | done | rfl)
          try simp only [List.getElem_toArray, List.getElem_cons_succ, List.getElem_cons_zero, Act.put, List.setIfInBounds_toArray, List.set_cons_zero, List.set_cons_succ]
          refine wpAnyH_take (i := 5) (oi := _) (v := ?vdno5) rfl (by kernel_rfl) (by kernel_rfl) (by kernel_rfl) (fun _ _ _ h => h) (Or.inl ⟨by rfl, ?hydno5⟩) (by assumption) ?restdno5
          case hydno5 => (intro w hSw; (try dsimp only at hSw); obtain ⟨q0, q1⟩ := Q (hbT hb hSw); obtain ⟨e0, e1, e2⟩ := CR hSw; go_simp; first | done | rfl)
          try simp only [List.getElem_toArray, List.getElem_cons_succ, List.getElem_cons_zero, Act.put, List.setIfInBounds_toArray, List.set_cons_zero, List.set_cons_succ]
          refine wpAnyH_ready (rs := [4]) (by kernel_rfl) (by simp) ?_
          refine AllReadyH.cons (o := _) rfl (fun K hK => ?_) AllReadyH.nil
          simp only [List.getElem_toArray, List.getElem_cons_succ, List.getElem_cons_zero]
          go_simp
          go_at_call 80
          refine (refLower k.x k.y k.s _).mono ?_
          rintro e w4 ⟨rfl, hbq⟩
          refine hK.out _ _ (hbT (by assumption) hbq) (fun hHeld => ?_)
          clear hK K
          try simp only [List.getElem_toArray, List.getElem_cons_succ, List.getElem_cons_zero, Act.put, List.setIfInBounds_toArray, List.set_cons_zero, List.set_cons_succ]
          refine wpAnyH_take (i := 6) (oi := _) (v := ?vdno6) rfl (by kernel_rfl) (by kernel_rfl) (by kernel_rfl) (fun _ _ _ h => h) (Or.inl ⟨by rfl, ?hydno6⟩) (by assumption) ?restdno6
          case hydno6 => (intro w hSw; (try dsimp only at hSw); go_simp; first | done | rfl)
          try simp only [List.getElem_toArray, List.getElem_cons_succ, List.getElem_cons_zero, Act.put, List.setIfInBounds_toArray, List.set_cons_zero, List.set_cons_succ]
          refine wpAnyH_take (i := 7) (oi := _) (v := ?vdno7) rfl (by kernel_rfl) (by kernel_rfl) (by kernel_rfl) (fun _ _ _ h => h) (Or.inl ⟨by rfl, ?hydno7⟩) (by assumption) ?restdno7
          case hydno7 => (intro w hSw; (try dsimp only at hSw); go_simp; first | done | rfl)
          try simp only [List.getElem_toArray, List.getElem_cons_succ, List.getElem_cons_zero, Act.put, List.setIfInBounds_toArray, List.set_cons_zero, List.set_cons_succ]
          refine wpAnyH_take (i := 8) (oi := _) (v := ?vdno8) rfl (by kernel_rfl) (by kernel_rfl) (by kernel_rfl) (fun _ _ _ h => h) (Or.inl ⟨by rfl, ?hydno8⟩) (by assumption) ?restdno8
          case hydno8 => (intro w hSw; (try dsimp only at hSw); go_simp; first | done | rfl)
          try simp only [List.getElem_toArray, List.getElem_cons_succ, List.getElem_cons_zero, Act.put, List.setIfInBounds_toArray, List.set_cons_zero, List.set_cons_succ]
          refine wpAnyH_take (i := 9) (oi := _) (v := ?vdno9) rfl (by kernel_rfl) (by kernel_rfl) (by kernel_rfl) (fun _ _ _ h => h) (Or.inl ⟨by rfl, ?hydno9⟩) (by assumption) ?restdno9
          case hydno9 => (intro w hSw; (try dsimp only at hSw); go_simp; first | done | rfl)
          try simp only [List.getElem_toArray, List.getElem_cons_succ, List.getElem_cons_zero, Act.put, List.setIfInBounds_toArray, List.set_cons_zero, List.set_cons_succ]
          refine wpAnyH_take (i := 10) (oi := _) (v := ?vdno10) rfl (by kernel_rfl) (by kernel_rfl) (by kernel_rfl) (fun _ _ _ h => h) (Or.inl ⟨by rfl, ?hydno10⟩) (by assumption) ?restdno10
          case hydno10 => (intro w hSw; (try dsimp only at hSw); go_simp; first | done | rfl)
          try simp only [List.getElem_toArray, List.getElem_cons_succ, List.getElem_cons_zero, Act.put, List.setIfInBounds_toArray, List.set_cons_zero, List.set_cons_succ]
          refine wpAnyH_take (i := 11) (oi := _) (v := ?vdno11) rfl (by kernel_rfl) (by kernel_rfl) (by kernel_rfl) (fun _ _ _ h => h) (Or.inl ⟨by rfl, ?hydno11⟩) (by assumption) ?restdno11
          case hydno11 => (intro w hSw; (try dsimp only at hSw); obtain ⟨q0, q1⟩ := Q (hbT hb hSw); obtain ⟨e0, e1, e2⟩ := CR hSw; go_simp; first | done | rfl)
          try simp only [List.getElem_toArray, List.getElem_cons_succ, List.getElem_cons_zero, Act.put, List.setIfInBounds_toArray, List.set_cons_zero, List.set_cons_succ]
          refine wpAnyH_take (i := 13) (oi := _) (v := ?vdno13) rfl (by kernel_rfl) (by kernel_rfl) (by kernel_rfl) (fun _ _ _ h => h) (Or.inl ⟨by rfl, ?hydno13⟩) (by assumption) ?restdno13
          case hydno13 => (intro w hSw; (try dsimp only at hSw); obtain ⟨q0, q1⟩ := Q (hbT hb hSw); obtain ⟨e0, e1, e2⟩ := CR hSw; go_simp; first | done | rfl)
          try simp only [List.getElem_toArray, List.getElem_cons_succ, List.getElem_cons_zero, Act.put, List.setIfInBounds_toArray, List.set_cons_zero, List.set_cons_succ]
          refine wpAnyH_ready (rs := [12]) (by kernel_rfl) (by simp) ?_
          refine AllReadyH.cons (o := _) rfl (fun K hK => ?_) AllReadyH.nil
          simp only [List.getElem_toArray, List.getElem_cons_succ, List.getElem_cons_zero]
          go_simp
          go_at_call 81
          refine (refUpper k.x k.y k.s _ x1 x2 y1 y2 ks1 ks2).mono ?_
          rintro e w5 ⟨rfl, hbq⟩
          refine hK.out _ _ (hbT (by assumption) hbq) (fun hHeld => ?_)
          clear hK K
          try simp only [List.getElem_toArray, List.getElem_cons_succ, List.getElem_cons_zero, Act.put, List.setIfInBounds_toArray, List.set_cons_zero, List.set_cons_succ]
          refine wpAnyH_take (i := 14) (oi := _) (v := ?vdno14) rfl (by kernel_rfl) (by kernel_rfl) (by kernel_rfl) (fun _ _ _ h => h) (Or.inl ⟨by rfl, ?hydno14⟩) (by assumption) ?restdno14
          case hydno14 => (intro w hSw; (try dsimp only at hSw); go_simp; first | done | rfl)
          try simp only [List.getElem_toArray, List.getElem_cons_succ, List.getElem_cons_zero, Act.put, List.setIfInBounds_toArray, List.set_cons_zero, List.set_cons_succ]
          refine wpAnyH_take (i := 15) (oi := _) (v := ?vdno15) rfl (by kernel_rfl) (by kernel_rfl) (by kernel_rfl) (fun _ _ _ h => h) (Or.inl ⟨by rfl, ?hydno15⟩) (by assumption) ?restdno15
          case hydno15 => (intro w hSw; (try dsimp only at hSw); go_simp; first | done | rfl)
          try simp only [List.getElem_toArray, List.getElem_cons_succ, List.getElem_cons_zero, Act.put, List.setIfInBounds_toArray, List.set_cons_zero, List.set_cons_succ]
          refine wpAnyH_done (by kernel_rfl) ?_ _
          have B5 := hbT hb hHeld
          skip
          go_wp2
          go_roundw
          case rel => exact ⟨j + 1, by omega, by go_num, by rw [HCT.out], B5⟩
          case measure => simp [intOf]; omega
    · obtain rfl : j = l.length := by omega
      rw [List.take_length, HD.out]
      go_wp2
      go_ret
      exact ⟨rfl, hb1.trans (hb.mono hb1.size)⟩
set_option maxHeartbeats 4000000 in
set_option maxRecDepth 100000 in
theorem refBarsA (x y : Int) (w : World) (h1 : -200000 ≤ x) (h2 : x ≤ 200000) (h3 : -200000 ≤ y) (h4 : y ≤ 200000) :
    Calls Tryz.prog 141 #[.agg #[.int .i64 x, .int .i64 y]] w (OwnPost (kgM4 x y) w) := by
  go_enter Tryz.func141, Tryz.ntmps141
  go_wp2_with fail
  go_ret
  exact ⟨_, rfl, kgRow2 w _ w.heap.size (Nat.le_refl _) _ (kgM4 x y) rfl, ((Below.refl _ _).alloc (Nat.le_refl _) _).alloc (by simp) _⟩
set_option maxHeartbeats 4000000 in
set_option maxRecDepth 100000 in
theorem refHasMesh (A : Option Addr) (c : Nat) (l M : List Bar) (x y : Int) (w : World) (hM : kgM4 x y = M) (hl : l.length ≤ 4096) (h1 : -200000 ≤ x) (h2 : x ≤ 200000) (h3 : -200000 ≤ y) (h4 : y ≤ 200000) (h : OKS w A c l) :
    Calls Tryz.prog 104 #[.slice A l.length c, .agg #[.int .i64 x, .int .i64 y]] w fun e w' => e = .returned (.bool (M.all fun b => decide (b ∈ l))) ∧ Below w.heap.size w w' := by
  obtain ⟨w1, hw1, z0, z1, hb1, hz1⟩ := box2 w (.int .i64 x) (.int .i64 y) 143
  have HW1 := Lib.hid hw1
  have HR := Lib.hid (h.below hb1)
  have HMM := Lib.hid hM
  have h4l : M.length = 4 := by rw [← hM]; rfl
  clear h hw1 hM
  go_enter Tryz.func104, Tryz.ntmps104
  go_wp2_with fail
  rw [← HW1.out]
  go_wp2_with fail
  refine (refBarsA x y _ h1 h2 h3 h4).mono ?_
  rintro e w2 ⟨v2, rfl, hrow, hb2⟩
  rw [HMM.out] at hrow
  obtain ⟨a2, c2, rfl, ok2⟩ := own_oks hrow
  have HM := Lib.hid ok2
  have HR2 := Lib.hid (HR.out.below hb2)
  have B2 := Lib.hid (hb1.trans (hb2.mono hb1.size))
  clear hrow ok2 z0 z1 hb1 hb2
  go_wp2_with fail
  go_loopw [6] (fun i wr => ∃ j : Nat, j ≤ 4 ∧ i = .int .i64 j ∧ Hid (∀ q (hq : q < M.length), q < j → M[q] ∈ l) ∧ Below w2.heap.size w2 wr) (fun i _ => 4 - (intOf i).toNat)
  case atStart => exact ⟨0, Nat.zero_le _, rfl, Lib.hid (fun q _ h => by omega), Below.refl _ _⟩
  case round =>
    obtain ⟨j, hj, rfl, hall, hb⟩ := hrel
    by_cases hlt : j < 4
    · obtain ⟨b, off, hA, hB, hc⟩ := ((HM.out.below hb).2.2.2) (by omega)
      subst hA
      obtain ⟨d0, d1, d2⟩ := hc j (by omega)
      have hj1 : (j : Int) < 4 := by omega
      have hj0 : (0 : Int) ≤ (j : Int) := by omega
      have hj2 : (j : Int) < (M.length : Int) := by omega
      obtain ⟨k, hk⟩ : ∃ k, M[j]'(by omega) = k := ⟨_, rfl⟩
      rw [hk] at d0 d1 d2
      have HK := Lib.hid hk
      clear hc hk
      by_cases hin : k ∈ l
      · have HIN := Lib.hid (show decide (k ∈ l) = true by simpa using hin)
        have HAL := Lib.hid (show ∀ q (hq : q < M.length), q < j + 1 → M[q] ∈ l from fun q hq hqj => by
          rcases Nat.lt_or_ge q j with h1 | h1
          · exact hall.out q hq h1
          · obtain rfl : q = j := by omega
            rw [HK.out]; exact hin)
        clear hin
        go_wp2_with fail
        refine (refHasBar A c l k _ (by omega) (HR2.out.below hb).2.2.2).mono ?_
        rintro e w3 ⟨rfl, hb3⟩
        rw [HIN.out]
        have B3 := hbT hb hb3
        clear hb3 d0 d1 d2
        go_wp2
        go_roundw
        case rel => exact ⟨j + 1, by omega, by go_num, HAL, B3⟩
        case measure => simp [intOf]; omega
      · have HIN := Lib.hid (show decide (k ∈ l) = false by simpa using hin)
        have HF := Lib.hid (show (M.all fun b => decide (b ∈ l)) = false by
          rw [List.all_eq_false]
          exact ⟨k, by rw [← HK.out]; exact List.getElem_mem _, by simpa using hin⟩)
        clear hin
        go_wp2_with fail
        refine (refHasBar A c l k _ (by omega) (HR2.out.below hb).2.2.2).mono ?_
        rintro e w3 ⟨rfl, hb3⟩
        rw [HIN.out]
        have B3 := hbT hb hb3
        clear hb3 d0 d1 d2
        go_wp2
        go_ret
        exact ⟨ret_b HF.out.symm, B2.out.trans (B3.mono B2.out.size)⟩
    · obtain rfl : j = 4 := by omega
      have HF := Lib.hid (show (M.all fun b => decide (b ∈ l)) = true by
        rw [List.all_eq_true]
        intro b hb
        obtain ⟨q, hq, rfl⟩ := List.getElem_of_mem hb
        simpa using hall.out q hq (by omega))
      go_wp2
      go_ret
      exact ⟨ret_b HF.out.symm, B2.out.trans (hb.mono B2.out.size)⟩
end Go.Proofs.YtdeplhihcifmeaaGreatDoor

/- The reference's Legs. -/
namespace Go.Proofs.YtdeplhihcifmeaaGreatDoor
open Go.RowKit Go.Shelf Ck

def lgC (es : List Knot) (K : List Knot) (i : Nat) : Nat := K.countP fun k => decide (es.count k = i)
def lgs (es : List Knot) (K : List Knot) : Array Value := #[.int .i64 (lgC es K 0), .int .i64 (lgC es K 1), .int .i64 (lgC es K 2), .int .i64 (lgC es K 3), .int .i64 (lgC es K 4)]
theorem lgC_snoc (es K : List Knot) (k : Knot) (j i : Nat) (h : es.count k = j) : lgC es (K ++ [k]) i = lgC es K i + if i = j then 1 else 0 := by
  rw [lgC, List.countP_append, lgC]
  congr 1
  simp only [List.countP_cons, List.countP_nil, h, decide_eq_true_eq, Nat.zero_add]
  by_cases e : j = i
  · simp [e]
  · simp [e, Ne.symm e]
theorem gb_same {w w1 w2 : World} {r : Option Nat} (h : w.grownBy w1 r) (h' : w1.grownBy w2 r) : w.grownBy w2 r :=
  ⟨h'.os.trans h.os, h'.tape.trans h.tape, h'.output.trans h.output, Nat.le_trans h.size h'.size, fun i hi hr => (h'.block i (Nat.lt_of_lt_of_le hi h.size) hr).trans (h.block i hi hr)⟩
theorem lgC_le (es K : List Knot) (i : Nat) : lgC es K i ≤ K.length := List.countP_le_length
set_option maxHeartbeats 8000000 in
set_option maxRecDepth 100000 in
theorem refLegs (A : Option Addr) (c : Nat) (l : List Bar) (K : List Knot) (w : World) (hK : knotsL l = K) (hl : l.length ≤ 4096) (hN : Net l) (h : OKS w A c l) :
    Calls Tryz.prog 48 #[.slice A l.length c] w fun e w' => e = .returned (.agg #[.int .i64 (lgC (ends l) K 0), .int .i64 (lgC (ends l) K 1), .int .i64 (lgC (ends l) K 2), .int .i64 (lgC (ends l) K 3), .int .i64 (lgC (ends l) K 4)]) ∧ Below w.heap.size w w' := by
  obtain ⟨w0, hw0, h0, hb0, hz0⟩ := box5H w (.int .i64 0) (.int .i64 0) (.int .i64 0) (.int .i64 0) (.int .i64 0) 67
  obtain ⟨w1, hw1, h1, hb1, hz1⟩ := box5H w0 (.int .i64 0) (.int .i64 0) (.int .i64 0) (.int .i64 0) (.int .i64 0) 67
  have hb01 : Below w.heap.size w w1 := hb0.trans (hb1.mono hb0.size)
  have HR1 := Lib.hid (h.below hb01)
  have HR0 := Lib.hid h
  have HH0 := Lib.hid ((hb1.block _ (by rw [hz0]; omega)).trans h0)
  have HH1 := Lib.hid h1
  have HW1 := Lib.hid (show w1 = (w.alloc (.cells #[.int .i64 0, .int .i64 0, .int .i64 0, .int .i64 0, .int .i64 0] 67)).alloc (.cells #[.int .i64 0, .int .i64 0, .int .i64 0, .int .i64 0, .int .i64 0] 67) by rw [hw1, hw0])
  have HZ := Lib.hid (show w0.heap.size = w.heap.size + 1 from hz0)
  have HZ1 := Lib.hid (show w1.heap.size = w.heap.size + 2 by rw [hz1, hz0])
  have HK := Lib.hid hK
  have HN := Lib.hid hN
  have HKL := Lib.hid (show K.length ≤ 8192 by rw [← hK]; have := knotsL_le l; omega)
  rw [hz0] at h1
  have HH1' := Lib.hid h1
  clear h hK hN hw0 hw1 h0 h1 hb1 hb0 hz0 hz1
  go_enter Tryz.func48, Tryz.ntmps48
  go_wp2_with fail
  rw [← HW1.out]
  refine (refKnots A c l K _ HK.out hl HN.out.1 HR1.out).mono ?_
  rintro e w2 ⟨v, rfl, hrow, hb2⟩
  obtain ⟨a2, c2, rfl, ok2⟩ := own_okp hrow
  have HKA := Lib.hid (show 0 < K.length → ∃ b, a2 = some ⟨b, 0, none⟩ ∧ w.heap.size + 2 ≤ b ∧ b < w2.heap.size ∧ ∀ i (h : i < K.length), w2.cell? ⟨b, 0 + i * 2, none⟩ = some (.int .i64 K[i].x) ∧ w2.cell? ⟨b, 0 + i * 2 + 1, none⟩ = some (.int .i64 K[i].y) from fun h => by
    obtain ⟨g, cap, he, hg, -, -, hgz⟩ := own_form hrow h
    injection he with e1 e2 e3
    obtain ⟨b, off, hA, hB, hc⟩ := ok2.2.2 h
    rw [e1] at hA
    cases hA
    exact ⟨g, e1, by rw [HZ1.out] at hg; exact hg, hgz, hc⟩)
  have hh0 := (hb2.block _ (by rw [HZ1.out]; omega)).trans HH0.out
  have hh1 := (hb2.block _ (by rw [HZ1.out]; omega)).trans HH1'.out
  have hb02 : Below w.heap.size w w2 := hb01.trans (hb2.mono hb01.size)
  have hz2 : w.heap.size + 2 ≤ w2.heap.size := by have := hb2.size; rw [HZ1.out] at this; exact this
  clear hrow ok2 hb2
  go_wp2_with fail
  go_loopw [5] (fun i wr => ∃ j : Nat, j ≤ K.length ∧ i = .int .i64 j ∧ wr.heap[w.heap.size]? = some (.cells #[.int .i64 0, .int .i64 0, .int .i64 0, .int .i64 0, .int .i64 0] 67 (0, 0)) ∧ wr.heap[w.heap.size + 1]? = some (.cells (lgs (ends l) (K.take j)) 67 (0, 0)) ∧ Hid (w2.grownBy wr (some (w.heap.size + 1))) ∧ Below w.heap.size w wr) (fun i _ => K.length - (intOf i).toNat)
  case atStart => exact ⟨0, Nat.zero_le _, rfl, hh0, hh1, Lib.hid (World.grownBy.refl _ _), hb02⟩
  case round =>
    obtain ⟨j, hj, rfl, hk0, hk1, htb, hb⟩ := hrel
    have hkl2 := HKL.out
    by_cases hlt : j < K.length
    · obtain ⟨b, rfl, hbb, hbz2, hc⟩ := HKA.out (by omega)
      obtain ⟨d0, d1⟩ := hc j hlt
      have htz := htb.out.size
      have hcell : ∀ o, wr.cell? ⟨b, o, none⟩ = w2.cell? ⟨b, o, none⟩ := fun o => by
        unfold World.cell?
        rw [htb.out.block b hbz2 (by intro e; injection e; omega)]
      rw [← hcell] at d0 d1
      have hj1 : (j : Int) < (K.length : Int) := by omega
      have hj0 : (0 : Int) ≤ (j : Int) := by omega
      obtain ⟨k, hk⟩ : ∃ k, K[j] = k := ⟨_, rfl⟩
      obtain ⟨d, hd⟩ : ∃ d, (ends l).count (⟨k.x, k.y⟩ : Knot) = d := ⟨_, rfl⟩
      have hd4 : d ≤ 4 := by rw [← hd]; exact degs_four HN.out _
      have HD := Lib.hid hd
      have HTK := Lib.hid (show K.take (j + 1) = K.take j ++ [k] by rw [List.take_succ_eq_append_getElem hlt, hk])
      rw [hk] at d0 d1
      simp only [Nat.zero_add] at d0 d1
      clear hc hcell hk hd
      go_wp2_with fail
      refine (refDegree A c l k.x k.y d _ HD.out hl HN.out.1 (HR0.out.below hb)).mono ?_
      rintro e w4 ⟨rfl, hb4⟩
      have hwz := hb.size
      have h0' := (hb4.block _ (by omega)).trans hk0
      have h1' := (hb4.block _ (by omega)).trans hk1
      have hb' : Below w.heap.size w w4 := hb.trans (hb4.mono hwz)
      have hg' := gb_below htb.out hb4
      have hz4 := hb4.size
      obtain ⟨c0, c1, c2, c3, c4, -⟩ := five_of_block h1'
      have fin : ∀ (i : Nat), i < 5 → d = i → ∀ x : Int, x = (lgC (ends l) (K.take j) i : Int) + 1 → (w4.setCell ⟨w.heap.size + 1, i, none⟩ (.int .i64 x)).heap[w.heap.size]? = some (.cells #[.int .i64 0, .int .i64 0, .int .i64 0, .int .i64 0, .int .i64 0] 67 (0, 0)) ∧
          (w4.setCell ⟨w.heap.size + 1, i, none⟩ (.int .i64 x)).heap[w.heap.size + 1]? = some (.cells (lgs (ends l) (K.take j ++ [k])) 67 (0, 0)) ∧ w2.grownBy (w4.setCell ⟨w.heap.size + 1, i, none⟩ (.int .i64 x)) (some (w.heap.size + 1)) ∧ Below w.heap.size w (w4.setCell ⟨w.heap.size + 1, i, none⟩ (.int .i64 x)) := by
        intro i hi hdi x hx
        obtain ⟨s1, g1⟩ := setBlockAt h1' i (.int .i64 x)
        refine ⟨(g1.block _ (by omega) (by intro e; injection e; omega)).trans h0', ?_, gb_same hg' g1, hb'.setCell (by show w.heap.size ≤ w.heap.size + 1; omega) _⟩
        rw [s1]
        subst hx
        have e := fun q => lgC_snoc (ends l) (K.take j) k i q (by rw [← hdi]; exact HD.out)
        unfold lgs
        rw [e 0, e 1, e 2, e 3, e 4]
        have : i = 0 ∨ i = 1 ∨ i = 2 ∨ i = 3 ∨ i = 4 := by omega
        rcases this with rfl | rfl | rfl | rfl | rfl <;> simp
      have FIN := Lib.hid fin
      have F0 := fiveF h1' 0
      have F1 := fiveF h1' 1
      have F2 := fiveF h1' 2
      have F3 := fiveF h1' 3
      have F4 := fiveF h1' 4
      have b0 := lgC_le (ends l) (K.take j) 0
      have b1 := lgC_le (ends l) (K.take j) 1
      have b2 := lgC_le (ends l) (K.take j) 2
      have b3 := lgC_le (ends l) (K.take j) 3
      have b4 := lgC_le (ends l) (K.take j) 4
      rw [List.length_take] at b0 b1 b2 b3 b4
      have hvs : d = 0 ∨ d = 1 ∨ d = 2 ∨ d = 3 ∨ d = 4 := by omega
      clear fin h0' h1' hb' hg' hb4 hk0 hk1 htb d0 d1 HD
      generalize hC0 : lgC (ends l) (K.take j) 0 = C0 at *
      generalize hC1 : lgC (ends l) (K.take j) 1 = C1 at *
      generalize hC2 : lgC (ends l) (K.take j) 2 = C2 at *
      generalize hC3 : lgC (ends l) (K.take j) 3 = C3 at *
      generalize hC4 : lgC (ends l) (K.take j) 4 = C4 at *
      rcases hvs with rfl | rfl | rfl | rfl | rfl
      · have H := Lib.hid (FIN.out 0 (by decide) rfl ((C0 : Int) + 1) (by rw [hC0]))
        clear FIN hC0 hC1 hC2 hC3 hC4
        go_wp2
        go_roundw
        case rel => exact ⟨j + 1, by omega, by go_num, H.out.1, by rw [HTK.out]; exact H.out.2.1, Lib.hid H.out.2.2.1, H.out.2.2.2⟩
        case measure => simp [intOf]; omega
      · have H := Lib.hid (FIN.out 1 (by decide) rfl ((C1 : Int) + 1) (by rw [hC1]))
        clear FIN hC0 hC1 hC2 hC3 hC4
        go_wp2
        go_roundw
        case rel => exact ⟨j + 1, by omega, by go_num, H.out.1, by rw [HTK.out]; exact H.out.2.1, Lib.hid H.out.2.2.1, H.out.2.2.2⟩
        case measure => simp [intOf]; omega
      · have H := Lib.hid (FIN.out 2 (by decide) rfl ((C2 : Int) + 1) (by rw [hC2]))
        clear FIN hC0 hC1 hC2 hC3 hC4
        go_wp2
        go_roundw
        case rel => exact ⟨j + 1, by omega, by go_num, H.out.1, by rw [HTK.out]; exact H.out.2.1, Lib.hid H.out.2.2.1, H.out.2.2.2⟩
        case measure => simp [intOf]; omega
      · have H := Lib.hid (FIN.out 3 (by decide) rfl ((C3 : Int) + 1) (by rw [hC3]))
        clear FIN hC0 hC1 hC2 hC3 hC4
        go_wp2
        go_roundw
        case rel => exact ⟨j + 1, by omega, by go_num, H.out.1, by rw [HTK.out]; exact H.out.2.1, Lib.hid H.out.2.2.1, H.out.2.2.2⟩
        case measure => simp [intOf]; omega
      · have H := Lib.hid (FIN.out 4 (by decide) rfl ((C4 : Int) + 1) (by rw [hC4]))
        clear FIN hC0 hC1 hC2 hC3 hC4
        go_wp2
        go_roundw
        case rel => exact ⟨j + 1, by omega, by go_num, H.out.1, by rw [HTK.out]; exact H.out.2.1, Lib.hid H.out.2.2.1, H.out.2.2.2⟩
        case measure => simp [intOf]; omega
    · obtain rfl : j = K.length := by omega
      rw [List.take_length] at hk1
      obtain ⟨n0, e0⟩ : ∃ n0, (lgC (ends l) K 0 : Int) = n0 := ⟨_, rfl⟩
      obtain ⟨n1, e1⟩ : ∃ n1, (lgC (ends l) K 1 : Int) = n1 := ⟨_, rfl⟩
      obtain ⟨n2, e2⟩ : ∃ n2, (lgC (ends l) K 2 : Int) = n2 := ⟨_, rfl⟩
      obtain ⟨n3, e3⟩ : ∃ n3, (lgC (ends l) K 3 : Int) = n3 := ⟨_, rfl⟩
      obtain ⟨n4, e4⟩ : ∃ n4, (lgC (ends l) K 4 : Int) = n4 := ⟨_, rfl⟩
      unfold lgs at hk1
      rw [e0, e1, e2, e3, e4] at hk1
      have HN5 := Lib.hid (show (#[.int .i64 (lgC (ends l) K 0), .int .i64 (lgC (ends l) K 1), .int .i64 (lgC (ends l) K 2), .int .i64 (lgC (ends l) K 3), .int .i64 (lgC (ends l) K 4)] : Array Value) = #[.int .i64 n0, .int .i64 n1, .int .i64 n2, .int .i64 n3, .int .i64 n4] by rw [e0, e1, e2, e3, e4])
      obtain ⟨c0, c1, c2, c3, c4, -⟩ := five_of_block hk1
      obtain ⟨d0, d1, d2, d3, d4, -⟩ := five_of_block hk0
      have f0 := fiveF hk0 0
      have f1 := fiveF hk0 1
      have f2 := fiveF hk0 2
      have f3 := fiveF hk0 3
      have f4 := fiveF hk0 4
      obtain ⟨s0, g0⟩ := setBlockAt hk0 0 (.int .i64 n0)
      obtain ⟨s1, g1⟩ := setBlockAt s0 1 (.int .i64 n1)
      obtain ⟨s2, g2⟩ := setBlockAt s1 2 (.int .i64 n2)
      obtain ⟨s3, g3⟩ := setBlockAt s2 3 (.int .i64 n3)
      obtain ⟨s4, g4⟩ := setBlockAt s3 4 (.int .i64 n4)
      have bz := hb.size
      have t0 := hb.grown g0 bz (fun j e => by cases e; exact Nat.le_refl _)
      have t1 := t0.grown g1 t0.size (fun j e => by cases e; exact Nat.le_refl _)
      have t2 := t1.grown g2 t1.size (fun j e => by cases e; exact Nat.le_refl _)
      have t3 := t2.grown g3 t2.size (fun j e => by cases e; exact Nat.le_refl _)
      have HT := Lib.hid (t3.grown g4 t3.size (fun j e => by cases e; exact Nat.le_refl _))
      have HS4 := Lib.hid (show _ = some (Obj.cells #[.int .i64 n0, .int .i64 n1, .int .i64 n2, .int .i64 n3, .int .i64 n4] 67 (0, 0)) from s4)
      clear s0 s1 s2 s3 s4 g0 g1 g2 g3 g4 t0 t1 t2 t3 bz hk0 hk1 hb e0 e1 e2 e3 e4 htb
      go_wp2
      obtain ⟨r0, r1, r2, r3, r4, -⟩ := five_of_block HS4.out
      refine bodyPost_ret (v := .agg #[.int .i64 n0, .int .i64 n1, .int .i64 n2, .int .i64 n3, .int .i64 n4]) (by simp [results, Tryz.results48, go_sem, r0, r1, r2, r3, r4]) rfl ⟨by rw [HN5.out], HT.out⟩
end Go.Proofs.YtdeplhihcifmeaaGreatDoor

/- The law's meshes and sameMeshes. -/
namespace Go.Proofs.YtdeplhihcifmeaaGreatDoor
open Go.RowKit Go.Shelf

theorem undRMn : Tryz.prog.underlying 78 = some (.slice 143) := by kernel_rfl
theorem infoRMn : (Tryz.prog.info? 143).map (fun i => (i.zero, i.size, i.bytes)) = some (some (.agg #[.int .i64 0, .int .i64 0]), 2, 16) := by kernel_rfl
set_option maxHeartbeats 4000000 in
set_option maxRecDepth 100000 in
theorem lwMeshes (A : Option Addr) (c : Nat) (l : List Ck.Knot) (w : World) (hl : l.length ≤ 10000) (h : OKP w A c l) :
    Calls Tryz.prog 50 #[.slice A l.length c] w fun e w' => ∃ v, e = .returned v ∧ w'.ownsRow w.heap.size 143 2 v l.length (kcellsL l) ∧ Below w.heap.size w w' := by
  obtain ⟨ib, hib, hb0, hb01, hb02⟩ := info_parts infoRMn
  have HIB := Lib.hid hib
  have HB0 := Lib.hid hb0
  have HB1 := Lib.hid hb01
  have HB2 := Lib.hid hb02
  have HR := Lib.hid h
  clear hib hb0 hb01 hb02 h
  go_enter Tryz.func50, Tryz.ntmps50
  go_wp2_with fail
  go_loopw [3, 4, 7] (fun v _ i wr => ∃ j : Nat, j ≤ l.length ∧ i = .int .i64 j ∧ Hid (wr.ownsRow w.heap.size 143 2 v j (kcellsL (l.take j))) ∧ Below w.heap.size w wr) (fun _ _ i _ => l.length - (intOf i).toNat)
  case atStart => exact ⟨0, Nat.zero_le _, rfl, Lib.hid ⟨rfl, .inl ⟨rfl, rfl⟩⟩, Below.refl _ _⟩
  case round =>
    obtain ⟨j, hj, rfl, hown, hb⟩ := hrel
    have hbz := hb.size
    by_cases hlt : j < l.length
    · obtain ⟨b, off, rfl, hB, hc⟩ := (HR.out.2.2.below' hb) (by omega)
      obtain ⟨d0, d1⟩ := hc j hlt
      have hj1 : (j : Int) < (l.length : Int) := by omega
      have hj0 : (0 : Int) ≤ (j : Int) := by omega
      have HT := Lib.hid (show kcellsL (l.take (j + 1)) = kcellsL (l.take j) ++ [.int .i64 l[j].x, .int .i64 l[j].y] by rw [List.take_succ_eq_append_getElem hlt, kcellsL_snoc])
      clear hc
      generalize l[j] = k at *
      go_wp2_with (at_builtin; refine wpList_append_own _ rfl _ _ 78 rfl w.heap.size 143 ib (.agg #[.int .i64 0, .int .i64 0]) 2 16 undRMn HIB.out HB0.out HB1.out HB2.out rfl (by decide) _ _ _ rfl (World.ownsRow.alloc hown.out _) ⟨wr.heap.size, 0, none⟩ 1 1 [.int .i64 k.x, .int .i64 k.y] rfl rfl (two_new _ _ _ _) ?c2 ?c3 ?c4 ?c5 ?_)
      case c2 => intro u hu; simp at hu; rcases hu with rfl | rfl <;> rfl
      case c3 => unfold maxLen; omega
      case c4 => omega
      case c5 => simp; omega
      intro v' w8 hown8 hgrow8 _
      have B8 : Below w.heap.size w w8 := (hb.alloc hbz _).grown hgrow8 (by simp; omega) (ownsRow_base hown.out)
      have HO8 := Lib.hid hown8
      clear hown8 hgrow8 hown
      go_wp2
      go_roundw
      case rel => exact ⟨j + 1, by omega, by go_num, Lib.hid (by rw [HT.out]; exact HO8.out), B8⟩
      case measure => simp [intOf]; omega
    · obtain rfl : j = l.length := by omega
      have h9 := hown.out
      rw [List.take_length] at h9
      have HO := Lib.hid h9
      clear h9 hown
      go_wp2
      go_ret
      exact ⟨_, rfl, HO.out, hb⟩
set_option maxHeartbeats 1000000 in
set_option maxRecDepth 100000 in
theorem lwSameMeshes (A A' : Option Addr) (c c' : Nat) (l : List Ck.Knot) (w : World) (hl : l.length ≤ 10000) (h : RK w w.heap.size A l) (h' : RK w w.heap.size A' l) :
    Calls Tryz.prog 49 #[.slice A l.length c, .slice A' l.length c'] w fun e w' => e = .returned (.bool true) ∧ Below w.heap.size w w' := by
  have HR := Lib.hid h
  have HR' := Lib.hid h'
  clear h h'
  have hne : ((l.length : Int) != (l.length : Int)) = false := by simp
  go_enter Tryz.func49, Tryz.ntmps49
  go_wp2_with fail
  go_loopw [5, 13] (fun _ i wr => ∃ k : Nat, k ≤ l.length ∧ i = .int .i64 k ∧ Below w.heap.size w wr) (fun _ i _ => l.length - (intOf i).toNat)
  case atStart => exact ⟨0, Nat.zero_le _, rfl, Below.refl _ _⟩
  case round =>
    obtain ⟨k, hk, rfl, hb⟩ := hrel
    by_cases hlt : k < l.length
    · have h := HR.out.below hb
      have h' := HR'.out.below hb
      obtain ⟨b, off, rfl, hB, hc⟩ := h (by omega)
      obtain ⟨b', off', rfl, hB', hc'⟩ := h' (by omega)
      obtain ⟨c0, c1⟩ := hc k hlt
      obtain ⟨d0, d1⟩ := hc' k hlt
      clear hc hc' h h'
      have b1 : (0 : Int) ≤ (k : Int) := by omega
      have b2 : (k : Int) < (l.length : Int) := by omega
      generalize l[k] = x at c0 c1 d0 d1
      go_wp2_with fail
      go_region
      go_wp2_with fail
      go_roundw
      case rel => exact ⟨k + 1, by omega, by go_num, below_drew hb⟩
      case measure => simp [intOf]; omega
    · have e : k = l.length := by omega
      subst e
      go_wp2_with fail
      go_ret
      exact ⟨rfl, hb⟩
end Go.Proofs.YtdeplhihcifmeaaGreatDoor

/- The reference's Meshes, the law's meshes and sameMeshes, SameKnots. -/
namespace Go.Proofs.YtdeplhihcifmeaaGreatDoor
open Go.RowKit Go.Shelf Ck

theorem st2b {w : World} {g base : Nat} {x0 y0 : Value} {t : TypeId} (x y : Value) (h : w.heap[g]? = some (.cells #[x0, y0] t (0, 0))) (hb : base ≤ g) :
    ∃ w', (w.setCell ⟨g, 0, none⟩ x).setCell ⟨g, 1, none⟩ y = w' ∧ w'.heap[g]? = some (.cells #[x, y] t (0, 0)) ∧ Below base w w' := by
  obtain ⟨s1, _⟩ := setBlockAt h 0 x
  obtain ⟨s2, _⟩ := setBlockAt s1 1 y
  exact ⟨_, rfl, s2, ((Below.refl _ _).setCell hb _).setCell hb _⟩
theorem undRM : Tryz.prog.underlying 78 = some (.slice 143) := by kernel_rfl
theorem infoRM : (Tryz.prog.info? 143).map (fun i => (i.zero, i.size, i.bytes)) = some (some (.agg #[.int .i64 0, .int .i64 0]), 2, 16) := by kernel_rfl
theorem mcells_snoc (l : List Bar) (b : Bar) : meshCells (l ++ [b]) = meshCells l ++ [.int .i64 b.x, .int .i64 (b.y + 1)] := by simp [meshCells]
theorem isM_iff {l : List Bar} {b : Bar} (hb : b ∈ l) : isM l b = true ↔ b.s = -1 ∧ ((kgM4 b.x (b.y + 1)).all fun x => decide (x ∈ l)) = true := by
  unfold isM
  rw [Bool.and_eq_true, decide_eq_true_eq]
  constructor
  · rintro ⟨h1, h2⟩
    refine ⟨h1, ?_⟩
    simpa [allIn, meshBars4, kgM4] using h2
  · rintro ⟨h1, h2⟩
    refine ⟨h1, ?_⟩
    simpa [allIn, meshBars4, kgM4] using h2
set_option maxHeartbeats 1600000 in
set_option maxRecDepth 100000 in
theorem refMeshes (A : Option Addr) (c : Nat) (l u : List Ck.Bar) (w : World) (hu : meshL l l = u) (hl : l.length ≤ 4096) (hok : ∀ x ∈ l, okBar x) (h : OKS w A c l) :
    Calls Tryz.prog 51 #[.slice A l.length c] w fun e w' => ∃ v, e = .returned v ∧ w'.ownsRow w.heap.size 143 2 v u.length (meshCells u) ∧ Below w.heap.size w w' := by
  obtain ⟨ib, hib, hb0, hb01, hb02⟩ := info_parts infoRM
  have HIB := Lib.hid hib
  have HB0 := Lib.hid hb0
  have HB1 := Lib.hid hb01
  have HB2 := Lib.hid hb02
  have HR := Lib.hid h
  have HU := Lib.hid hu
  have HOK := Lib.hid hok
  have hl' : (l.length : Int) ≤ 4096 := by omega
  clear hib hb0 hb01 hb02 h hu hok
  go_enter Tryz.func51, Tryz.ntmps51
  go_wp2_with fail
  go_loopw [3, 4] (fun v i wr => ∃ j : Nat, j ≤ l.length ∧ i = .int .i64 j ∧ Hid (wr.ownsRow w.heap.size 143 2 v (meshL l (l.take j)).length (meshCells (meshL l (l.take j)))) ∧ Below w.heap.size w wr) (fun _ i _ => l.length - (intOf i).toNat)
  case atStart => exact ⟨0, Nat.zero_le _, rfl, Lib.hid ⟨rfl, .inl ⟨rfl, rfl⟩⟩, Below.refl _ _⟩
  case round =>
    obtain ⟨j, hj, rfl, hown, hb⟩ := hrel
    have hbz := hb.size
    have hln : (meshL l (l.take j)).length ≤ 4096 := by
      have h1 := List.length_filter_le (isM l) (l.take j)
      have h2 : (l.take j).length ≤ 4096 := by rw [List.length_take]; omega
      unfold meshL
      omega
    by_cases hlt : j < l.length
    · obtain ⟨b, off, rfl, hB, hc⟩ := ((HR.out.below hb).2.2.2) (by omega)
      obtain ⟨d0, d1, d2⟩ := hc j hlt
      have hj1 : (j : Int) < (l.length : Int) := by omega
      have hj0 : (0 : Int) ≤ (j : Int) := by omega
      clear hc
      obtain ⟨k, hk⟩ : ∃ k, l[j] = k := ⟨_, rfl⟩
      have hmem : k ∈ l := by rw [← hk]; exact List.getElem_mem hlt
      have HKO := Lib.hid (HOK.out k hmem)
      have hyes : k.s = -1 → ((kgM4 k.x (k.y + 1)).all fun x => decide (x ∈ l)) = true → meshL l (l.take (j + 1)) = meshL l (l.take j) ++ [k] := fun h1 h2 => by
        rw [meshL_yes hlt (by rw [hk]; exact (isM_iff hmem).2 ⟨h1, h2⟩), hk]
      have hno : (k.s = -1 → ((kgM4 k.x (k.y + 1)).all fun x => decide (x ∈ l)) = false) → meshL l (l.take (j + 1)) = meshL l (l.take j) := fun h1 => by
        rw [meshL_no hlt]
        rw [hk]
        cases hm : isM l k
        · rfl
        · obtain ⟨h2, h3⟩ := (isM_iff hmem).1 hm
          rw [h1 h2] at h3
          cases h3
      have hcase : (k.s = -1 ∧ ((kgM4 k.x (k.y + 1)).all fun x => decide (x ∈ l)) = true) ∨ (k.s = -1 ∧ ((kgM4 k.x (k.y + 1)).all fun x => decide (x ∈ l)) = false) ∨ ¬ k.s = -1 := by
        by_cases h1 : k.s = -1
        · cases h2 : (kgM4 k.x (k.y + 1)).all fun x => decide (x ∈ l)
          · exact .inr (.inl ⟨h1, rfl⟩)
          · exact .inl ⟨h1, rfl⟩
        · exact .inr (.inr h1)
      rw [hk] at d0 d1 d2
      obtain ⟨⟨⟨x1, x2⟩, ⟨y1, y2⟩, -⟩, ks, -, -⟩ := HKO.out
      simp only [Bar.lo] at x1 x2 y1 y2
      have ks1 : k.s = -1 ∨ k.s = 1 := ks
      have CR : ∀ {W : World}, Below wr.heap.size wr W → W.cell? ⟨b, off + j * 3, none⟩ = some (.int .i64 k.x) ∧ W.cell? ⟨b, off + j * 3 + 1, none⟩ = some (.int .i64 k.y) ∧ W.cell? ⟨b, off + j * 3 + 2, none⟩ = some (.int .i64 k.s) :=
        fun hq => ⟨(hq.cell (p := ⟨b, off + j * 3, none⟩) hB).trans d0, (hq.cell (p := ⟨b, off + j * 3 + 1, none⟩) hB).trans d1, (hq.cell (p := ⟨b, off + j * 3 + 2, none⟩) hB).trans d2⟩
      have m1 : IntKind.i64.wrap (k.y + 1) = k.y + 1 := by rw [IntKind.wrap_i64]; omega
      clear hk ks d0 d1 d2 hmem
      have ks1' := Lib.hid ks1
      clear ks1
      generalize meshL l (l.take j) = F at *
      go_wp2_with fail
      refine wp_region_held_drew (S := (fun w' => Below wr.heap.size wr w')) (by kernel_rfl) ?_ (fun hHeld => ?_)
      · exact below_drew (Below.refl _ _)
      refine wpAnyH_take (i := 0) (oi := _) (v := ?vs0_1) rfl (by kernel_rfl) (by kernel_rfl) (by kernel_rfl) (fun _ _ _ h => h) (Or.inl ⟨by rfl, ?hys0_1⟩) (by assumption) ?rests0_1
      case hys0_1 => (intro w hSw; (try dsimp only at hSw); go_simp; first | done | rfl)
      try simp only [List.getElem_toArray, List.getElem_cons_succ, List.getElem_cons_zero, Act.put, List.setIfInBounds_toArray, List.set_cons_zero, List.set_cons_succ]
      refine wpAnyH_take (i := 1) (oi := _) (v := ?vs1_2) rfl (by kernel_rfl) (by kernel_rfl) (by kernel_rfl) (fun _ _ _ h => h) (Or.inl ⟨by rfl, ?hys1_2⟩) (by assumption) ?rests1_2
      case hys1_2 => (intro w hSw; (try dsimp only at hSw); go_simp; first | done | rfl)
      try simp only [List.getElem_toArray, List.getElem_cons_succ, List.getElem_cons_zero, Act.put, List.setIfInBounds_toArray, List.set_cons_zero, List.set_cons_succ]
      refine wpAnyH_take (i := 2) (oi := _) (v := ?vs2_3) rfl (by kernel_rfl) (by kernel_rfl) (by kernel_rfl) (fun _ _ _ h => h) (Or.inl ⟨by rfl, ?hys2_3⟩) (by assumption) ?rests2_3
      case hys2_3 => (intro w hSw; (try dsimp only at hSw); go_simp; first | done | rfl)
      try simp only [List.getElem_toArray, List.getElem_cons_succ, List.getElem_cons_zero, Act.put, List.setIfInBounds_toArray, List.set_cons_zero, List.set_cons_succ]
      refine wpAnyH_take (i := 3) (oi := _) (v := ?vs3_4) rfl (by kernel_rfl) (by kernel_rfl) (by kernel_rfl) (fun _ _ _ h => h) (Or.inl ⟨by rfl, ?hys3_4⟩) (by assumption) ?rests3_4
      case hys3_4 => (intro w hSw; (try dsimp only at hSw); go_simp; first | done | rfl)
      try simp only [List.getElem_toArray, List.getElem_cons_succ, List.getElem_cons_zero, Act.put, List.setIfInBounds_toArray, List.set_cons_zero, List.set_cons_succ]
      refine wpAnyH_take (i := 4) (oi := _) (v := ?vs4_5) rfl (by kernel_rfl) (by kernel_rfl) (by kernel_rfl) (fun _ _ _ h => h) (Or.inl ⟨by rfl, ?hys4_5⟩) (by assumption) ?rests4_5
      case hys4_5 => (intro w hSw; (try dsimp only at hSw); obtain ⟨e0, e1, e2⟩ := CR hSw; go_simp; first | done | rfl)
      try simp only [List.getElem_toArray, List.getElem_cons_succ, List.getElem_cons_zero, Act.put, List.setIfInBounds_toArray, List.set_cons_zero, List.set_cons_succ]
      refine wpAnyH_take (i := 5) (oi := _) (v := ?vs5_6) rfl (by kernel_rfl) (by kernel_rfl) (by kernel_rfl) (fun _ _ _ h => h) (Or.inl ⟨by rfl, ?hys5_6⟩) (by assumption) ?rests5_6
      case hys5_6 => (intro w hSw; (try dsimp only at hSw); go_simp; first | done | rfl)
      try simp only [List.getElem_toArray, List.getElem_cons_succ, List.getElem_cons_zero, Act.put, List.setIfInBounds_toArray, List.set_cons_zero, List.set_cons_succ]
      refine wpAnyH_take (i := 6) (oi := _) (v := ?vs6_7) rfl (by kernel_rfl) (by kernel_rfl) (by kernel_rfl) (fun _ _ _ h => h) (Or.inl ⟨by rfl, ?hys6_7⟩) (by assumption) ?rests6_7
      case hys6_7 => (intro w hSw; (try dsimp only at hSw); go_simp; first | done | rfl)
      try simp only [List.getElem_toArray, List.getElem_cons_succ, List.getElem_cons_zero, Act.put, List.setIfInBounds_toArray, List.set_cons_zero, List.set_cons_succ]
      refine wpAnyH_take (i := 7) (oi := _) (v := ?vs7_8) rfl (by kernel_rfl) (by kernel_rfl) (by kernel_rfl) (fun _ _ _ h => h) (Or.inl ⟨by rfl, ?hys7_8⟩) (by assumption) ?rests7_8
      case hys7_8 => (intro w hSw; (try dsimp only at hSw); go_simp; first | done | rfl)
      try simp only [List.getElem_toArray, List.getElem_cons_succ, List.getElem_cons_zero, Act.put, List.setIfInBounds_toArray, List.set_cons_zero, List.set_cons_succ]
      refine wpAnyH_take (i := 8) (oi := _) (v := ?vs8_9) rfl (by kernel_rfl) (by kernel_rfl) (by kernel_rfl) (fun _ _ _ h => h) (Or.inl ⟨by rfl, ?hys8_9⟩) (by assumption) ?rests8_9
      case hys8_9 => (intro w hSw; (try dsimp only at hSw); go_simp; first | done | rfl)
      try simp only [List.getElem_toArray, List.getElem_cons_succ, List.getElem_cons_zero, Act.put, List.setIfInBounds_toArray, List.set_cons_zero, List.set_cons_succ]
      refine wpAnyH_take (i := 9) (oi := _) (v := ?vs9_10) rfl (by kernel_rfl) (by kernel_rfl) (by kernel_rfl) (fun _ _ _ h => h) (Or.inl ⟨by rfl, ?hys9_10⟩) (by assumption) ?rests9_10
      case hys9_10 => (intro w hSw; (try dsimp only at hSw); obtain ⟨e0, e1, e2⟩ := CR hSw; go_simp; first | done | rfl)
      try simp only [List.getElem_toArray, List.getElem_cons_succ, List.getElem_cons_zero, Act.put, List.setIfInBounds_toArray, List.set_cons_zero, List.set_cons_succ]
      refine wpAnyH_take (i := 10) (oi := _) (v := ?vs10_11) rfl (by kernel_rfl) (by kernel_rfl) (by kernel_rfl) (fun _ _ _ h => h) (Or.inl ⟨by rfl, ?hys10_11⟩) (by assumption) ?rests10_11
      case hys10_11 => (intro w hSw; (try dsimp only at hSw); go_simp; first | done | rfl)
      try simp only [List.getElem_toArray, List.getElem_cons_succ, List.getElem_cons_zero, Act.put, List.setIfInBounds_toArray, List.set_cons_zero, List.set_cons_succ]
      refine wpAnyH_take (i := 11) (oi := _) (v := ?vs11_12) rfl (by kernel_rfl) (by kernel_rfl) (by kernel_rfl) (fun _ _ _ h => h) (Or.inl ⟨by rfl, ?hys11_12⟩) (by assumption) ?rests11_12
      case hys11_12 => (intro w hSw; (try dsimp only at hSw); go_simp; first | done | rfl)
      try simp only [List.getElem_toArray, List.getElem_cons_succ, List.getElem_cons_zero, Act.put, List.setIfInBounds_toArray, List.set_cons_zero, List.set_cons_succ]
      refine wpAnyH_ready (rs := [12]) (by kernel_rfl) (by simp) ?_
      refine (AllReadyH.cons (o := _) rfl (fun K hK => ?rs12_13) AllReadyH.nil)
      case rs12_13 =>
        simp only [List.getElem_toArray, List.getElem_cons_succ, List.getElem_cons_zero]
        go_simp
        obtain ⟨Wa, hWa⟩ : ∃ W, wr.drew.alloc (.cells #[.int .i64 0, .int .i64 0] 143) = W := ⟨_, rfl⟩
        have hP := Lib.hid (show Wa.heap[wr.heap.size]? = some (.cells #[.int .i64 0, .int .i64 0] 143 (0, 0)) by rw [← hWa]; exact heap_alloc_new _ _)
        have hal : Below wr.heap.size wr.drew Wa := by rw [← hWa]; exact (Below.refl wr.heap.size wr.drew).alloc (Nat.le_refl wr.heap.size) _
        rw [show (wr.alloc (.cells #[.int .i64 0, .int .i64 0] 143)).drew = Wa from hWa]
        refine hK.out _ _ (Below.trans hHeld hal) (fun hHeld => ?_)
        clear hWa hal
        obtain ⟨p0, p1, pf⟩ := two_at hP.out
        clear hK K
        try simp only [List.getElem_toArray, List.getElem_cons_succ, List.getElem_cons_zero, Act.put, List.setIfInBounds_toArray, List.set_cons_zero, List.set_cons_succ]
        refine wpAnyH_ready (rs := [13]) (by kernel_rfl) (by simp) ?_
        refine (AllReadyH.cons (o := _) rfl (fun K hK => ?rs13_14) AllReadyH.nil)
        case rs13_14 =>
          simp only [List.getElem_toArray, List.getElem_cons_succ, List.getElem_cons_zero]
          go_simp
          obtain ⟨Ws, hWs, hQ, hQb⟩ := st2b (.int .i64 k.x) (.int .i64 (k.y + 1)) hP.out (Nat.le_refl wr.heap.size)
          rw [hWs]
          refine hK.out _ _ (Below.trans hHeld hQb) (fun hHeld => ?_)
          replace hP := Lib.hid hQ
          clear hWs hQ hQb p0 p1 pf
          obtain ⟨p0, p1, pf⟩ := two_at hP.out
          clear hK K
          try simp only [List.getElem_toArray, List.getElem_cons_succ, List.getElem_cons_zero, Act.put, List.setIfInBounds_toArray, List.set_cons_zero, List.set_cons_succ]
          refine wpAnyH_done (by kernel_rfl) ?_ _
          have B5 := Lib.hid hHeld
          obtain ⟨e0, e1, e2⟩ := CR hHeld
          rcases hcase with ⟨hs, hall⟩ | ⟨hs, hall⟩ | hs
          · have HYE := Lib.hid (hyes hs hall)
            have g1 : k.s < 0 := by omega
            go_wp2_with fail
            refine (refHasMesh _ c l _ k.x (k.y + 1) _ rfl (by omega) (by omega) (by omega) (by omega) (by omega) (HR.out.below (hbT hb B5.out))).mono ?_
            rintro e w7 ⟨rfl, hb7⟩
            rw [hall]
            replace B5 := hbT B5.out hb7
            obtain ⟨p0, p1, pf⟩ := two_at ((hb7.block _ (Array.getElem?_eq_some_iff.1 hP.out).1).trans hP.out)
            clear hb7 hP e0 e1 e2 hyes hno
            have hO5 := ownsRow_below hown.out B5
            have hz5 := Below.size B5
            have hb5 := hbT hb B5
            clear hown
            go_wp2_with (at_builtin; refine wpList_append_own _ rfl _ _ 78 rfl w.heap.size 143 ib (.agg #[.int .i64 0, .int .i64 0]) 2 16 undRM HIB.out HB0.out HB1.out HB2.out rfl (by decide) _ _ _ rfl (World.ownsRow.alloc hO5 _) ⟨w7.heap.size, 0, none⟩ 1 1 [.int .i64 k.x, .int .i64 (k.y + 1)] rfl rfl (two_new _ _ _ _) ?c2 ?c3 ?c4 ?c5 ?_)
            case c2 => intro u hu; simp at hu; rcases hu with rfl | rfl <;> rfl
            case c3 => unfold maxLen; omega
            case c4 => omega
            case c5 => simp; omega
            intro v' w8 hown8 hgrow8 _
            have B8 : Below w.heap.size w w8 := (hb5.alloc (by omega) _).grown hgrow8 (by simp; omega) (ownsRow_base hO5)
            have HO8 := Lib.hid hown8
            clear hown8 hgrow8 hO5
            go_wp2
            go_roundw
            case rel => exact ⟨j + 1, by omega, by go_num, Lib.hid (by rw [HYE.out, List.length_append, mcells_snoc]; exact HO8.out), B8⟩
            case measure => simp [intOf]; omega
          · have HNO := Lib.hid (hno (fun _ => hall))
            have g1 : k.s < 0 := by omega
            go_wp2_with fail
            refine (refHasMesh _ c l _ k.x (k.y + 1) _ rfl (by omega) (by omega) (by omega) (by omega) (by omega) (HR.out.below (hbT hb B5.out))).mono ?_
            rintro e w7 ⟨rfl, hb7⟩
            rw [hall]
            replace B5 := hbT B5.out hb7
            obtain ⟨p0, p1, pf⟩ := two_at ((hb7.block _ (Array.getElem?_eq_some_iff.1 hP.out).1).trans hP.out)
            clear hb7 hP e0 e1 e2 hyes hno
            have hO5 := Lib.hid (ownsRow_below hown.out B5)
            have BB := Lib.hid (hbT hb B5)
            clear hown
            go_wp2
            go_roundw
            case rel => exact ⟨j + 1, by omega, by go_num, Lib.hid (by rw [HNO.out]; exact hO5.out), BB.out⟩
            case measure => simp [intOf]; omega
          · have HNO := Lib.hid (hno (fun h => absurd h hs))
            have g1 : ¬ k.s < 0 := by have := ks1'.out; omega
            replace B5 := B5.out
            clear hP hyes hno
            have hO5 := Lib.hid (ownsRow_below hown.out B5)
            have BB := Lib.hid (hbT hb B5)
            clear hown
            go_wp2
            go_roundw
            case rel => exact ⟨j + 1, by omega, by go_num, Lib.hid (by rw [HNO.out]; exact hO5.out), BB.out⟩
            case measure => simp [intOf]; omega
    · obtain rfl : j = l.length := by omega
      have h9 := hown.out
      rw [List.take_length, HU.out] at h9
      have HO := Lib.hid h9
      clear h9 hown hln
      go_wp2
      go_ret
      exact ⟨_, rfl, HO.out, hb⟩
end Go.Proofs.YtdeplhihcifmeaaGreatDoor

/- Degree of the program with an error; the lists of pairs as slices of the way. -/
namespace Go.Proofs.YtdeplhihcifmeaaGreatDoor
open Go.RowKit Go.Shelf Ck

set_option maxHeartbeats 2000000 in
set_option maxRecDepth 100000 in
theorem netDegreeBad (A : Option Addr) (c : Nat) (l : List Bar) (dx dy E1 E2 E : Int) (w : World) (h : OKS w A c l) (h1 : netE l = E1) (h2 : knotE dx dy = E2) (hE : firstE [E1, E2] = E) (hne : E ≠ 0) :
    Calls Tryz.prog 42 #[.slice A l.length c, .agg #[.int .i64 dx, .int .i64 dy]] w fun e w' => e = .returned (.tuple #[.int .i64 0, .int .i64 E]) ∧ Below w.heap.size w w' := by
  have HO := Lib.hid h
  have H1 := Lib.hid h1
  have H2 := Lib.hid h2
  have HE := Lib.hid hE
  have hn0 : (E != 0) = true := by rw [bne_iff_ne]; exact hne
  clear h h1 h2 hE hne
  obtain ⟨w1, hw1, e0, e1, hb1, hz1⟩ := box2 w (.int .i64 dx) (.int .i64 dy) 26
  have HW1 := Lib.hid hw1
  clear hw1
  go_enter Tryz.func42, Tryz.ntmps42
  go_wp2_with fail
  rw [← HW1.out]
  go_region_held3 (fun w' => w'.cell? ⟨w.heap.size, 0, none⟩ = some (.int .i64 dx) ∧ w'.cell? ⟨w.heap.size, 1, none⟩ = some (.int .i64 dy) ∧ Below w.heap.size w w' ∧ w.heap.size < w'.heap.size)
    (first | exact ⟨e0, e1, below_drew hb1, hz1⟩ | exact keepS (by assumption) (by assumption) | exact keepS (by assumption) ((Below.refl _ _).alloc (Nat.le_refl _) _) | assumption | go_keep)
    (first
      | (go_at_call 20; refine (netCheckNetA A c l _ (HO.out.below (sId (by assumption)).2.2.1)).mono ?_; rintro e w' ⟨rfl, hbq⟩; rw [H1.out])
      | (go_at_call 23; refine (netCheckKnot _ _ _).mono ?_; rintro e w' ⟨rfl, hbq⟩; rw [H2.out])
      | (go_at_call 84; refine (netFirst2 _ _ E1 E2 32 _ (by exact heap_alloc_new _ _)).mono ?_; rintro e w' ⟨rfl, rfl⟩; rw [HE.out]))
  all_goals
    obtain ⟨-, -, hbW, -⟩ := sId (by assumption)
    clear e0 e1
    go_wp2
    go_ret2
    exact ⟨rfl, hbW⟩
def KPair (ks : List Knot) (w : World) (e : Ending) (w' : World) : Prop := ∃ a c, e = .returned (.tuple #[.slice a ks.length c, .int .i64 0]) ∧ OKP w' a c ks ∧ Below w.heap.size w w'
def KSlice (ks : List Knot) (w : World) (e : Ending) (w' : World) : Prop := ∃ a c, e = .returned (.slice a ks.length c) ∧ OKP w' a c ks ∧ Below w.heap.size w w'
theorem KPair.of {ks : List Knot} {w : World} {t : TypeId} {e : Ending} {w' : World} (h : ∃ v, e = .returned (.tuple #[v, .int .i64 0]) ∧ w'.ownsRow w.heap.size t 2 v ks.length (kcellsL ks) ∧ Below w.heap.size w w') : KPair ks w e w' := by
  obtain ⟨v, rfl, h, hb⟩ := h
  obtain ⟨a, c, rfl, ok⟩ := own_okp h
  exact ⟨a, c, rfl, ok, hb⟩
theorem KSlice.of {ks : List Knot} {w : World} {t : TypeId} {e : Ending} {w' : World} (h : ∃ v, e = .returned v ∧ w'.ownsRow w.heap.size t 2 v ks.length (kcellsL ks) ∧ Below w.heap.size w w') : KSlice ks w e w' := by
  obtain ⟨v, rfl, h, hb⟩ := h
  obtain ⟨a, c, rfl, ok⟩ := own_okp h
  exact ⟨a, c, rfl, ok, hb⟩
theorem knotsN (A : Option Addr) (c : Nat) (l : List Bar) (u : List Knot) (w : World) (hu : knotsL l = u) (hl : l.length ≤ 4096) (hN : Net l) (h : OKS w A c l) : Calls Tryz.prog 41 #[.slice A l.length c] w (KPair u w) :=
  (netKnotsS A c l w u hu hl hN h).mono fun _ _ h => KPair.of h
theorem knotsR (A : Option Addr) (c : Nat) (l : List Bar) (u : List Knot) (w : World) (hu : knotsL l = u) (hl : l.length ≤ 4096) (hN : Net l) (h : OKS w A c l) : Calls Tryz.prog 47 #[.slice A l.length c] w (KSlice u w) :=
  (refKnots A c l u w hu hl hN.1 h).mono fun _ _ h => KSlice.of h
theorem meshesN (A : Option Addr) (c : Nat) (l : List Bar) (u : List Knot) (w : World) (hu : meshK (meshL l l) = u) (hl : l.length ≤ 4096) (hN : Net l) (h : OKS w A c l) : Calls Tryz.prog 44 #[.slice A l.length c] w (KPair u w) :=
  (netMeshesS A c l _ w rfl hl hN h).mono fun _ _ h => by
    obtain ⟨v, he, h, hb⟩ := h
    rw [meshK_cells, ← meshK_length, hu] at h
    exact KPair.of ⟨v, he, h, hb⟩
theorem meshesR (A : Option Addr) (c : Nat) (l : List Bar) (u : List Knot) (w : World) (hu : meshK (meshL l l) = u) (hl : l.length ≤ 4096) (hN : Net l) (h : OKS w A c l) : Calls Tryz.prog 51 #[.slice A l.length c] w (KSlice u w) :=
  (refMeshes A c l _ w rfl hl hN.1 h).mono fun _ _ h => by
    obtain ⟨v, he, h, hb⟩ := h
    rw [meshK_cells, ← meshK_length, hu] at h
    exact KSlice.of ⟨v, he, h, hb⟩
theorem meshesW (A : Option Addr) (c : Nat) (l : List Knot) (w : World) (hl : l.length ≤ 10000) (h : OKP w A c l) : Calls Tryz.prog 50 #[.slice A l.length c] w (KSlice l w) :=
  (lwMeshes A c l w hl h).mono fun _ _ h => KSlice.of h
def legV (l : List Bar) : Array Value := #[.int .i64 (lgC (ends l) (knotsL l) 0), .int .i64 (lgC (ends l) (knotsL l) 1), .int .i64 (lgC (ends l) (knotsL l) 2), .int .i64 (lgC (ends l) (knotsL l) 3), .int .i64 (lgC (ends l) (knotsL l) 4)]
theorem legsN (A : Option Addr) (c : Nat) (l : List Bar) (w : World) (n0 n1 n2 n3 n4 : Int) (hn : legV l = #[.int .i64 n0, .int .i64 n1, .int .i64 n2, .int .i64 n3, .int .i64 n4]) (hl : l.length ≤ 4096) (hN : Net l) (h : OKS w A c l) :
    Calls Tryz.prog 43 #[.slice A l.length c] w fun e w' => e = .returned (.tuple #[.agg #[.int .i64 n0, .int .i64 n1, .int .i64 n2, .int .i64 n3, .int .i64 n4], .int .i64 0]) ∧ Below w.heap.size w w' :=
  (netLegs A c l w hl h.1 h.2.1 hN (fun k => by rw [degs_count]; have := degs_four hN k; omega) h.2.2.2).mono fun _ _ ⟨⟨he, K, hK, hn', hm⟩, hb⟩ => by
    have e := fun i => legN_knots hK hn' hm i
    refine ⟨?_, hb⟩
    rw [he, ← hn, legV, e 0, e 1, e 2, e 3, e 4]
    rfl
theorem legsR (A : Option Addr) (c : Nat) (l : List Bar) (w : World) (n0 n1 n2 n3 n4 : Int) (hn : legV l = #[.int .i64 n0, .int .i64 n1, .int .i64 n2, .int .i64 n3, .int .i64 n4]) (hl : l.length ≤ 4096) (hN : Net l) (h : OKS w A c l) :
    Calls Tryz.prog 48 #[.slice A l.length c] w fun e w' => e = .returned (.agg #[.int .i64 n0, .int .i64 n1, .int .i64 n2, .int .i64 n3, .int .i64 n4]) ∧ Below w.heap.size w w' :=
  (refLegs A c l _ w rfl hl hN h).mono fun _ _ ⟨he, hb⟩ => ⟨by rw [he, ← hn]; rfl, hb⟩
end Go.Proofs.YtdeplhihcifmeaaGreatDoor

/- The law of NettingKnots. -/
namespace Go.Proofs.YtdeplhihcifmeaaGreatDoor
open Go.RowKit Go.Shelf Ck

/-- A box of five numbers. -/
def Five (w : World) (b : Nat) (cs : Array Value) : Prop := b < w.heap.size ∧ w.heap[b]? = some (.cells cs 67 (0, 0))
theorem Five.below {w w' : World} {b : Nat} {cs : Array Value} (h : Five w b cs) (hb : Below w.heap.size w w') : Five w' b cs := ⟨Nat.lt_of_lt_of_le h.1 hb.size, (hb.block _ h.1).trans h.2⟩
theorem Five.at5 {w : World} {g : Nat} {a b c d e : Value} (h : Five w g #[a, b, c, d, e]) : w.cell? ⟨g, 0, none⟩ = some a ∧ w.cell? ⟨g, 1, none⟩ = some b ∧ w.cell? ⟨g, 2, none⟩ = some c ∧ w.cell? ⟨g, 3, none⟩ = some d ∧ w.cell? ⟨g, 4, none⟩ = some e := by
  obtain ⟨c0, c1, c2, c3, c4, -⟩ := five_of_block h.2
  exact ⟨c0, c1, c2, c3, c4⟩
set_option maxHeartbeats 16000000 in
set_option maxRecDepth 100000 in
theorem lawKnL (A : Option Addr) (c : Nat) (l : List Bar) (x y : Int) (w : World) (hL : LaidLen w) (hO : OKS w A c l) (hS : ∀ W : World, Calls Tryz.prog 16 #[.slice A l.length c, .int .i64 40] W fun e w' => e = .returned (.bool false) ∧ W = w') :
    Calls Tryz.prog 6 #[.slice A l.length c, .agg #[.int .i64 x, .int .i64 y]] w fun e w' => e = .returned (.bool true) ∧ Below w.heap.size w w' := by
  have ex0 : ∀ (a b : Value) (w : World), (Instr.extract (.tuple #[a, b]) 0).run Tryz.prog w = .ok a w := fun _ _ _ => by kernel_rfl
  have ex1 : ∀ (a b : Value) (w : World), (Instr.extract (.tuple #[a, b]) 1).run Tryz.prog w = .ok b w := fun _ _ _ => by kernel_rfl
  obtain ⟨w1, hw1, z0, z1, hb1, hz1⟩ := box2 w (.int .i64 x) (.int .i64 y) 26
  have Q : ∀ {W : World}, Below w1.heap.size w1 W → W.cell? ⟨w.heap.size, 0, none⟩ = some (.int .i64 x) ∧ W.cell? ⟨w.heap.size, 1, none⟩ = some (.int .i64 y) := fun hb => ⟨(hb.cell (p := ⟨w.heap.size, 0, none⟩) hz1).trans z0, (hb.cell (p := ⟨w.heap.size, 1, none⟩) hz1).trans z1⟩
  have HW1 := Lib.hid hw1
  have HLL := Lib.hid hL
  have HO := Lib.hid hO
  have fin : ∀ {W : World}, Below w1.heap.size w1 W → Below w.heap.size w W := fun hb => hb1.trans (hb.mono hb1.size)
  have BW := Below.refl w1.heap.size w1
  clear hw1 hL hO z0 z1
  go_enter Tryz.func6, Tryz.ntmps6
  go_wp2_with fail
  rw [← HW1.out]
  go_wp2_with fail
  refine (awake1 _ (HLL.out.below (fin BW) HLL.out.lt)).mono ?_
  rintro e w11 ⟨rfl, hb11⟩
  replace BW := hbT BW hb11
  clear hb11
  go_wp2_with fail
  refine (hS _).mono ?_
  rintro e w12 ⟨rfl, rfl⟩
  go_wp2_with fail
  refine (awake1 _ (HLL.out.below (fin BW) HLL.out.lt)).mono ?_
  rintro e w13 ⟨rfl, hb13⟩
  replace BW := hbT BW hb13
  clear hb13
  go_wp2
  go_ret
  exact ⟨rfl, fin BW⟩
set_option maxHeartbeats 16000000 in
set_option maxRecDepth 100000 in
theorem lawKnB (A : Option Addr) (c : Nat) (l : List Bar) (x y : Int) (w : World) (hL : LaidLen w) (hO : OKS w A c l) (hS : ∀ W : World, Calls Tryz.prog 16 #[.slice A l.length c, .int .i64 40] W fun e w' => e = .returned (.bool true) ∧ W = w') (hlm : l.length ≤ 4098) (E KE0 : Int) (hE : netE l = E) (hne : E ≠ 0) (hK : knotE x y = KE0) :
    Calls Tryz.prog 6 #[.slice A l.length c, .agg #[.int .i64 x, .int .i64 y]] w fun e w' => e = .returned (.bool true) ∧ Below w.heap.size w w' := by
  have ex0 : ∀ (a b : Value) (w : World), (Instr.extract (.tuple #[a, b]) 0).run Tryz.prog w = .ok a w := fun _ _ _ => by kernel_rfl
  have ex1 : ∀ (a b : Value) (w : World), (Instr.extract (.tuple #[a, b]) 1).run Tryz.prog w = .ok b w := fun _ _ _ => by kernel_rfl
  obtain ⟨w1, hw1, z0, z1, hb1, hz1⟩ := box2 w (.int .i64 x) (.int .i64 y) 26
  have Q : ∀ {W : World}, Below w1.heap.size w1 W → W.cell? ⟨w.heap.size, 0, none⟩ = some (.int .i64 x) ∧ W.cell? ⟨w.heap.size, 1, none⟩ = some (.int .i64 y) := fun hb => ⟨(hb.cell (p := ⟨w.heap.size, 0, none⟩) hz1).trans z0, (hb.cell (p := ⟨w.heap.size, 1, none⟩) hz1).trans z1⟩
  have HW1 := Lib.hid hw1
  have HLL := Lib.hid hL
  have HO := Lib.hid hO
  have fin : ∀ {W : World}, Below w1.heap.size w1 W → Below w.heap.size w W := fun hb => hb1.trans (hb.mono hb1.size)
  have BW := Below.refl w1.heap.size w1
  have HS := Lib.hid hS
  have HE := Lib.hid hE
  have HNE := Lib.hid hne
  have HKE := Lib.hid hK
  have en0 : (E != 0) = true := by rw [bne_iff_ne]; exact hne
  have q5 := eqFive 0 0 0 0 0
  have HF := Lib.hid (show firstE [E, KE0] = E by simp only [firstE]; rw [if_neg hne])
  clear hS hE hne hK
  clear hw1 hL hO z0 z1
  go_enter Tryz.func6, Tryz.ntmps6
  go_wp2_with fail
  rw [← HW1.out]
  go_wp2_with fail
  refine (awake1 _ (HLL.out.below (fin BW) HLL.out.lt)).mono ?_
  rintro e w11 ⟨rfl, hb11⟩
  replace BW := hbT BW hb11
  clear hb11
  go_wp2_with fail
  refine (HS.out _).mono ?_
  rintro e w12 ⟨rfl, rfl⟩
  go_wp2_with fail
  refine (lwCopied A c l _ hlm (HO.out.below (fin BW))).mono ?_
  rintro e w13 ⟨a13, c13, rfl, o13, hb13⟩
  replace BW := hbT BW hb13
  have O13 := Lib.hid o13
  clear o13 hb13
  go_wp2_with fail
  refine (netKnotsBad a13 c13 l E _ O13.out HE.out HNE.out).mono ?_
  rintro e w14 ⟨rfl, hb14⟩
  replace BW := hbT BW hb14
  replace O13 := Lib.hid (O13.out.below hb14)
  clear hb14
  clear O13
  go_wp2_with fail
  refine wp_region_held_drew (S := (fun w' => Below w14.heap.size w14 w')) (by kernel_rfl) ?_ (fun hHeld => ?_)
  · exact below_drew (Below.refl _ _)
  refine wpAnyH_take (i := 0) (oi := _) (v := ?vg10) rfl (by kernel_rfl) (by kernel_rfl) (by kernel_rfl) (fun _ _ _ h => h) (Or.inl ⟨by rfl, ?hyg10⟩) (by assumption) ?restg10
  case hyg10 => (intro w hSw; (try dsimp only at hSw); go_simp; first | done | rfl)
  try simp only [layA]
  refine wpAnyH_take (i := 2) (oi := _) (v := ?vg12) rfl (by kernel_rfl) (by kernel_rfl) (by kernel_rfl) (fun _ _ _ h => h) (Or.inl ⟨by rfl, ?hyg12⟩) (by assumption) ?restg12
  case hyg12 => (intro w hSw; (try dsimp only at hSw); obtain ⟨s0, s1⟩ := Q (hbT BW hSw); go_simp; first | done | rfl)
  try simp only [layA]
  refine wpAnyH_ready (rs := [1]) (by kernel_rfl) (by simp) ?_
  refine AllReadyH.cons (o := _) rfl (fun K hK => ?_) AllReadyH.nil
  simp only [layG]
  go_simp
  go_at_call 21
  refine (lwCopied A c l _ hlm (HO.out.below (fin (hbT BW (by assumption))))).mono ?_
  rintro e w' ⟨ax, cx, rfl, ox, hbq⟩
  refine hK.out _ _ (hbT (by assumption) hbq) (fun hHeld => ?_)
  clear hK K
  try simp only [layA]
  refine wpAnyH_ready (rs := [3]) (by kernel_rfl) (by simp) ?_
  refine AllReadyH.cons (o := _) rfl (fun K hK => ?_) AllReadyH.nil
  simp only [layG]
  go_simp
  go_at_call 42
  refine (netDegreeBad ax cx l x y E KE0 E _ ox HE.out HKE.out HF.out HNE.out).mono ?_
  rintro e w15 ⟨rfl, hbq⟩
  refine hK.out _ _ (hbT (by assumption) hbq) (fun hHeld => ?_)
  clear hK K
  try simp only [layA]
  refine wpAnyH_take (i := 4) (oi := _) (v := ?vg14) rfl (by kernel_rfl) (by kernel_rfl) (by kernel_rfl) (fun _ _ _ h => h) (Or.inl ⟨by rfl, ?hyg14⟩) (by assumption) ?restg14
  case hyg14 => (intro w hSw; (try dsimp only at hSw); go_simp; first | done | rfl)
  try simp only [layA]
  refine wpAnyH_take (i := 5) (oi := _) (v := ?vg15) rfl (by kernel_rfl) (by kernel_rfl) (by kernel_rfl) (fun _ _ _ h => h) (Or.inl ⟨by rfl, ?hyg15⟩) (by assumption) ?restg15
  case hyg15 => (intro w hSw; (try dsimp only at hSw); go_simp; first | done | rfl)
  try simp only [layA]
  refine wpAnyH_take (i := 6) (oi := _) (v := ?vg16) rfl (by kernel_rfl) (by kernel_rfl) (by kernel_rfl) (fun _ _ _ h => h) (Or.inl ⟨by rfl, ?hyg16⟩) (by assumption) ?restg16
  case hyg16 => (intro w hSw; (try dsimp only at hSw); go_simp; first | done | rfl)
  try simp only [layA]
  refine wpAnyH_take (i := 7) (oi := _) (v := ?vg17) rfl (by kernel_rfl) (by kernel_rfl) (by kernel_rfl) (fun _ _ _ h => h) (Or.inl ⟨by rfl, ?hyg17⟩) (by assumption) ?restg17
  case hyg17 => (intro w hSw; (try dsimp only at hSw); go_simp; first | done | rfl)
  try simp only [layA]
  refine wpAnyH_take (i := 8) (oi := _) (v := ?vg18) rfl (by kernel_rfl) (by kernel_rfl) (by kernel_rfl) (fun _ _ _ h => h) (Or.inl ⟨by rfl, ?hyg18⟩) (by assumption) ?restg18
  case hyg18 => (intro w hSw; (try dsimp only at hSw); go_simp; first | done | rfl)
  try simp only [layA]
  refine wpAnyH_done (by kernel_rfl) ?_ _
  replace BW := hbT BW hHeld
  clear ox
  go_wp2_with fail
  refine (lwCopied A c l _ hlm (HO.out.below (fin BW))).mono ?_
  rintro e w16 ⟨a16, c16, rfl, o16, hb16⟩
  replace BW := hbT BW hb16
  have O16 := Lib.hid o16
  clear o16 hb16
  go_wp2_with fail
  refine (netLegsBad a16 c16 l E _ O16.out HE.out HNE.out).mono ?_
  rintro e w17 ⟨rfl, hb17⟩
  replace BW := hbT BW hb17
  replace O16 := Lib.hid (O16.out.below hb17)
  clear hb17
  clear O16
  go_wp2_with fail
  obtain ⟨w18, hw, LG, hbq, LZ⟩ := box5H w17 (.int .i64 0) (.int .i64 0) (.int .i64 0) (.int .i64 0) (.int .i64 0) 67
  rw [← hw]
  have LF := Lib.hid (show Five w18 w17.heap.size #[.int .i64 0, .int .i64 0, .int .i64 0, .int .i64 0, .int .i64 0] from ⟨by omega, LG⟩)
  replace BW := hbT BW hbq
  clear hw LZ LG hbq
  generalize w17.heap.size = BL at *
  go_wp2_with fail
  refine (lwCopied A c l _ hlm (HO.out.below (fin BW))).mono ?_
  rintro e w19 ⟨a19, c19, rfl, o19, hb19⟩
  replace BW := hbT BW hb19
  replace LF := Lib.hid (LF.out.below hb19)
  have O19 := Lib.hid o19
  clear o19 hb19
  go_wp2_with fail
  refine (netMeshesBad a19 c19 l E _ O19.out HE.out HNE.out).mono ?_
  rintro e w20 ⟨rfl, hb20⟩
  replace BW := hbT BW hb20
  replace LF := Lib.hid (LF.out.below hb20)
  replace O19 := Lib.hid (O19.out.below hb20)
  clear hb20
  clear O19
  go_wp2_with fail
  refine (refCheckNetA A c l _ (HO.out.below (fin BW))).mono ?_
  rintro e w21 ⟨rfl, hb21⟩
  rw [HE.out]
  replace BW := hbT BW hb21
  replace LF := Lib.hid (LF.out.below hb21)
  clear hb21
  obtain ⟨t0, t1, t2, t3, t4⟩ := LF.out.at5
  go_wp2
  go_ret
  exact ⟨rfl, fin BW⟩
set_option maxHeartbeats 16000000 in
set_option maxRecDepth 100000 in
theorem lawKnO (A : Option Addr) (c : Nat) (l : List Bar) (x y : Int) (w : World) (hL : LaidLen w) (hO : OKS w A c l) (hS : ∀ W : World, Calls Tryz.prog 16 #[.slice A l.length c, .int .i64 40] W fun e w' => e = .returned (.bool true) ∧ W = w') (hl : l.length ≤ 40) (hN : Net l) (ks ms : List Knot) (n0 n1 n2 n3 n4 : Int) (hk : knotsL l = ks) (hm : meshK (meshL l l) = ms) (hv : legV l = #[.int .i64 n0, .int .i64 n1, .int .i64 n2, .int .i64 n3, .int .i64 n4]) (d : Nat) (hd : (ends l).count ⟨x, y⟩ = d) (hK : knotE x y = 0) :
    Calls Tryz.prog 6 #[.slice A l.length c, .agg #[.int .i64 x, .int .i64 y]] w fun e w' => e = .returned (.bool true) ∧ Below w.heap.size w w' := by
  have ex0 : ∀ (a b : Value) (w : World), (Instr.extract (.tuple #[a, b]) 0).run Tryz.prog w = .ok a w := fun _ _ _ => by kernel_rfl
  have ex1 : ∀ (a b : Value) (w : World), (Instr.extract (.tuple #[a, b]) 1).run Tryz.prog w = .ok b w := fun _ _ _ => by kernel_rfl
  obtain ⟨w1, hw1, z0, z1, hb1, hz1⟩ := box2 w (.int .i64 x) (.int .i64 y) 26
  have Q : ∀ {W : World}, Below w1.heap.size w1 W → W.cell? ⟨w.heap.size, 0, none⟩ = some (.int .i64 x) ∧ W.cell? ⟨w.heap.size, 1, none⟩ = some (.int .i64 y) := fun hb => ⟨(hb.cell (p := ⟨w.heap.size, 0, none⟩) hz1).trans z0, (hb.cell (p := ⟨w.heap.size, 1, none⟩) hz1).trans z1⟩
  have HW1 := Lib.hid hw1
  have HLL := Lib.hid hL
  have HO := Lib.hid hO
  have fin : ∀ {W : World}, Below w1.heap.size w1 W → Below w.heap.size w W := fun hb => hb1.trans (hb.mono hb1.size)
  have BW := Below.refl w1.heap.size w1
  have HN := Lib.hid hN
  have HK := Lib.hid hk
  have HM := Lib.hid hm
  have HV := Lib.hid hv
  have HS := Lib.hid hS
  have HKE := Lib.hid hK
  have HD := Lib.hid hd
  have hlm : l.length ≤ 4098 := by omega
  have HE := Lib.hid ((netE_zero l).2 ⟨by omega, hN⟩)
  have HKL := Lib.hid (show ks.length ≤ 10000 by rw [← hk]; have := knotsL_le l; omega)
  have HML := Lib.hid (show ms.length ≤ 10000 by rw [← hm, meshK_length]; have := meshL_le l l.length; rw [List.take_length] at this; omega)
  have q5 := eqFive n0 n1 n2 n3 n4
  clear hN hk hm hv hS hK hd
  clear hw1 hL hO z0 z1
  go_enter Tryz.func6, Tryz.ntmps6
  go_wp2_with fail
  rw [← HW1.out]
  go_wp2_with fail
  refine (awake1 _ (HLL.out.below (fin BW) HLL.out.lt)).mono ?_
  rintro e w11 ⟨rfl, hb11⟩
  replace BW := hbT BW hb11
  clear hb11
  go_wp2_with fail
  refine (HS.out _).mono ?_
  rintro e w12 ⟨rfl, rfl⟩
  go_wp2_with fail
  refine (lwCopied A c l _ hlm (HO.out.below (fin BW))).mono ?_
  rintro e w13 ⟨a13, c13, rfl, o13, hb13⟩
  replace BW := hbT BW hb13
  have O13 := Lib.hid o13
  clear o13 hb13
  go_wp2_with fail
  refine (knotsN a13 c13 l ks _ HK.out (by omega) HN.out O13.out).mono ?_
  rintro e w14 ⟨a14, c14, rfl, o14, hb14⟩
  replace BW := hbT BW hb14
  replace O13 := Lib.hid (O13.out.below hb14)
  have O14 := Lib.hid o14
  clear o14 hb14
  clear O13
  go_wp2_with fail
  refine wp_region_held_drew (S := (fun w' => Below w14.heap.size w14 w')) (by kernel_rfl) ?_ (fun hHeld => ?_)
  · exact below_drew (Below.refl _ _)
  refine wpAnyH_take (i := 0) (oi := _) (v := ?vg10) rfl (by kernel_rfl) (by kernel_rfl) (by kernel_rfl) (fun _ _ _ h => h) (Or.inl ⟨by rfl, ?hyg10⟩) (by assumption) ?restg10
  case hyg10 => (intro w hSw; (try dsimp only at hSw); go_simp; first | done | rfl)
  try simp only [layA]
  refine wpAnyH_take (i := 2) (oi := _) (v := ?vg12) rfl (by kernel_rfl) (by kernel_rfl) (by kernel_rfl) (fun _ _ _ h => h) (Or.inl ⟨by rfl, ?hyg12⟩) (by assumption) ?restg12
  case hyg12 => (intro w hSw; (try dsimp only at hSw); obtain ⟨s0, s1⟩ := Q (hbT BW hSw); go_simp; first | done | rfl)
  try simp only [layA]
  refine wpAnyH_ready (rs := [1]) (by kernel_rfl) (by simp) ?_
  refine AllReadyH.cons (o := _) rfl (fun K hK => ?_) AllReadyH.nil
  simp only [layG]
  go_simp
  go_at_call 21
  refine (lwCopied A c l _ hlm (HO.out.below (fin (hbT BW (by assumption))))).mono ?_
  rintro e w' ⟨ax, cx, rfl, ox, hbq⟩
  refine hK.out _ _ (hbT (by assumption) hbq) (fun hHeld => ?_)
  clear hK K
  try simp only [layA]
  refine wpAnyH_ready (rs := [3]) (by kernel_rfl) (by simp) ?_
  refine AllReadyH.cons (o := _) rfl (fun K hK => ?_) AllReadyH.nil
  simp only [layG]
  go_simp
  go_at_call 42
  refine (netDegreeOk ax cx l x y d _ HD.out (by omega) HN.out HKE.out ox).mono ?_
  rintro e w15 ⟨rfl, hbq⟩
  refine hK.out _ _ (hbT (by assumption) hbq) (fun hHeld => ?_)
  clear hK K
  try simp only [layA]
  refine wpAnyH_take (i := 4) (oi := _) (v := ?vg14) rfl (by kernel_rfl) (by kernel_rfl) (by kernel_rfl) (fun _ _ _ h => h) (Or.inl ⟨by rfl, ?hyg14⟩) (by assumption) ?restg14
  case hyg14 => (intro w hSw; (try dsimp only at hSw); go_simp; first | done | rfl)
  try simp only [layA]
  refine wpAnyH_take (i := 5) (oi := _) (v := ?vg15) rfl (by kernel_rfl) (by kernel_rfl) (by kernel_rfl) (fun _ _ _ h => h) (Or.inl ⟨by rfl, ?hyg15⟩) (by assumption) ?restg15
  case hyg15 => (intro w hSw; (try dsimp only at hSw); go_simp; first | done | rfl)
  try simp only [layA]
  refine wpAnyH_take (i := 6) (oi := _) (v := ?vg16) rfl (by kernel_rfl) (by kernel_rfl) (by kernel_rfl) (fun _ _ _ h => h) (Or.inl ⟨by rfl, ?hyg16⟩) (by assumption) ?restg16
  case hyg16 => (intro w hSw; (try dsimp only at hSw); go_simp; first | done | rfl)
  try simp only [layA]
  refine wpAnyH_take (i := 7) (oi := _) (v := ?vg17) rfl (by kernel_rfl) (by kernel_rfl) (by kernel_rfl) (fun _ _ _ h => h) (Or.inl ⟨by rfl, ?hyg17⟩) (by assumption) ?restg17
  case hyg17 => (intro w hSw; (try dsimp only at hSw); go_simp; first | done | rfl)
  try simp only [layA]
  refine wpAnyH_take (i := 8) (oi := _) (v := ?vg18) rfl (by kernel_rfl) (by kernel_rfl) (by kernel_rfl) (fun _ _ _ h => h) (Or.inl ⟨by rfl, ?hyg18⟩) (by assumption) ?restg18
  case hyg18 => (intro w hSw; (try dsimp only at hSw); go_simp; first | done | rfl)
  try simp only [layA]
  refine wpAnyH_done (by kernel_rfl) ?_ _
  replace BW := hbT BW hHeld
  replace O14 := Lib.hid (O14.out.below hHeld)
  clear ox
  go_wp2_with fail
  refine (lwCopied A c l _ hlm (HO.out.below (fin BW))).mono ?_
  rintro e w16 ⟨a16, c16, rfl, o16, hb16⟩
  replace BW := hbT BW hb16
  replace O14 := Lib.hid (O14.out.below hb16)
  have O16 := Lib.hid o16
  clear o16 hb16
  go_wp2_with fail
  refine (legsN a16 c16 l _ n0 n1 n2 n3 n4 HV.out (by omega) HN.out O16.out).mono ?_
  rintro e w17 ⟨rfl, hb17⟩
  replace BW := hbT BW hb17
  replace O14 := Lib.hid (O14.out.below hb17)
  replace O16 := Lib.hid (O16.out.below hb17)
  clear hb17
  clear O16
  go_wp2_with fail
  obtain ⟨w18, hw, LG, hbq, LZ⟩ := box5H w17 (.int .i64 n0) (.int .i64 n1) (.int .i64 n2) (.int .i64 n3) (.int .i64 n4) 67
  rw [← hw]
  have LF := Lib.hid (show Five w18 w17.heap.size #[.int .i64 n0, .int .i64 n1, .int .i64 n2, .int .i64 n3, .int .i64 n4] from ⟨by omega, LG⟩)
  replace BW := hbT BW hbq
  replace O14 := Lib.hid (O14.out.below hbq)
  clear hw LZ LG hbq
  generalize w17.heap.size = BL at *
  go_wp2_with fail
  refine (lwCopied A c l _ hlm (HO.out.below (fin BW))).mono ?_
  rintro e w19 ⟨a19, c19, rfl, o19, hb19⟩
  replace BW := hbT BW hb19
  replace O14 := Lib.hid (O14.out.below hb19)
  replace LF := Lib.hid (LF.out.below hb19)
  have O19 := Lib.hid o19
  clear o19 hb19
  go_wp2_with fail
  refine (meshesN a19 c19 l ms _ HM.out (by omega) HN.out O19.out).mono ?_
  rintro e w20 ⟨a20, c20, rfl, o20, hb20⟩
  replace BW := hbT BW hb20
  replace O14 := Lib.hid (O14.out.below hb20)
  replace LF := Lib.hid (LF.out.below hb20)
  replace O19 := Lib.hid (O19.out.below hb20)
  have O20 := Lib.hid o20
  clear o20 hb20
  clear O19
  go_wp2_with fail
  refine (refCheckNetA A c l _ (HO.out.below (fin BW))).mono ?_
  rintro e w21 ⟨rfl, hb21⟩
  rw [HE.out]
  replace BW := hbT BW hb21
  replace O14 := Lib.hid (O14.out.below hb21)
  replace LF := Lib.hid (LF.out.below hb21)
  replace O20 := Lib.hid (O20.out.below hb21)
  clear hb21
  obtain ⟨s0, s1⟩ := Q BW
  go_wp2_with fail
  refine (refCheckKnot x y _).mono ?_
  rintro e w22 ⟨rfl, hb22⟩
  rw [HKE.out]
  replace BW := hbT BW hb22
  replace O14 := Lib.hid (O14.out.below hb22)
  replace LF := Lib.hid (LF.out.below hb22)
  replace O20 := Lib.hid (O20.out.below hb22)
  clear hb22
  clear s0 s1
  obtain ⟨s0, s1⟩ := Q BW
  go_wp2_with fail
  refine (refDegree A c l x y d _ HD.out (by omega) HN.out.1 (HO.out.below (fin BW))).mono ?_
  rintro e w23 ⟨rfl, hb23⟩
  replace BW := hbT BW hb23
  replace O14 := Lib.hid (O14.out.below hb23)
  replace LF := Lib.hid (LF.out.below hb23)
  replace O20 := Lib.hid (O20.out.below hb23)
  clear hb23
  clear s0 s1
  go_wp2_with fail
  refine wp_region_held_drew (S := (fun w' => Below w23.heap.size w23 w')) (by kernel_rfl) ?_ (fun hHeld => ?_)
  · exact below_drew (Below.refl _ _)
  refine wpAnyH_take (i := 0) (oi := _) (v := ?ve0) rfl (by kernel_rfl) (by kernel_rfl) (by kernel_rfl) (fun _ _ _ h => h) (Or.inl ⟨by rfl, ?hye0⟩) (by assumption) ?reste0
  case hye0 => (intro w hSw; (try dsimp only at hSw); go_simp; first | done | rfl)
  try simp only [layA]
  refine wpAnyH_take (i := 1) (oi := _) (v := ?ve1) rfl (by kernel_rfl) (by kernel_rfl) (by kernel_rfl) (fun _ _ _ h => h) (Or.inl ⟨by rfl, ?hye1⟩) (by assumption) ?reste1
  case hye1 => (intro w hSw; (try dsimp only at hSw); go_simp; first | done | rfl)
  try simp only [layA]
  refine wpAnyH_take (i := 2) (oi := _) (v := ?ve2) rfl (by kernel_rfl) (by kernel_rfl) (by kernel_rfl) (fun _ _ _ h => h) (Or.inl ⟨by rfl, ?hye2⟩) (by assumption) ?reste2
  case hye2 => (intro w hSw; (try dsimp only at hSw); go_simp; first | done | rfl)
  try simp only [layA]
  refine wpAnyH_take (i := 3) (oi := _) (v := ?ve3) rfl (by kernel_rfl) (by kernel_rfl) (by kernel_rfl) (fun _ _ _ h => h) (Or.inl ⟨by rfl, ?hye3⟩) (by assumption) ?reste3
  case hye3 => (intro w hSw; (try dsimp only at hSw); go_simp; first | done | rfl)
  try simp only [layA]
  refine wpAnyH_take (i := 4) (oi := _) (v := ?ve4) rfl (by kernel_rfl) (by kernel_rfl) (by kernel_rfl) (fun _ _ _ h => h) (Or.inl ⟨by rfl, ?hye4⟩) (by assumption) ?reste4
  case hye4 => (intro w hSw; (try dsimp only at hSw); go_simp; first | done | rfl)
  try simp only [layA]
  refine wpAnyH_take (i := 5) (oi := _) (v := ?ve5) rfl (by kernel_rfl) (by kernel_rfl) (by kernel_rfl) (fun _ _ _ h => h) (Or.inl ⟨by rfl, ?hye5⟩) (by assumption) ?reste5
  case hye5 => (intro w hSw; (try dsimp only at hSw); go_simp; first | done | rfl)
  try simp only [layA]
  refine wpAnyH_take (i := 6) (oi := _) (v := ?ve6) rfl (by kernel_rfl) (by kernel_rfl) (by kernel_rfl) (fun _ _ _ h => h) (Or.inl ⟨by rfl, ?hye6⟩) (by assumption) ?reste6
  case hye6 => (intro w hSw; (try dsimp only at hSw); go_simp; first | done | rfl)
  try simp only [layA]
  refine wpAnyH_take (i := 7) (oi := _) (v := ?ve7) rfl (by kernel_rfl) (by kernel_rfl) (by kernel_rfl) (fun _ _ _ h => h) (Or.inl ⟨by rfl, ?hye7⟩) (by assumption) ?reste7
  case hye7 => (intro w hSw; (try dsimp only at hSw); go_simp; first | done | rfl)
  try simp only [layA]
  refine wpAnyH_take (i := 8) (oi := _) (v := ?ve8) rfl (by kernel_rfl) (by kernel_rfl) (by kernel_rfl) (fun _ _ _ h => h) (Or.inl ⟨by rfl, ?hye8⟩) (by assumption) ?reste8
  case hye8 => (intro w hSw; (try dsimp only at hSw); go_simp; first | done | rfl)
  try simp only [layA]
  refine wpAnyH_ready (rs := [9]) (by kernel_rfl) (by simp) ?_
  refine AllReadyH.cons (o := _) rfl (fun K hK => ?_) AllReadyH.nil
  simp only [layG]
  rw [if_pos (by rfl)]
  go_simp
  go_at_call 47
  refine (knotsR A c l ks _ HK.out (by omega) HN.out (HO.out.below (fin (hbT BW (by assumption))))).mono ?_
  rintro e wa ⟨ak, ck, rfl, ok, hbq⟩
  refine hK.out _ _ (hbT (by assumption) hbq) (fun hHeld => ?_)
  clear hK K
  try simp only [layA]
  refine wpAnyH_ready (rs := [10]) (by kernel_rfl) (by simp) ?_
  refine AllReadyH.cons (o := _) rfl (fun K hK => ?_) AllReadyH.nil
  simp only [layG]
  rw [if_pos (by rfl)]
  go_simp
  go_at_call 46
  refine (refSameKnots a14 ak c14 ck ks _ HKL.out (O14.out.below hHeld).2.2 ok.2.2).mono ?_
  clear ok
  rintro e wb ⟨rfl, hbq⟩
  refine hK.out _ _ (hbT (by assumption) hbq) (fun hHeld => ?_)
  clear hK K
  try simp only [layA]
  refine wpAnyH_take (i := 11) (oi := _) (v := ?ve11) rfl (by kernel_rfl) (by kernel_rfl) (by kernel_rfl) (fun _ _ _ h => h) (Or.inl ⟨by rfl, ?hye11⟩) (by assumption) ?reste11
  case hye11 => (intro w hSw; (try dsimp only at hSw); go_simp; first | done | rfl)
  try simp only [layA]
  refine wpAnyH_take (i := 12) (oi := _) (v := ?ve12) rfl (by kernel_rfl) (by kernel_rfl) (by kernel_rfl) (fun _ _ _ h => h) (Or.inl ⟨by rfl, ?hye12⟩) (by assumption) ?reste12
  case hye12 => (intro w hSw; (try dsimp only at hSw); go_simp; first | done | rfl)
  try simp only [layA]
  refine wpAnyH_take (i := 13) (oi := _) (v := ?ve13) rfl (by kernel_rfl) (by kernel_rfl) (by kernel_rfl) (fun _ _ _ h => h) (Or.inl ⟨by rfl, ?hye13⟩) (by assumption) ?reste13
  case hye13 => (intro w hSw; (try dsimp only at hSw); obtain ⟨t0, t1, t2, t3, t4⟩ := (LF.out.below hSw).at5; go_simp; first | done | rfl)
  try simp only [layA]
  refine wpAnyH_take (i := 14) (oi := _) (v := ?ve14) rfl (by kernel_rfl) (by kernel_rfl) (by kernel_rfl) (fun _ _ _ h => h) (Or.inl ⟨by rfl, ?hye14⟩) (by assumption) ?reste14
  case hye14 => (intro w hSw; (try dsimp only at hSw); go_simp; first | done | rfl)
  try simp only [layA]
  refine wpAnyH_ready (rs := [15]) (by kernel_rfl) (by simp) ?_
  refine AllReadyH.cons (o := _) rfl (fun K hK => ?_) AllReadyH.nil
  simp only [layG]
  rw [if_pos (by rfl)]
  go_simp
  go_at_call 48
  refine (legsR A c l _ n0 n1 n2 n3 n4 HV.out (by omega) HN.out (HO.out.below (fin (hbT BW (by assumption))))).mono ?_
  rintro e wc ⟨rfl, hbq⟩
  refine hK.out _ _ (hbT (by assumption) hbq) (fun hHeld => ?_)
  clear hK K
  try simp only [layA]
  refine wpAnyH_take (i := 16) (oi := _) (v := ?ve16) rfl (by kernel_rfl) (by kernel_rfl) (by kernel_rfl) (fun _ _ _ h => h) (Or.inl ⟨by rfl, ?hye16⟩) (by assumption) ?reste16
  case hye16 => (intro w hSw; (try dsimp only at hSw); go_simp; first | done | rfl)
  try simp only [layA]
  refine wpAnyH_take (i := 17) (oi := _) (v := ?ve17) rfl (by kernel_rfl) (by kernel_rfl) (by kernel_rfl) (fun _ _ _ h => h) (Or.inl ⟨by rfl, ?hye17⟩) (by assumption) ?reste17
  case hye17 => (intro w hSw; (try dsimp only at hSw); go_simp; first | done | rfl)
  try simp only [layA]
  refine wpAnyH_take (i := 18) (oi := _) (v := ?ve18) rfl (by kernel_rfl) (by kernel_rfl) (by kernel_rfl) (fun _ _ _ h => h) (Or.inl ⟨by rfl, ?hye18⟩) (by assumption) ?reste18
  case hye18 => (intro w hSw; (try dsimp only at hSw); go_simp; first | done | rfl)
  try simp only [layA]
  refine wpAnyH_take (i := 19) (oi := _) (v := ?ve19) rfl (by kernel_rfl) (by kernel_rfl) (by kernel_rfl) (fun _ _ _ h => h) (Or.inl ⟨by rfl, ?hye19⟩) (by assumption) ?reste19
  case hye19 => (intro w hSw; (try dsimp only at hSw); go_simp; first | done | rfl)
  try simp only [layA]
  refine wpAnyH_take (i := 21) (oi := _) (v := ?ve21) rfl (by kernel_rfl) (by kernel_rfl) (by kernel_rfl) (fun _ _ _ h => h) (Or.inl ⟨by rfl, ?hye21⟩) (by assumption) ?reste21
  case hye21 => (intro w hSw; (try dsimp only at hSw); go_simp; first | done | rfl)
  try simp only [layA]
  refine wpAnyH_ready (rs := [20]) (by kernel_rfl) (by simp) ?_
  refine AllReadyH.cons (o := _) rfl (fun K hK => ?_) AllReadyH.nil
  simp only [layG]
  rw [if_pos (by rfl)]
  go_simp
  go_at_call 50
  refine (meshesW a20 c20 ms _ HML.out (O20.out.below hHeld)).mono ?_
  rintro e wd ⟨am, cm, rfl, om, hbq⟩
  refine hK.out _ _ (hbT (by assumption) hbq) (fun hHeld => ?_)
  clear hK K
  try simp only [layA]
  refine wpAnyH_ready (rs := [22]) (by kernel_rfl) (by simp) ?_
  refine AllReadyH.cons (o := _) rfl (fun K hK => ?_) AllReadyH.nil
  simp only [layG]
  rw [if_pos (by rfl)]
  go_simp
  go_at_call 51
  refine (meshesR A c l ms _ HM.out (by omega) HN.out (HO.out.below (fin (hbT BW (by assumption))))).mono ?_
  rintro e we ⟨an, cn, rfl, on2, hbq⟩
  replace om := om.below hbq
  refine hK.out _ _ (hbT (by assumption) hbq) (fun hHeld => ?_)
  clear hK K
  try simp only [layA]
  refine wpAnyH_ready (rs := [23]) (by kernel_rfl) (by simp) ?_
  refine AllReadyH.cons (o := _) rfl (fun K hK => ?_) AllReadyH.nil
  simp only [layG]
  rw [if_pos (by rfl)]
  go_simp
  go_at_call 49
  refine (lwSameMeshes am an cm cn ms _ HML.out om.2.2 on2.2.2).mono ?_
  clear om on2
  rintro e wf ⟨rfl, hbq⟩
  refine hK.out _ _ (hbT (by assumption) hbq) (fun hHeld => ?_)
  clear hK K
  try simp only [layA]
  refine wpAnyH_take (i := 24) (oi := _) (v := ?ve24) rfl (by kernel_rfl) (by kernel_rfl) (by kernel_rfl) (fun _ _ _ h => h) (Or.inl ⟨by rfl, ?hye24⟩) (by assumption) ?reste24
  case hye24 => (intro w hSw; (try dsimp only at hSw); go_simp; first | done | rfl)
  try simp only [layA]
  refine wpAnyH_take (i := 25) (oi := _) (v := ?ve25) rfl (by kernel_rfl) (by kernel_rfl) (by kernel_rfl) (fun _ _ _ h => h) (Or.inl ⟨by rfl, ?hye25⟩) (by assumption) ?reste25
  case hye25 => (intro w hSw; (try dsimp only at hSw); go_simp; first | done | rfl)
  try simp only [layA]
  refine wpAnyH_done (by kernel_rfl) ?_ _
  go_wp2
  go_ret
  exact ⟨rfl, fin (hbT BW hHeld)⟩
set_option maxHeartbeats 16000000 in
set_option maxRecDepth 100000 in
theorem lawKnK (A : Option Addr) (c : Nat) (l : List Bar) (x y : Int) (w : World) (hL : LaidLen w) (hO : OKS w A c l) (hS : ∀ W : World, Calls Tryz.prog 16 #[.slice A l.length c, .int .i64 40] W fun e w' => e = .returned (.bool true) ∧ W = w') (hl : l.length ≤ 40) (hN : Net l) (ks ms : List Knot) (n0 n1 n2 n3 n4 : Int) (hk : knotsL l = ks) (hm : meshK (meshL l l) = ms) (hv : legV l = #[.int .i64 n0, .int .i64 n1, .int .i64 n2, .int .i64 n3, .int .i64 n4]) (KE : Int) (hK : knotE x y = KE) (hne : KE ≠ 0) :
    Calls Tryz.prog 6 #[.slice A l.length c, .agg #[.int .i64 x, .int .i64 y]] w fun e w' => e = .returned (.bool true) ∧ Below w.heap.size w w' := by
  have ex0 : ∀ (a b : Value) (w : World), (Instr.extract (.tuple #[a, b]) 0).run Tryz.prog w = .ok a w := fun _ _ _ => by kernel_rfl
  have ex1 : ∀ (a b : Value) (w : World), (Instr.extract (.tuple #[a, b]) 1).run Tryz.prog w = .ok b w := fun _ _ _ => by kernel_rfl
  obtain ⟨w1, hw1, z0, z1, hb1, hz1⟩ := box2 w (.int .i64 x) (.int .i64 y) 26
  have Q : ∀ {W : World}, Below w1.heap.size w1 W → W.cell? ⟨w.heap.size, 0, none⟩ = some (.int .i64 x) ∧ W.cell? ⟨w.heap.size, 1, none⟩ = some (.int .i64 y) := fun hb => ⟨(hb.cell (p := ⟨w.heap.size, 0, none⟩) hz1).trans z0, (hb.cell (p := ⟨w.heap.size, 1, none⟩) hz1).trans z1⟩
  have HW1 := Lib.hid hw1
  have HLL := Lib.hid hL
  have HO := Lib.hid hO
  have fin : ∀ {W : World}, Below w1.heap.size w1 W → Below w.heap.size w W := fun hb => hb1.trans (hb.mono hb1.size)
  have BW := Below.refl w1.heap.size w1
  have HN := Lib.hid hN
  have HK := Lib.hid hk
  have HM := Lib.hid hm
  have HV := Lib.hid hv
  have HS := Lib.hid hS
  have HKE := Lib.hid hK
  have hlm : l.length ≤ 4098 := by omega
  have HE := Lib.hid ((netE_zero l).2 ⟨by omega, hN⟩)
  have HKL := Lib.hid (show ks.length ≤ 10000 by rw [← hk]; have := knotsL_le l; omega)
  have HML := Lib.hid (show ms.length ≤ 10000 by rw [← hm, meshK_length]; have := meshL_le l l.length; rw [List.take_length] at this; omega)
  have q5 := eqFive n0 n1 n2 n3 n4
  have hk0 : (KE != 0) = true := by rw [bne_iff_ne]; exact hne
  have hk1 : (KE == 0) = false := by rw [beq_eq_false_iff_ne]; exact hne
  have HNE := Lib.hid hne
  clear hne
  clear hN hk hm hv hS hK
  clear hw1 hL hO z0 z1
  go_enter Tryz.func6, Tryz.ntmps6
  go_wp2_with fail
  rw [← HW1.out]
  go_wp2_with fail
  refine (awake1 _ (HLL.out.below (fin BW) HLL.out.lt)).mono ?_
  rintro e w11 ⟨rfl, hb11⟩
  replace BW := hbT BW hb11
  clear hb11
  go_wp2_with fail
  refine (HS.out _).mono ?_
  rintro e w12 ⟨rfl, rfl⟩
  go_wp2_with fail
  refine (lwCopied A c l _ hlm (HO.out.below (fin BW))).mono ?_
  rintro e w13 ⟨a13, c13, rfl, o13, hb13⟩
  replace BW := hbT BW hb13
  have O13 := Lib.hid o13
  clear o13 hb13
  go_wp2_with fail
  refine (knotsN a13 c13 l ks _ HK.out (by omega) HN.out O13.out).mono ?_
  rintro e w14 ⟨a14, c14, rfl, o14, hb14⟩
  replace BW := hbT BW hb14
  replace O13 := Lib.hid (O13.out.below hb14)
  have O14 := Lib.hid o14
  clear o14 hb14
  clear O13
  go_wp2_with fail
  refine wp_region_held_drew (S := (fun w' => Below w14.heap.size w14 w')) (by kernel_rfl) ?_ (fun hHeld => ?_)
  · exact below_drew (Below.refl _ _)
  refine wpAnyH_take (i := 0) (oi := _) (v := ?vg10) rfl (by kernel_rfl) (by kernel_rfl) (by kernel_rfl) (fun _ _ _ h => h) (Or.inl ⟨by rfl, ?hyg10⟩) (by assumption) ?restg10
  case hyg10 => (intro w hSw; (try dsimp only at hSw); go_simp; first | done | rfl)
  try simp only [layA]
  refine wpAnyH_take (i := 2) (oi := _) (v := ?vg12) rfl (by kernel_rfl) (by kernel_rfl) (by kernel_rfl) (fun _ _ _ h => h) (Or.inl ⟨by rfl, ?hyg12⟩) (by assumption) ?restg12
  case hyg12 => (intro w hSw; (try dsimp only at hSw); obtain ⟨s0, s1⟩ := Q (hbT BW hSw); go_simp; first | done | rfl)
  try simp only [layA]
  refine wpAnyH_ready (rs := [1]) (by kernel_rfl) (by simp) ?_
  refine AllReadyH.cons (o := _) rfl (fun K hK => ?_) AllReadyH.nil
  simp only [layG]
  go_simp
  go_at_call 21
  refine (lwCopied A c l _ hlm (HO.out.below (fin (hbT BW (by assumption))))).mono ?_
  rintro e w' ⟨ax, cx, rfl, ox, hbq⟩
  refine hK.out _ _ (hbT (by assumption) hbq) (fun hHeld => ?_)
  clear hK K
  try simp only [layA]
  refine wpAnyH_ready (rs := [3]) (by kernel_rfl) (by simp) ?_
  refine AllReadyH.cons (o := _) rfl (fun K hK => ?_) AllReadyH.nil
  simp only [layG]
  go_simp
  go_at_call 42
  refine (netDegreeBad ax cx l x y 0 KE KE _ ox HE.out HKE.out (by simp [firstE]; exact fun h => h.symm) HNE.out).mono ?_
  rintro e w15 ⟨rfl, hbq⟩
  refine hK.out _ _ (hbT (by assumption) hbq) (fun hHeld => ?_)
  clear hK K
  try simp only [layA]
  refine wpAnyH_take (i := 4) (oi := _) (v := ?vg14) rfl (by kernel_rfl) (by kernel_rfl) (by kernel_rfl) (fun _ _ _ h => h) (Or.inl ⟨by rfl, ?hyg14⟩) (by assumption) ?restg14
  case hyg14 => (intro w hSw; (try dsimp only at hSw); go_simp; first | done | rfl)
  try simp only [layA]
  refine wpAnyH_take (i := 5) (oi := _) (v := ?vg15) rfl (by kernel_rfl) (by kernel_rfl) (by kernel_rfl) (fun _ _ _ h => h) (Or.inl ⟨by rfl, ?hyg15⟩) (by assumption) ?restg15
  case hyg15 => (intro w hSw; (try dsimp only at hSw); go_simp; first | done | rfl)
  try simp only [layA]
  refine wpAnyH_take (i := 6) (oi := _) (v := ?vg16) rfl (by kernel_rfl) (by kernel_rfl) (by kernel_rfl) (fun _ _ _ h => h) (Or.inl ⟨by rfl, ?hyg16⟩) (by assumption) ?restg16
  case hyg16 => (intro w hSw; (try dsimp only at hSw); go_simp; first | done | rfl)
  try simp only [layA]
  refine wpAnyH_take (i := 7) (oi := _) (v := ?vg17) rfl (by kernel_rfl) (by kernel_rfl) (by kernel_rfl) (fun _ _ _ h => h) (Or.inl ⟨by rfl, ?hyg17⟩) (by assumption) ?restg17
  case hyg17 => (intro w hSw; (try dsimp only at hSw); go_simp; first | done | rfl)
  try simp only [layA]
  refine wpAnyH_take (i := 8) (oi := _) (v := ?vg18) rfl (by kernel_rfl) (by kernel_rfl) (by kernel_rfl) (fun _ _ _ h => h) (Or.inl ⟨by rfl, ?hyg18⟩) (by assumption) ?restg18
  case hyg18 => (intro w hSw; (try dsimp only at hSw); go_simp; first | done | rfl)
  try simp only [layA]
  refine wpAnyH_done (by kernel_rfl) ?_ _
  replace BW := hbT BW hHeld
  replace O14 := Lib.hid (O14.out.below hHeld)
  clear ox
  go_wp2_with fail
  refine (lwCopied A c l _ hlm (HO.out.below (fin BW))).mono ?_
  rintro e w16 ⟨a16, c16, rfl, o16, hb16⟩
  replace BW := hbT BW hb16
  replace O14 := Lib.hid (O14.out.below hb16)
  have O16 := Lib.hid o16
  clear o16 hb16
  go_wp2_with fail
  refine (legsN a16 c16 l _ n0 n1 n2 n3 n4 HV.out (by omega) HN.out O16.out).mono ?_
  rintro e w17 ⟨rfl, hb17⟩
  replace BW := hbT BW hb17
  replace O14 := Lib.hid (O14.out.below hb17)
  replace O16 := Lib.hid (O16.out.below hb17)
  clear hb17
  clear O16
  go_wp2_with fail
  obtain ⟨w18, hw, LG, hbq, LZ⟩ := box5H w17 (.int .i64 n0) (.int .i64 n1) (.int .i64 n2) (.int .i64 n3) (.int .i64 n4) 67
  rw [← hw]
  have LF := Lib.hid (show Five w18 w17.heap.size #[.int .i64 n0, .int .i64 n1, .int .i64 n2, .int .i64 n3, .int .i64 n4] from ⟨by omega, LG⟩)
  replace BW := hbT BW hbq
  replace O14 := Lib.hid (O14.out.below hbq)
  clear hw LZ LG hbq
  generalize w17.heap.size = BL at *
  go_wp2_with fail
  refine (lwCopied A c l _ hlm (HO.out.below (fin BW))).mono ?_
  rintro e w19 ⟨a19, c19, rfl, o19, hb19⟩
  replace BW := hbT BW hb19
  replace O14 := Lib.hid (O14.out.below hb19)
  replace LF := Lib.hid (LF.out.below hb19)
  have O19 := Lib.hid o19
  clear o19 hb19
  go_wp2_with fail
  refine (meshesN a19 c19 l ms _ HM.out (by omega) HN.out O19.out).mono ?_
  rintro e w20 ⟨a20, c20, rfl, o20, hb20⟩
  replace BW := hbT BW hb20
  replace O14 := Lib.hid (O14.out.below hb20)
  replace LF := Lib.hid (LF.out.below hb20)
  replace O19 := Lib.hid (O19.out.below hb20)
  have O20 := Lib.hid o20
  clear o20 hb20
  clear O19
  go_wp2_with fail
  refine (refCheckNetA A c l _ (HO.out.below (fin BW))).mono ?_
  rintro e w21 ⟨rfl, hb21⟩
  rw [HE.out]
  replace BW := hbT BW hb21
  replace O14 := Lib.hid (O14.out.below hb21)
  replace LF := Lib.hid (LF.out.below hb21)
  replace O20 := Lib.hid (O20.out.below hb21)
  clear hb21
  obtain ⟨s0, s1⟩ := Q BW
  go_wp2_with fail
  refine (refCheckKnot x y _).mono ?_
  rintro e w22 ⟨rfl, hb22⟩
  rw [HKE.out]
  replace BW := hbT BW hb22
  replace O14 := Lib.hid (O14.out.below hb22)
  replace LF := Lib.hid (LF.out.below hb22)
  replace O20 := Lib.hid (O20.out.below hb22)
  clear hb22
  clear s0 s1
  go_wp2_with fail
  refine wp_region_held_drew (S := (fun w' => Below w22.heap.size w22 w')) (by kernel_rfl) ?_ (fun hHeld => ?_)
  · exact below_drew (Below.refl _ _)
  refine wpAnyH_take (i := 0) (oi := _) (v := ?ve0) rfl (by kernel_rfl) (by kernel_rfl) (by kernel_rfl) (fun _ _ _ h => h) (Or.inl ⟨by rfl, ?hye0⟩) (by assumption) ?reste0
  case hye0 => (intro w hSw; (try dsimp only at hSw); go_simp; first | done | rfl)
  try simp only [layA]
  refine wpAnyH_take (i := 1) (oi := _) (v := ?ve1) rfl (by kernel_rfl) (by kernel_rfl) (by kernel_rfl) (fun _ _ _ h => h) (Or.inl ⟨by rfl, ?hye1⟩) (by assumption) ?reste1
  case hye1 => (intro w hSw; (try dsimp only at hSw); go_simp; first | done | rfl)
  try simp only [layA]
  refine wpAnyH_take (i := 2) (oi := _) (v := ?ve2) rfl (by kernel_rfl) (by kernel_rfl) (by kernel_rfl) (fun _ _ _ h => h) (Or.inl ⟨by rfl, ?hye2⟩) (by assumption) ?reste2
  case hye2 => (intro w hSw; (try dsimp only at hSw); go_simp; first | done | rfl)
  try simp only [layA]
  refine wpAnyH_take (i := 3) (oi := _) (v := ?ve3) rfl (by kernel_rfl) (by kernel_rfl) (by kernel_rfl) (fun _ _ _ h => h) (Or.inl ⟨by rfl, ?hye3⟩) (by assumption) ?reste3
  case hye3 => (intro w hSw; (try dsimp only at hSw); go_simp; first | done | rfl)
  try simp only [layA]
  refine wpAnyH_take (i := 4) (oi := _) (v := ?ve4) rfl (by kernel_rfl) (by kernel_rfl) (by kernel_rfl) (fun _ _ _ h => h) (Or.inl ⟨by rfl, ?hye4⟩) (by assumption) ?reste4
  case hye4 => (intro w hSw; (try dsimp only at hSw); go_simp; first | done | rfl)
  try simp only [layA]
  refine wpAnyH_take (i := 5) (oi := _) (v := ?ve5) rfl (by kernel_rfl) (by kernel_rfl) (by kernel_rfl) (fun _ _ _ h => h) (Or.inl ⟨by rfl, ?hye5⟩) (by assumption) ?reste5
  case hye5 => (intro w hSw; (try dsimp only at hSw); go_simp; first | done | rfl)
  try simp only [layA]
  refine wpAnyH_take (i := 6) (oi := _) (v := ?ve6) rfl (by kernel_rfl) (by kernel_rfl) (by kernel_rfl) (fun _ _ _ h => h) (Or.inl ⟨by rfl, ?hye6⟩) (by assumption) ?reste6
  case hye6 => (intro w hSw; (try dsimp only at hSw); go_simp; first | done | rfl)
  try simp only [layA]
  refine wpAnyH_take (i := 7) (oi := _) (v := ?ve7) rfl (by kernel_rfl) (by kernel_rfl) (by kernel_rfl) (fun _ _ _ h => h) (Or.inl ⟨by rfl, ?hye7⟩) (by assumption) ?reste7
  case hye7 => (intro w hSw; (try dsimp only at hSw); go_simp; first | done | rfl)
  try simp only [layA]
  refine wpAnyH_take (i := 8) (oi := _) (v := ?ve8) rfl (by kernel_rfl) (by kernel_rfl) (by kernel_rfl) (fun _ _ _ h => h) (Or.inl ⟨by rfl, ?hye8⟩) (by assumption) ?reste8
  case hye8 => (intro w hSw; (try dsimp only at hSw); go_simp; first | done | rfl)
  try simp only [layA]
  refine wpAnyH_ready (rs := [9]) (by kernel_rfl) (by simp) ?_
  refine AllReadyH.cons (o := _) rfl (fun K hK => ?_) AllReadyH.nil
  simp only [layG]
  rw [if_pos (by rfl)]
  go_simp
  go_at_call 47
  refine (knotsR A c l ks _ HK.out (by omega) HN.out (HO.out.below (fin (hbT BW (by assumption))))).mono ?_
  rintro e wa ⟨ak, ck, rfl, ok, hbq⟩
  refine hK.out _ _ (hbT (by assumption) hbq) (fun hHeld => ?_)
  clear hK K
  try simp only [layA]
  refine wpAnyH_ready (rs := [10]) (by kernel_rfl) (by simp) ?_
  refine AllReadyH.cons (o := _) rfl (fun K hK => ?_) AllReadyH.nil
  simp only [layG]
  rw [if_pos (by rfl)]
  go_simp
  go_at_call 46
  refine (refSameKnots a14 ak c14 ck ks _ HKL.out (O14.out.below hHeld).2.2 ok.2.2).mono ?_
  clear ok
  rintro e wb ⟨rfl, hbq⟩
  refine hK.out _ _ (hbT (by assumption) hbq) (fun hHeld => ?_)
  clear hK K
  try simp only [layA]
  refine wpAnyH_take (i := 11) (oi := _) (v := ?ve11) rfl (by kernel_rfl) (by kernel_rfl) (by kernel_rfl) (fun _ _ _ h => h) (Or.inl ⟨by rfl, ?hye11⟩) (by assumption) ?reste11
  case hye11 => (intro w hSw; (try dsimp only at hSw); go_simp; first | done | rfl)
  try simp only [layA]
  refine wpAnyH_take (i := 12) (oi := _) (v := ?ve12) rfl (by kernel_rfl) (by kernel_rfl) (by kernel_rfl) (fun _ _ _ h => h) (Or.inl ⟨by rfl, ?hye12⟩) (by assumption) ?reste12
  case hye12 => (intro w hSw; (try dsimp only at hSw); go_simp; first | done | rfl)
  try simp only [layA]
  refine wpAnyH_take (i := 13) (oi := _) (v := ?ve13) rfl (by kernel_rfl) (by kernel_rfl) (by kernel_rfl) (fun _ _ _ h => h) (Or.inl ⟨by rfl, ?hye13⟩) (by assumption) ?reste13
  case hye13 => (intro w hSw; (try dsimp only at hSw); obtain ⟨t0, t1, t2, t3, t4⟩ := (LF.out.below hSw).at5; go_simp; first | done | rfl)
  try simp only [layA]
  refine wpAnyH_take (i := 14) (oi := _) (v := ?ve14) rfl (by kernel_rfl) (by kernel_rfl) (by kernel_rfl) (fun _ _ _ h => h) (Or.inl ⟨by rfl, ?hye14⟩) (by assumption) ?reste14
  case hye14 => (intro w hSw; (try dsimp only at hSw); go_simp; first | done | rfl)
  try simp only [layA]
  refine wpAnyH_ready (rs := [15]) (by kernel_rfl) (by simp) ?_
  refine AllReadyH.cons (o := _) rfl (fun K hK => ?_) AllReadyH.nil
  simp only [layG]
  rw [if_pos (by rfl)]
  go_simp
  go_at_call 48
  refine (legsR A c l _ n0 n1 n2 n3 n4 HV.out (by omega) HN.out (HO.out.below (fin (hbT BW (by assumption))))).mono ?_
  rintro e wc ⟨rfl, hbq⟩
  refine hK.out _ _ (hbT (by assumption) hbq) (fun hHeld => ?_)
  clear hK K
  try simp only [layA]
  refine wpAnyH_take (i := 16) (oi := _) (v := ?ve16) rfl (by kernel_rfl) (by kernel_rfl) (by kernel_rfl) (fun _ _ _ h => h) (Or.inl ⟨by rfl, ?hye16⟩) (by assumption) ?reste16
  case hye16 => (intro w hSw; (try dsimp only at hSw); go_simp; first | done | rfl)
  try simp only [layA]
  refine wpAnyH_take (i := 17) (oi := _) (v := ?ve17) rfl (by kernel_rfl) (by kernel_rfl) (by kernel_rfl) (fun _ _ _ h => h) (Or.inl ⟨by rfl, ?hye17⟩) (by assumption) ?reste17
  case hye17 => (intro w hSw; (try dsimp only at hSw); go_simp; first | done | rfl)
  try simp only [layA]
  refine wpAnyH_take (i := 18) (oi := _) (v := ?ve18) rfl (by kernel_rfl) (by kernel_rfl) (by kernel_rfl) (fun _ _ _ h => h) (Or.inl ⟨by rfl, ?hye18⟩) (by assumption) ?reste18
  case hye18 => (intro w hSw; (try dsimp only at hSw); go_simp; first | done | rfl)
  try simp only [layA]
  refine wpAnyH_take (i := 19) (oi := _) (v := ?ve19) rfl (by kernel_rfl) (by kernel_rfl) (by kernel_rfl) (fun _ _ _ h => h) (Or.inl ⟨by rfl, ?hye19⟩) (by assumption) ?reste19
  case hye19 => (intro w hSw; (try dsimp only at hSw); go_simp; first | done | rfl)
  try simp only [layA]
  refine wpAnyH_take (i := 21) (oi := _) (v := ?ve21) rfl (by kernel_rfl) (by kernel_rfl) (by kernel_rfl) (fun _ _ _ h => h) (Or.inl ⟨by rfl, ?hye21⟩) (by assumption) ?reste21
  case hye21 => (intro w hSw; (try dsimp only at hSw); go_simp; first | done | rfl)
  try simp only [layA]
  refine wpAnyH_ready (rs := [20]) (by kernel_rfl) (by simp) ?_
  refine AllReadyH.cons (o := _) rfl (fun K hK => ?_) AllReadyH.nil
  simp only [layG]
  rw [if_pos (by rfl)]
  go_simp
  go_at_call 50
  refine (meshesW a20 c20 ms _ HML.out (O20.out.below hHeld)).mono ?_
  rintro e wd ⟨am, cm, rfl, om, hbq⟩
  refine hK.out _ _ (hbT (by assumption) hbq) (fun hHeld => ?_)
  clear hK K
  try simp only [layA]
  refine wpAnyH_ready (rs := [22]) (by kernel_rfl) (by simp) ?_
  refine AllReadyH.cons (o := _) rfl (fun K hK => ?_) AllReadyH.nil
  simp only [layG]
  rw [if_pos (by rfl)]
  go_simp
  go_at_call 51
  refine (meshesR A c l ms _ HM.out (by omega) HN.out (HO.out.below (fin (hbT BW (by assumption))))).mono ?_
  rintro e we ⟨an, cn, rfl, on2, hbq⟩
  replace om := om.below hbq
  refine hK.out _ _ (hbT (by assumption) hbq) (fun hHeld => ?_)
  clear hK K
  try simp only [layA]
  refine wpAnyH_ready (rs := [23]) (by kernel_rfl) (by simp) ?_
  refine AllReadyH.cons (o := _) rfl (fun K hK => ?_) AllReadyH.nil
  simp only [layG]
  rw [if_pos (by rfl)]
  go_simp
  go_at_call 49
  refine (lwSameMeshes am an cm cn ms _ HML.out om.2.2 on2.2.2).mono ?_
  clear om on2
  rintro e wf ⟨rfl, hbq⟩
  refine hK.out _ _ (hbT (by assumption) hbq) (fun hHeld => ?_)
  clear hK K
  try simp only [layA]
  refine wpAnyH_take (i := 24) (oi := _) (v := ?ve24) rfl (by kernel_rfl) (by kernel_rfl) (by kernel_rfl) (fun _ _ _ h => h) (Or.inl ⟨by rfl, ?hye24⟩) (by assumption) ?reste24
  case hye24 => (intro w hSw; (try dsimp only at hSw); go_simp; first | done | rfl)
  try simp only [layA]
  refine wpAnyH_take (i := 25) (oi := _) (v := ?ve25) rfl (by kernel_rfl) (by kernel_rfl) (by kernel_rfl) (fun _ _ _ h => h) (Or.inl ⟨by rfl, ?hye25⟩) (by assumption) ?reste25
  case hye25 => (intro w hSw; (try dsimp only at hSw); go_simp; first | done | rfl)
  try simp only [layA]
  refine wpAnyH_done (by kernel_rfl) ?_ _
  go_wp2
  go_ret
  exact ⟨rfl, fin (hbT BW hHeld)⟩
theorem lawKnots (A : Option Addr) (c : Nat) (l : List Bar) (x y : Int) (w : World) (hL : LaidLen w) (hO : OKS w A c l) :
    Calls Tryz.prog 6 #[.slice A l.length c, .agg #[.int .i64 x, .int .i64 y]] w fun e w' => e = .returned (.bool true) ∧ Below w.heap.size w w' := by
  have hk : l.length ≤ maxLen := Nat.le_trans hO.1 hO.2.1
  by_cases hs : (l.length : Int) ≤ 40 ∨ (4096 < (l.length : Int) ∧ (l.length : Int) ≤ 4098)
  · have hS : ∀ W : World, Calls Tryz.prog 16 #[.slice A l.length c, .int .i64 40] W fun e w' => e = .returned (.bool true) ∧ W = w' := fun W => refShortOk A c _ 40 W hk hs
    by_cases hE : netE l = 0
    · obtain ⟨hl, hN⟩ := (netE_zero l).1 hE
      have h40 : l.length ≤ 40 := by omega
      by_cases hK : knotE x y = 0
      · exact lawKnO A c l x y w hL hO hS h40 hN _ _ _ _ _ _ _ rfl rfl rfl _ rfl hK
      · exact lawKnK A c l x y w hL hO hS h40 hN _ _ _ _ _ _ _ rfl rfl rfl _ rfl hK
    · exact lawKnB A c l x y w hL hO hS (by omega) _ _ rfl hE rfl
  · exact lawKnL A c l x y w hL hO (fun W => refShortNo A c _ 40 W hk hs)
end Go.Proofs.YtdeplhihcifmeaaGreatDoor

/- A knot as an argument. -/
namespace Go.Proofs.YtdeplhihcifmeaaGreatDoor
open Go.ChangeShapes Go.WideShapes Go.ChangeAt Go.WideMaps Go.WideElems Go.RowKit

set_option maxRecDepth 100000 in
theorem open_knot {w : World} {r : Reach} {b0 : Nat} {v : Value} (h : Value.okWide Tryz.prog w r b0 26 v) : ∃ x y, v = .agg #[.int .i64 x, .int .i64 y] := by
  have hS : Tryz.prog.underlying 26 = some (.struct (Tryz.prog.fieldsOf 26)) := by kernel_rfl
  have hC : Tryz.prog.cellsOf 26 = 2 := by kernel_rfl
  simp only [Value.okWide, hS] at h
  obtain ⟨cs, rfl, hsz, hr⟩ := h
  rw [hC] at hsz
  obtain ⟨ts, hts, -, hrow⟩ := hr
  have ht : Tryz.prog.cellTypes Tryz.prog.depth 26 = some [3, 3] := by kernel_rfl
  rw [ht] at hts
  cases hts
  obtain ⟨l⟩ := cs
  match l, hsz with
  | [c0, c1], _ =>
    obtain ⟨u0, hu0, h0⟩ := hrow 0 c0 rfl
    obtain ⟨u1, hu1, h1⟩ := hrow 1 c1 rfl
    simp at hu0 hu1
    subst hu0 hu1
    obtain ⟨a, rfl, -⟩ := cell_intT Tryz.underlying3 h0
    obtain ⟨b, rfl, -⟩ := cell_intT Tryz.underlying3 h1
    exact ⟨a, b, rfl⟩
end Go.Proofs.YtdeplhihcifmeaaGreatDoor

/- An argument that is a list of bars, opened. -/
namespace Go.Proofs.YtdeplhihcifmeaaGreatDoor
open Go.ChangeShapes Go.WideShapes Go.ChangeAt Go.RowKit Go.Deep

variable {H : Type} {enc : TypeId × Value → H} {w : World} {spare : Nat → Bool} {held : Bool}
set_option maxRecDepth 100000 in
theorem bar_cells {n : Nat} {cs : List Value} {x : DataW H × List MemPlace} (h : DataW.trod enc Tryz.prog w 0 spare held n 24 cs = some x) : ∃ b : Ck.Bar, cs = bcells b := by
  obtain ⟨xs, m, _, _, hl, hx, hf⟩ := DataW.trod_struct Tryz.underlying24 h
  have hC : Tryz.prog.cellsOf 24 = 3 := by kernel_rfl
  have c3 : Tryz.prog.cellsOf 3 = 1 := by kernel_rfl
  rw [hC] at hl
  match cs, hl, xs, hx with
  | [c0, c1, c2], _, [x0, x1, x2], _ =>
    have h0 := hf 0 _ rfl
    have h1 := hf 1 _ rfl
    have h2 := hf 2 _ rfl
    simp [c3] at h0 h1 h2
    obtain ⟨n0, e0, _⟩ := DataW.trod_int Tryz.underlying3 h0
    obtain ⟨n1, e1, _⟩ := DataW.trod_int Tryz.underlying3 h1
    obtain ⟨n2, e2, _⟩ := DataW.trod_int Tryz.underlying3 h2
    simp only [List.cons.injEq, and_true] at e0 e1 e2
    exact ⟨⟨n0, n1, n2⟩, by rw [e0, e1, e2]; rfl⟩
set_option maxRecDepth 100000 in
/-- The argument is nil, or a slice that reads as bars. -/
theorem open_bars {v : Value} {d : DataW H} {p : List MemPlace} {r : Reach} {b0 : Nat} (hv : Value.okWide Tryz.prog w r b0 22 v) (h : DataW.Trod enc Tryz.prog w 0 spare held 22 v d p) (_ : ∀ x ∈ p, x.block < w.heap.size) :
    ∃ (A : Option Addr) (c : Nat) (l : List Ck.Bar), v = .slice A l.length c ∧ (A = none → c = 0) ∧ l.length ≤ c ∧ c ≤ maxLen ∧ RB w w.heap.size A l := by
  obtain ⟨a, len, cap, rfl⟩ := okWide_slice Tryz.underlying22 hv
  obtain ⟨fuel, hf⟩ := h
  have hC : Tryz.prog.cellsOf 24 = 3 := by kernel_rfl
  rcases open_slice Tryz.underlying22 hf with ⟨hcs, _⟩ | ⟨a', len', cap', m, n, D, Pl, hcs, hb, hl, hm, hmm, hx, hi⟩
  · simp [Value.cells] at hcs
    obtain ⟨rfl, rfl, rfl⟩ := hcs
    exact ⟨none, 0, [], rfl, fun _ => rfl, Nat.zero_le _, by unfold maxLen; omega, fun h => by simp at h⟩
  · simp [Value.cells] at hcs
    obtain ⟨rfl, rfl, rfl⟩ := hcs
    rw [hC] at hi hx
    have hle : len ≤ m := by rw [hmm]; split <;> omega
    have each : ∀ i, ∃ b : Ck.Bar, i < len → w.cell? (a'.add (i * 3)) = some (.int .i64 b.x) ∧ w.cell? ((a'.add (i * 3)).add 1) = some (.int .i64 b.y) ∧ w.cell? ((a'.add (i * 3)).add 2) = some (.int .i64 b.s) := fun i => by
      by_cases hi' : i < len
      · obtain ⟨cs', h1, h2⟩ := hi i (by omega)
        obtain ⟨b, rfl⟩ := bar_cells h2
        obtain ⟨_, _, h3⟩ := World.cells?_some h1
        exact ⟨b, fun _ => ⟨h3 0 (by omega), h3 1 (by omega), h3 2 (by omega)⟩⟩
      · exact ⟨⟨0, 0, 0⟩, fun h => absurd h hi'⟩
    obtain ⟨f, hf'⟩ := Classical.axiomOfChoice each
    have hlen : ((List.range len).map f).length = len := by simp
    refine ⟨some a', cap, (List.range len).map f, by rw [hlen], (fun h => by cases h), by rw [hlen]; exact hl, hm, fun hpos => ?_⟩
    rw [hlen] at hpos
    obtain ⟨blk, off, spot⟩ := a'
    have h0 := (hf' 0 hpos).1
    have hspot : spot = none := by
      cases spot with
      | none => rfl
      | some s =>
        simp [Addr.add, World.cell?] at h0
        split at h0 <;> simp at h0
    subst hspot
    have hadd : ∀ k, (⟨blk, off, none⟩ : Addr).add k = ⟨blk, off + k, none⟩ := fun k => by
      unfold Addr.add
      split
      · simp
      · rfl
    have hblk : blk < w.heap.size := by
      rw [hadd] at h0
      unfold World.cell? at h0
      cases hh : w.heap[blk]? with
      | none => simp [hh] at h0
      | some o => exact (Array.getElem?_eq_some_iff.1 hh).1
    refine ⟨blk, off, rfl, hblk, fun i hi' => ?_⟩
    rw [hlen] at hi'
    obtain ⟨k0, k1, k2⟩ := hf' i hi'
    rw [hadd] at k0 k1 k2
    have hadd2 : ∀ k j, (⟨blk, k, none⟩ : Addr).add j = ⟨blk, k + j, none⟩ := fun k j => by
      unfold Addr.add
      split
      · simp
      · rfl
    rw [hadd2] at k1 k2
    have hg : ((List.range len).map f)[i]'(by simpa using hi') = f i := by simp
    rw [hg]
    exact ⟨k0, k1, k2⟩
end Go.Proofs.YtdeplhihcifmeaaGreatDoor
