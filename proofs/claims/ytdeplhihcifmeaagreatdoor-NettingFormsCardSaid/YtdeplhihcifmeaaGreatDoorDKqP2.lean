/- Helpers: DKqP2. -/
import Derived.Test.YtdeplhihcifmeaaGreatDoorDKqP1
import Derived.Deep.RegionHeld3
import Derived.ProofKit
import Derived.Deep.Slices
import Derived.Deep.Fields
/- The reference's Mirror, Between and Turned. -/
namespace Go.Proofs.YtdeplhihcifmeaaGreatDoor
open Go.RowKit Go.Shelf Ck

theorem keepR {W U w1 w2 : World} {b o : Nat} {x y s : Value} (hz : W.heap.size ≤ U.heap.size) (h : (w1.cell? ⟨b, o, none⟩ = some x ∧ w1.cell? ⟨b, o + 1, none⟩ = some y ∧ w1.cell? ⟨b, o + 2, none⟩ = some s ∧ Below W.heap.size W w1 ∧ b < W.heap.size) ∧ Below U.heap.size U w1) (hb : Below U.heap.size w1 w2) :
    (w2.cell? ⟨b, o, none⟩ = some x ∧ w2.cell? ⟨b, o + 1, none⟩ = some y ∧ w2.cell? ⟨b, o + 2, none⟩ = some s ∧ Below W.heap.size W w2 ∧ b < W.heap.size) ∧ Below U.heap.size U w2 := ⟨keepQ h.1 (hb.mono hz), h.2.trans hb⟩
theorem two_at {w : World} {g : Nat} {a b : Value} {t : TypeId} (h : w.heap[g]? = some (.cells #[a, b] t (0, 0))) : w.cell? ⟨g, 0, none⟩ = some a ∧ w.cell? ⟨g, 1, none⟩ = some b ∧ ∀ i, w.frozen? ⟨g, i, none⟩ = false := by
  refine ⟨?_, ?_, fun i => ?_⟩ <;> simp [World.cell?, World.frozen?, h]
theorem st2 {w : World} {g o base : Nat} {x0 y0 : Value} {t : TypeId} {O : Obj} (x y : Value) (h : w.heap[g]? = some (.cells #[x0, y0] t (0, 0))) (hb : base ≤ g) (ho : w.heap[o]? = some O) (hne : g ≠ o) :
    ∃ w', (w.setCell ⟨g, 0, none⟩ x).setCell ⟨g, 1, none⟩ y = w' ∧ w'.heap[g]? = some (.cells #[x, y] t (0, 0)) ∧ w'.heap[o]? = some O ∧ Below base w w' := by
  obtain ⟨s1, g1⟩ := setBlockAt h 0 x
  obtain ⟨s2, g2⟩ := setBlockAt s1 1 y
  refine ⟨_, rfl, s2, ?_, ((Below.refl _ _).setCell hb _).setCell hb _⟩
  have l0 := (Array.getElem?_eq_some_iff.1 ho).1
  have e1 := g1.block o l0 (by simp; omega)
  have l1 : o < (w.setCell ⟨g, 0, none⟩ x).heap.size := (Array.getElem?_eq_some_iff.1 (e1.trans ho)).1
  exact (g2.block o l1 (by simp; omega)).trans (e1.trans ho)
set_option maxHeartbeats 1000000 in
set_option maxRecDepth 100000 in
theorem refBetweenUp (x y a b : Int) (w : World) (h1 : -1000000 ≤ x) (h2 : x ≤ 1000000) (k1 : -1000000 ≤ a) (k2 : a ≤ 1000000) (hlt : ¬ b < y) :
    Calls Tryz.prog 116 #[.agg #[.int .i64 x, .int .i64 y], .agg #[.int .i64 a, .int .i64 b]] w fun e w' => e = .returned (.agg #[.int .i64 x, .int .i64 y, .int .i64 (a - x)]) ∧ Below w.heap.size w w' := by
  go_enter Tryz.func116, Tryz.ntmps116
  go_wp2
  exact bodyPost_ret (v := .agg #[.int .i64 x, .int .i64 y, .int .i64 (a - x)]) (by simp [results, Tryz.results116, go_sem]) rfl ⟨rfl, by repeat (first | exact Below.refl _ _ | refine Below.setCell ?_ (by first | (simp; done) | (simp; omega)) _ | refine Below.alloc ?_ (by first | (simp; done) | (simp; omega)) _)⟩
set_option maxHeartbeats 1000000 in
set_option maxRecDepth 100000 in
theorem refBetweenDown (x y a b : Int) (w : World) (h1 : -1000000 ≤ x) (h2 : x ≤ 1000000) (k1 : -1000000 ≤ a) (k2 : a ≤ 1000000) (hlt : b < y) :
    Calls Tryz.prog 116 #[.agg #[.int .i64 x, .int .i64 y], .agg #[.int .i64 a, .int .i64 b]] w fun e w' => e = .returned (.agg #[.int .i64 a, .int .i64 b, .int .i64 (x - a)]) ∧ Below w.heap.size w w' := by
  go_enter Tryz.func116, Tryz.ntmps116
  go_wp2
  exact bodyPost_ret (v := .agg #[.int .i64 a, .int .i64 b, .int .i64 (x - a)]) (by simp [results, Tryz.results116, go_sem]) rfl ⟨rfl, by repeat (first | exact Below.refl _ _ | refine Below.setCell ?_ (by first | (simp; done) | (simp; omega)) _ | refine Below.alloc ?_ (by first | (simp; done) | (simp; omega)) _)⟩
theorem refBetweenTurn (c : Ck.Bar) (w : World) (_ : -100000 ≤ c.x) (_ : c.x ≤ 100000) (y1 : -100000 ≤ c.y) (y2 : c.y ≤ 100000) (hs : c.s = 1 ∨ c.s = -1) :
    Calls Tryz.prog 116 #[.agg #[.int .i64 (-c.y), .int .i64 c.x], .agg #[.int .i64 (-(c.y + 1)), .int .i64 (c.x + c.s)]] w fun e w' => e = .returned (.agg #[.int .i64 (turnB c).x, .int .i64 (turnB c).y, .int .i64 (turnB c).s]) ∧ Below w.heap.size w w' := by
  rcases hs with h | h
  · refine (refBetweenUp (-c.y) c.x (-(c.y + 1)) (c.x + c.s) w (by omega) (by omega) (by omega) (by omega) (by omega)).mono fun e w' ⟨he, hb⟩ => ⟨?_, hb⟩
    rw [he, turnB, if_pos h, show -(c.y + 1) - -c.y = -1 by omega]
  · refine (refBetweenDown (-c.y) c.x (-(c.y + 1)) (c.x + c.s) w (by omega) (by omega) (by omega) (by omega) (by omega)).mono fun e w' ⟨he, hb⟩ => ⟨?_, hb⟩
    rw [he, turnB, if_neg (by omega), show -c.y - -(c.y + 1) = 1 by omega, show -(c.y + 1) = -c.y - 1 by omega, show c.x + c.s = c.x - 1 by omega]
set_option maxHeartbeats 8000000 in
set_option maxRecDepth 100000 in
theorem refMirror (A : Option Addr) (c : Nat) (l u : List Ck.Bar) (w : World) (hu : srtL (l.map mirB) = u) (hl : l.length ≤ 4096) (hok : ∀ x ∈ l, okBar x) (h : OKS w A c l) :
    Calls Tryz.prog 69 #[.slice A l.length c] w (SlicePost u w) := by
  obtain ⟨ib, hib, hb0, hb01, hb02⟩ := info_parts Tryz.info24
  have HIB := Lib.hid hib
  have HB0 := Lib.hid hb0
  have HB1 := Lib.hid hb01
  have HB2 := Lib.hid hb02
  have HR := Lib.hid h
  have HU := Lib.hid hu
  have HOK := Lib.hid hok
  have hl' : (l.length : Int) ≤ 4096 := by omega
  clear hib hb0 hb01 hb02 h hu hok
  go_enter Tryz.func69, Tryz.ntmps69
  go_wp2_with fail
  go_loopw [3, 4] (fun v i wr => ∃ j : Nat, j ≤ l.length ∧ i = .int .i64 j ∧ Hid (wr.ownsRow w.heap.size 24 3 v ((l.take j).map mirB).length (bcellsL ((l.take j).map mirB))) ∧ Below w.heap.size w wr) (fun _ i _ => l.length - (intOf i).toNat)
  case atStart => exact ⟨0, Nat.zero_le _, rfl, Lib.hid ⟨rfl, .inl ⟨rfl, rfl⟩⟩, Below.refl _ _⟩
  case round =>
    obtain ⟨j, hj, rfl, hown, hb⟩ := hrel
    have hbz := hb.size
    have hln : ((l.take j).map mirB).length ≤ 4096 := by rw [List.length_map, List.length_take]; omega
    by_cases hlt : j < l.length
    · obtain ⟨b, off, rfl, hB, hc⟩ := (HR.out.2.2.2.below hb) (by omega)
      obtain ⟨d0, d1, d2⟩ := hc j hlt
      obtain ⟨_, _, hA, hbw, _⟩ := HR.out.2.2.2 (by omega)
      cases hA
      have hj1 : (j : Int) < (l.length : Int) := by omega
      have hj0 : (0 : Int) ≤ (j : Int) := by omega
      clear hc
      obtain ⟨k, hk⟩ : ∃ k, l[j] = k := ⟨_, rfl⟩
      have HFY := Lib.hid (show (l.take (j + 1)).map mirB = (l.take j).map mirB ++ [mirB k] by rw [List.take_succ_eq_append_getElem hlt, List.map_append, hk]; rfl)
      have HKO := Lib.hid (show okBar k by rw [← hk]; exact HOK.out _ (List.getElem_mem hlt))
      rw [hk] at d0 d1 d2
      obtain ⟨⟨⟨x1, x2⟩, ⟨y1, y2⟩, -⟩, ks, -, -⟩ := HKO.out
      simp only [Bar.lo] at x1 x2 y1 y2
      have ks1 : -1 ≤ k.s := by omega
      have ks2 : k.s ≤ 1 := by omega
      have hks := Lib.hid ks.symm
      clear hk ks
      generalize (l.take j).map mirB = F at *
      obtain ⟨ao, co, rfl, -, -⟩ := own_slice hown.out
      have m1 : IntKind.i64.wrap (-k.x) = -k.x := by rw [IntKind.wrap_i64]; omega
      have m2 : IntKind.i64.wrap (-k.s) = -k.s := by rw [IntKind.wrap_i64]; omega
      go_wp2_with fail
      refine wp_region_held_drew (S := (fun w' => w'.cell? ⟨b, off + j * 3, none⟩ = some (.int .i64 k.x) ∧ w'.cell? ⟨b, off + j * 3 + 1, none⟩ = some (.int .i64 k.y) ∧ w'.cell? ⟨b, off + j * 3 + 2, none⟩ = some (.int .i64 k.s) ∧ Below w.heap.size w w' ∧ b < w.heap.size)) (by kernel_rfl) ?_ (fun hHeld => ?_)
      · exact ⟨d0, d1, d2, below_drew hb, hbw⟩
      refine wpAnyH_take (i := 0) (oi := _) (v := ?vm0_1) rfl (by kernel_rfl) (by kernel_rfl) (by kernel_rfl) (fun _ _ _ h => h) (Or.inl ⟨by rfl, ?hym0_1⟩) (by assumption) ?restm0_1
      case hym0_1 => (intro w hSw; (try dsimp only at hSw); go_simp; first | done | rfl)
      try simp only [List.getElem_toArray, List.getElem_cons_succ, List.getElem_cons_zero, Act.put, List.setIfInBounds_toArray, List.set_cons_zero, List.set_cons_succ]
      refine wpAnyH_take (i := 1) (oi := _) (v := ?vm1_2) rfl (by kernel_rfl) (by kernel_rfl) (by kernel_rfl) (fun _ _ _ h => h) (Or.inl ⟨by rfl, ?hym1_2⟩) (by assumption) ?restm1_2
      case hym1_2 => (intro w hSw; (try dsimp only at hSw); go_simp; first | done | rfl)
      try simp only [List.getElem_toArray, List.getElem_cons_succ, List.getElem_cons_zero, Act.put, List.setIfInBounds_toArray, List.set_cons_zero, List.set_cons_succ]
      refine wpAnyH_take (i := 2) (oi := _) (v := ?vm2_3) rfl (by kernel_rfl) (by kernel_rfl) (by kernel_rfl) (fun _ _ _ h => h) (Or.inl ⟨by rfl, ?hym2_3⟩) (by assumption) ?restm2_3
      case hym2_3 => (intro w hSw; (try dsimp only at hSw); go_simp; first | done | rfl)
      try simp only [List.getElem_toArray, List.getElem_cons_succ, List.getElem_cons_zero, Act.put, List.setIfInBounds_toArray, List.set_cons_zero, List.set_cons_succ]
      refine wpAnyH_take (i := 3) (oi := _) (v := ?vm3_4) rfl (by kernel_rfl) (by kernel_rfl) (by kernel_rfl) (fun _ _ _ h => h) (Or.inl ⟨by rfl, ?hym3_4⟩) (by assumption) ?restm3_4
      case hym3_4 => (intro w hSw; (try dsimp only at hSw); go_simp; first | done | rfl)
      try simp only [List.getElem_toArray, List.getElem_cons_succ, List.getElem_cons_zero, Act.put, List.setIfInBounds_toArray, List.set_cons_zero, List.set_cons_succ]
      refine wpAnyH_take (i := 4) (oi := _) (v := ?vm4_5) rfl (by kernel_rfl) (by kernel_rfl) (by kernel_rfl) (fun _ _ _ h => h) (Or.inl ⟨by rfl, ?hym4_5⟩) (by assumption) ?restm4_5
      case hym4_5 => (intro w hSw; (try dsimp only at hSw); go_simp; first | done | rfl)
      try simp only [List.getElem_toArray, List.getElem_cons_succ, List.getElem_cons_zero, Act.put, List.setIfInBounds_toArray, List.set_cons_zero, List.set_cons_succ]
      refine wpAnyH_take (i := 5) (oi := _) (v := ?vm5_6) rfl (by kernel_rfl) (by kernel_rfl) (by kernel_rfl) (fun _ _ _ h => h) (Or.inl ⟨by rfl, ?hym5_6⟩) (by assumption) ?restm5_6
      case hym5_6 => (intro w hSw; (try dsimp only at hSw); obtain ⟨e0, e1, e2, -, -⟩ := hSw; go_simp; first | done | rfl)
      try simp only [List.getElem_toArray, List.getElem_cons_succ, List.getElem_cons_zero, Act.put, List.setIfInBounds_toArray, List.set_cons_zero, List.set_cons_succ]
      refine wpAnyH_take (i := 6) (oi := _) (v := ?vm6_7) rfl (by kernel_rfl) (by kernel_rfl) (by kernel_rfl) (fun _ _ _ h => h) (Or.inl ⟨by rfl, ?hym6_7⟩) (by assumption) ?restm6_7
      case hym6_7 => (intro w hSw; (try dsimp only at hSw); go_simp; first | done | rfl)
      try simp only [List.getElem_toArray, List.getElem_cons_succ, List.getElem_cons_zero, Act.put, List.setIfInBounds_toArray, List.set_cons_zero, List.set_cons_succ]
      refine wpAnyH_take (i := 7) (oi := _) (v := ?vm7_8) rfl (by kernel_rfl) (by kernel_rfl) (by kernel_rfl) (fun _ _ _ h => h) (Or.inl ⟨by rfl, ?hym7_8⟩) (by assumption) ?restm7_8
      case hym7_8 => (intro w hSw; (try dsimp only at hSw); go_simp; first | done | rfl)
      try simp only [List.getElem_toArray, List.getElem_cons_succ, List.getElem_cons_zero, Act.put, List.setIfInBounds_toArray, List.set_cons_zero, List.set_cons_succ]
      refine wpAnyH_take (i := 8) (oi := _) (v := ?vm8_9) rfl (by kernel_rfl) (by kernel_rfl) (by kernel_rfl) (fun _ _ _ h => h) (Or.inl ⟨by rfl, ?hym8_9⟩) (by assumption) ?restm8_9
      case hym8_9 => (intro w hSw; (try dsimp only at hSw); go_simp; first | done | rfl)
      try simp only [List.getElem_toArray, List.getElem_cons_succ, List.getElem_cons_zero, Act.put, List.setIfInBounds_toArray, List.set_cons_zero, List.set_cons_succ]
      refine wpAnyH_take (i := 9) (oi := _) (v := ?vm9_10) rfl (by kernel_rfl) (by kernel_rfl) (by kernel_rfl) (fun _ _ _ h => h) (Or.inl ⟨by rfl, ?hym9_10⟩) (by assumption) ?restm9_10
      case hym9_10 => (intro w hSw; (try dsimp only at hSw); go_simp; first | done | rfl)
      try simp only [List.getElem_toArray, List.getElem_cons_succ, List.getElem_cons_zero, Act.put, List.setIfInBounds_toArray, List.set_cons_zero, List.set_cons_succ]
      refine wpAnyH_take (i := 10) (oi := _) (v := ?vm10_11) rfl (by kernel_rfl) (by kernel_rfl) (by kernel_rfl) (fun _ _ _ h => h) (Or.inl ⟨by rfl, ?hym10_11⟩) (by assumption) ?restm10_11
      case hym10_11 => (intro w hSw; (try dsimp only at hSw); go_simp; first | done | rfl)
      try simp only [List.getElem_toArray, List.getElem_cons_succ, List.getElem_cons_zero, Act.put, List.setIfInBounds_toArray, List.set_cons_zero, List.set_cons_succ]
      refine wpAnyH_take (i := 11) (oi := _) (v := ?vm11_12) rfl (by kernel_rfl) (by kernel_rfl) (by kernel_rfl) (fun _ _ _ h => h) (Or.inl ⟨by rfl, ?hym11_12⟩) (by assumption) ?restm11_12
      case hym11_12 => (intro w hSw; (try dsimp only at hSw); obtain ⟨e0, e1, e2, -, -⟩ := hSw; go_simp; first | done | rfl)
      try simp only [List.getElem_toArray, List.getElem_cons_succ, List.getElem_cons_zero, Act.put, List.setIfInBounds_toArray, List.set_cons_zero, List.set_cons_succ]
      refine wpAnyH_take (i := 12) (oi := _) (v := ?vm12_13) rfl (by kernel_rfl) (by kernel_rfl) (by kernel_rfl) (fun _ _ _ h => h) (Or.inl ⟨by rfl, ?hym12_13⟩) (by assumption) ?restm12_13
      case hym12_13 => (intro w hSw; (try dsimp only at hSw); go_simp; first | done | rfl)
      try simp only [List.getElem_toArray, List.getElem_cons_succ, List.getElem_cons_zero, Act.put, List.setIfInBounds_toArray, List.set_cons_zero, List.set_cons_succ]
      refine wpAnyH_take (i := 13) (oi := _) (v := ?vm13_14) rfl (by kernel_rfl) (by kernel_rfl) (by kernel_rfl) (fun _ _ _ h => h) (Or.inl ⟨by rfl, ?hym13_14⟩) (by assumption) ?restm13_14
      case hym13_14 => (intro w hSw; (try dsimp only at hSw); go_simp; first | done | rfl)
      try simp only [List.getElem_toArray, List.getElem_cons_succ, List.getElem_cons_zero, Act.put, List.setIfInBounds_toArray, List.set_cons_zero, List.set_cons_succ]
      refine wpAnyH_take (i := 14) (oi := _) (v := ?vm14_15) rfl (by kernel_rfl) (by kernel_rfl) (by kernel_rfl) (fun _ _ _ h => h) (Or.inl ⟨by rfl, ?hym14_15⟩) (by assumption) ?restm14_15
      case hym14_15 => (intro w hSw; (try dsimp only at hSw); go_simp; first | done | rfl)
      try simp only [List.getElem_toArray, List.getElem_cons_succ, List.getElem_cons_zero, Act.put, List.setIfInBounds_toArray, List.set_cons_zero, List.set_cons_succ]
      refine wpAnyH_take (i := 15) (oi := _) (v := ?vm15_16) rfl (by kernel_rfl) (by kernel_rfl) (by kernel_rfl) (fun _ _ _ h => h) (Or.inl ⟨by rfl, ?hym15_16⟩) (by assumption) ?restm15_16
      case hym15_16 => (intro w hSw; (try dsimp only at hSw); go_simp; first | done | rfl)
      try simp only [List.getElem_toArray, List.getElem_cons_succ, List.getElem_cons_zero, Act.put, List.setIfInBounds_toArray, List.set_cons_zero, List.set_cons_succ]
      refine wpAnyH_take (i := 16) (oi := _) (v := ?vm16_17) rfl (by kernel_rfl) (by kernel_rfl) (by kernel_rfl) (fun _ _ _ h => h) (Or.inl ⟨by rfl, ?hym16_17⟩) (by assumption) ?restm16_17
      case hym16_17 => (intro w hSw; (try dsimp only at hSw); obtain ⟨e0, e1, e2, -, -⟩ := hSw; go_simp; first | done | rfl)
      try simp only [List.getElem_toArray, List.getElem_cons_succ, List.getElem_cons_zero, Act.put, List.setIfInBounds_toArray, List.set_cons_zero, List.set_cons_succ]
      refine wpAnyH_take (i := 17) (oi := _) (v := ?vm17_18) rfl (by kernel_rfl) (by kernel_rfl) (by kernel_rfl) (fun _ _ _ h => h) (Or.inl ⟨by rfl, ?hym17_18⟩) (by assumption) ?restm17_18
      case hym17_18 => (intro w hSw; (try dsimp only at hSw); go_simp; first | done | rfl)
      try simp only [List.getElem_toArray, List.getElem_cons_succ, List.getElem_cons_zero, Act.put, List.setIfInBounds_toArray, List.set_cons_zero, List.set_cons_succ]
      refine wpAnyH_take (i := 18) (oi := _) (v := ?vm18_19) rfl (by kernel_rfl) (by kernel_rfl) (by kernel_rfl) (fun _ _ _ h => h) (Or.inl ⟨by rfl, ?hym18_19⟩) (by assumption) ?restm18_19
      case hym18_19 => (intro w hSw; (try dsimp only at hSw); go_simp; first | done | rfl)
      try simp only [List.getElem_toArray, List.getElem_cons_succ, List.getElem_cons_zero, Act.put, List.setIfInBounds_toArray, List.set_cons_zero, List.set_cons_succ]
      refine wpAnyH_ready (rs := [19]) (by kernel_rfl) (by simp) ?_
      refine (AllReadyH.cons (o := _) rfl (fun K hK => ?rm19_20) AllReadyH.nil)
      case rm19_20 =>
        simp only [List.getElem_toArray, List.getElem_cons_succ, List.getElem_cons_zero]
        go_simp
        have hbz9 := (belQ hHeld).size
        obtain ⟨Wb, hWb⟩ : ∃ Wb, wr.drew.alloc (.cells #[.int .i64 (-k.x), .int .i64 k.y, .int .i64 (-k.s)] 24) = Wb := ⟨_, rfl⟩
        have hLt := Lib.hid (show Wb.heap[wr.heap.size]? = some (.cells #[.int .i64 (-k.x), .int .i64 k.y, .int .i64 (-k.s)] 24 (0, 0)) by rw [← hWb]; exact heap_alloc_new _ _)
        have hal : Below w.heap.size wr.drew Wb := by rw [← hWb]; exact (Below.refl _ _).alloc hbz9 _
        have hownb := Lib.hid (show Wb.ownsRow w.heap.size 24 3 (.slice ao F.length co) F.length (bcellsL F) by rw [← hWb]; exact (ownsRow_below hown.out (below_drew (Below.refl _ _))).alloc _)
        rw [show (wr.alloc (.cells #[.int .i64 (-k.x), .int .i64 k.y, .int .i64 (-k.s)] 24)).drew = Wb from hWb]
        refine hK.out _ _ (keepQ hHeld hal) (fun hHeld => ?_)
        clear hWb hal hbz9
        clear hK K
        try simp only [List.getElem_toArray, List.getElem_cons_succ, List.getElem_cons_zero, Act.put, List.setIfInBounds_toArray, List.set_cons_zero, List.set_cons_succ]
        refine wpAnyH_ready (rs := [20]) (by kernel_rfl) (by simp) ?_
        refine (AllReadyH.cons (o := _) rfl (fun K hK => ?rm20_21) AllReadyH.nil)
        case rm20_21 =>
          simp only [List.getElem_toArray, List.getElem_cons_succ, List.getElem_cons_zero]
          rw [if_pos (by rfl)]
          have hbz9 := (belQ hHeld).size
          refine wp_append_gen (.tmp 11) (.tmp 30) 22 rfl w.heap.size 24 ib (.agg #[.int .i64 0, .int .i64 0, .int .i64 0]) 3 24 Tryz.underlying22 HIB.out HB0.out HB1.out HB2.out rfl (by decide) (.slice ao F.length co) F.length (bcellsL F) ?_ hownb.out (some ⟨wr.heap.size, 0, none⟩) 1 1 [.int .i64 (-k.x), .int .i64 k.y, .int .i64 (-k.s)] ?_ rfl (by intro h; cases h) (by intro ad had; cases had; exact World.news_of_block hLt.out) (by intro u hu; simp at hu; rcases hu with rfl | rfl | rfl <;> rfl) (by unfold maxLen; omega) (by omega) hbz9 ?_
          · first | rfl | (simp [Act.eval]; done)
          · first | rfl | (simp [Act.eval]; done)
          intro v6 w6 hown6 hgrow
          have hO6 := Lib.hid hown6
          have hQ := grewQ hownb.out (Nat.le_refl _) hbz9 hgrow
          refine hK.out _ _ (keepQ hHeld hQ) (fun hHeld => ?_)
          clear hown6 hgrow hQ hbz9
          clear hK K
          try simp only [List.getElem_toArray, List.getElem_cons_succ, List.getElem_cons_zero, Act.put, List.setIfInBounds_toArray, List.set_cons_zero, List.set_cons_succ]
          refine wpAnyH_take (i := 21) (oi := _) (v := ?vm21_22) rfl (by kernel_rfl) (by kernel_rfl) (by kernel_rfl) (fun _ _ _ h => h) (Or.inl ⟨by rfl, ?hym21_22⟩) (by assumption) ?restm21_22
          case hym21_22 => (intro w hSw; (try dsimp only at hSw); go_simp; first | done | rfl)
          try simp only [List.getElem_toArray, List.getElem_cons_succ, List.getElem_cons_zero, Act.put, List.setIfInBounds_toArray, List.set_cons_zero, List.set_cons_succ]
          refine wpAnyH_done (by kernel_rfl) ?_ _
          have hbel := belQ hHeld
          go_wp2
          go_roundw
          case rel => exact ⟨j + 1, by omega, by go_num, Lib.hid (by rw [HFY.out, List.length_append, bcellsL_snoc]; exact hO6.out), hbel⟩
          case measure => simp [intOf]; omega
    · obtain rfl : j = l.length := by omega
      have h9 := hown.out
      rw [List.take_length] at h9
      obtain ⟨a2, c2, rfl, ok2⟩ := own_oks h9
      have HO := Lib.hid ok2.2.2.2
      have HLN := Lib.hid (show (l.map mirB).length ≤ 4096 by rw [List.length_map]; exact hl)
      clear h9 hown ok2 hln
      generalize l.map mirB = m at *
      go_wp2_with fail
      refine (refSorted a2 c2 m _ HLN.out HO.out).mono ?_
      rintro e w3 ⟨v3, rfl, hrow3, hb3⟩
      rw [HU.out] at hrow3
      obtain ⟨a3, c3, rfl, ok3⟩ := own_oks hrow3
      have HO3 := Lib.hid ok3
      clear hrow3 ok3
      go_wp2
      go_ret
      exact ⟨a3, c3, rfl, HO3.out, hb.trans (hb3.mono hb.size)⟩
set_option maxHeartbeats 8000000 in
set_option maxRecDepth 100000 in
theorem refTurned (A : Option Addr) (c : Nat) (l u : List Ck.Bar) (w : World) (hu : srtL (l.map turnB) = u) (hl : l.length ≤ 4096) (hok : ∀ x ∈ l, okBar x) (h : OKS w A c l) :
    Calls Tryz.prog 68 #[.slice A l.length c] w (SlicePost u w) := by
  obtain ⟨ib, hib, hb0, hb01, hb02⟩ := info_parts Tryz.info24
  have HIB := Lib.hid hib
  have HB0 := Lib.hid hb0
  have HB1 := Lib.hid hb01
  have HB2 := Lib.hid hb02
  have HR := Lib.hid h
  have HU := Lib.hid hu
  have HOK := Lib.hid hok
  have hl' : (l.length : Int) ≤ 4096 := by omega
  clear hib hb0 hb01 hb02 h hu hok
  go_enter Tryz.func68, Tryz.ntmps68
  go_wp2_with fail
  go_loopw [3, 4] (fun v i wr => ∃ j : Nat, j ≤ l.length ∧ i = .int .i64 j ∧ Hid (wr.ownsRow w.heap.size 24 3 v ((l.take j).map turnB).length (bcellsL ((l.take j).map turnB))) ∧ Below w.heap.size w wr) (fun _ i _ => l.length - (intOf i).toNat)
  case atStart => exact ⟨0, Nat.zero_le _, rfl, Lib.hid ⟨rfl, .inl ⟨rfl, rfl⟩⟩, Below.refl _ _⟩
  case round =>
    obtain ⟨j, hj, rfl, hown, hb⟩ := hrel
    have hbz := hb.size
    have hln : ((l.take j).map turnB).length ≤ 4096 := by rw [List.length_map, List.length_take]; omega
    by_cases hlt : j < l.length
    · obtain ⟨b, off, rfl, hB, hc⟩ := (HR.out.2.2.2.below hb) (by omega)
      obtain ⟨d0, d1, d2⟩ := hc j hlt
      obtain ⟨_, _, hA, hbw, _⟩ := HR.out.2.2.2 (by omega)
      cases hA
      have hj1 : (j : Int) < (l.length : Int) := by omega
      have hj0 : (0 : Int) ≤ (j : Int) := by omega
      clear hc
      obtain ⟨k, hk⟩ : ∃ k, l[j] = k := ⟨_, rfl⟩
      have HFY := Lib.hid (show (l.take (j + 1)).map turnB = (l.take j).map turnB ++ [turnB k] by rw [List.take_succ_eq_append_getElem hlt, List.map_append, hk]; rfl)
      have HKO := Lib.hid (show okBar k by rw [← hk]; exact HOK.out _ (List.getElem_mem hlt))
      rw [hk] at d0 d1 d2
      obtain ⟨⟨⟨x1, x2⟩, ⟨y1, y2⟩, -⟩, ks, -, -⟩ := HKO.out
      simp only [Bar.lo] at x1 x2 y1 y2
      have ks1 : -1 ≤ k.s := by omega
      have ks2 : k.s ≤ 1 := by omega
      have hks := Lib.hid ks.symm
      clear hk ks
      generalize (l.take j).map turnB = F at *
      obtain ⟨ao, co, rfl, -, -⟩ := own_slice hown.out
      go_wp2_with fail
      refine wp_region_held_drew (S := (fun w' => (w'.cell? ⟨b, off + j * 3, none⟩ = some (.int .i64 k.x) ∧ w'.cell? ⟨b, off + j * 3 + 1, none⟩ = some (.int .i64 k.y) ∧ w'.cell? ⟨b, off + j * 3 + 2, none⟩ = some (.int .i64 k.s) ∧ Below w.heap.size w w' ∧ b < w.heap.size) ∧ Below wr.heap.size wr w')) (by kernel_rfl) ?_ (fun hHeld => ?_)
      · exact ⟨⟨d0, d1, d2, below_drew hb, hbw⟩, below_drew (Below.refl _ _)⟩
      refine wpAnyH_take (i := 0) (oi := _) (v := ?vt0_1) rfl (by kernel_rfl) (by kernel_rfl) (by kernel_rfl) (fun _ _ _ h => h) (Or.inl ⟨by rfl, ?hyt0_1⟩) (by assumption) ?restt0_1
      case hyt0_1 => (intro w hSw; (try dsimp only at hSw); go_simp; first | done | rfl)
      try simp only [List.getElem_toArray, List.getElem_cons_succ, List.getElem_cons_zero, Act.put, List.setIfInBounds_toArray, List.set_cons_zero, List.set_cons_succ]
      refine wpAnyH_take (i := 1) (oi := _) (v := ?vt1_2) rfl (by kernel_rfl) (by kernel_rfl) (by kernel_rfl) (fun _ _ _ h => h) (Or.inl ⟨by rfl, ?hyt1_2⟩) (by assumption) ?restt1_2
      case hyt1_2 => (intro w hSw; (try dsimp only at hSw); go_simp; first | done | rfl)
      try simp only [List.getElem_toArray, List.getElem_cons_succ, List.getElem_cons_zero, Act.put, List.setIfInBounds_toArray, List.set_cons_zero, List.set_cons_succ]
      refine wpAnyH_take (i := 2) (oi := _) (v := ?vt2_3) rfl (by kernel_rfl) (by kernel_rfl) (by kernel_rfl) (fun _ _ _ h => h) (Or.inl ⟨by rfl, ?hyt2_3⟩) (by assumption) ?restt2_3
      case hyt2_3 => (intro w hSw; (try dsimp only at hSw); go_simp; first | done | rfl)
      try simp only [List.getElem_toArray, List.getElem_cons_succ, List.getElem_cons_zero, Act.put, List.setIfInBounds_toArray, List.set_cons_zero, List.set_cons_succ]
      refine wpAnyH_take (i := 3) (oi := _) (v := ?vt3_4) rfl (by kernel_rfl) (by kernel_rfl) (by kernel_rfl) (fun _ _ _ h => h) (Or.inl ⟨by rfl, ?hyt3_4⟩) (by assumption) ?restt3_4
      case hyt3_4 => (intro w hSw; (try dsimp only at hSw); obtain ⟨⟨e0, e1, e2, -, -⟩, -⟩ := hSw; go_simp; first | done | rfl)
      try simp only [List.getElem_toArray, List.getElem_cons_succ, List.getElem_cons_zero, Act.put, List.setIfInBounds_toArray, List.set_cons_zero, List.set_cons_succ]
      refine wpAnyH_take (i := 5) (oi := _) (v := ?vt5_5) rfl (by kernel_rfl) (by kernel_rfl) (by kernel_rfl) (fun _ _ _ h => h) (Or.inl ⟨by rfl, ?hyt5_5⟩) (by assumption) ?restt5_5
      case hyt5_5 => (intro w hSw; (try dsimp only at hSw); go_simp; first | done | rfl)
      try simp only [List.getElem_toArray, List.getElem_cons_succ, List.getElem_cons_zero, Act.put, List.setIfInBounds_toArray, List.set_cons_zero, List.set_cons_succ]
      refine wpAnyH_take (i := 6) (oi := _) (v := ?vt6_6) rfl (by kernel_rfl) (by kernel_rfl) (by kernel_rfl) (fun _ _ _ h => h) (Or.inl ⟨by rfl, ?hyt6_6⟩) (by assumption) ?restt6_6
      case hyt6_6 => (intro w hSw; (try dsimp only at hSw); go_simp; first | done | rfl)
      try simp only [List.getElem_toArray, List.getElem_cons_succ, List.getElem_cons_zero, Act.put, List.setIfInBounds_toArray, List.set_cons_zero, List.set_cons_succ]
      refine wpAnyH_take (i := 7) (oi := _) (v := ?vt7_7) rfl (by kernel_rfl) (by kernel_rfl) (by kernel_rfl) (fun _ _ _ h => h) (Or.inl ⟨by rfl, ?hyt7_7⟩) (by assumption) ?restt7_7
      case hyt7_7 => (intro w hSw; (try dsimp only at hSw); go_simp; first | done | rfl)
      try simp only [List.getElem_toArray, List.getElem_cons_succ, List.getElem_cons_zero, Act.put, List.setIfInBounds_toArray, List.set_cons_zero, List.set_cons_succ]
      refine wpAnyH_take (i := 8) (oi := _) (v := ?vt8_8) rfl (by kernel_rfl) (by kernel_rfl) (by kernel_rfl) (fun _ _ _ h => h) (Or.inl ⟨by rfl, ?hyt8_8⟩) (by assumption) ?restt8_8
      case hyt8_8 => (intro w hSw; (try dsimp only at hSw); obtain ⟨⟨e0, e1, e2, -, -⟩, -⟩ := hSw; go_simp; first | done | rfl)
      try simp only [List.getElem_toArray, List.getElem_cons_succ, List.getElem_cons_zero, Act.put, List.setIfInBounds_toArray, List.set_cons_zero, List.set_cons_succ]
      refine wpAnyH_ready (rs := [4, 10, 11]) (by kernel_rfl) (by simp) ?_
      refine (AllReadyH.cons (o := _) rfl (fun K hK => ?rt4_9) (AllReadyH.cons (o := _) rfl (fun K hK => ?rt10_9) (AllReadyH.cons (o := _) rfl (fun K hK => ?rt11_9) AllReadyH.nil)))
      case rt4_9 =>
        simp only [List.getElem_toArray, List.getElem_cons_succ, List.getElem_cons_zero]
        go_simp
        have hbz9 := hHeld.2.size
        go_at_call 80
        refine (refLower k.x k.y k.s _).mono ?_
        rintro e wc4 ⟨rfl, hbq⟩
        refine hK.out _ _ (keepR hbz hHeld (hbq.mono hbz9)) (fun hHeld => ?_)
        clear hbq hbz9
        clear hK K
        try simp only [List.getElem_toArray, List.getElem_cons_succ, List.getElem_cons_zero, Act.put, List.setIfInBounds_toArray, List.set_cons_zero, List.set_cons_succ]
        refine wpAnyH_ready (rs := [9, 10, 11]) (by kernel_rfl) (by simp) ?_
        refine (AllReadyH.cons (o := _) rfl (fun K hK => ?rt9_10) (AllReadyH.cons (o := _) rfl (fun K hK => ?rt10_10) (AllReadyH.cons (o := _) rfl (fun K hK => ?rt11_10) AllReadyH.nil)))
        case rt9_10 =>
          simp only [List.getElem_toArray, List.getElem_cons_succ, List.getElem_cons_zero]
          go_simp
          have hbz9 := hHeld.2.size
          go_at_call 81
          refine (refUpper k.x k.y k.s _ x1 x2 y1 y2 ks1 ks2).mono ?_
          rintro e wc9 ⟨rfl, hbq⟩
          refine hK.out _ _ (keepR hbz hHeld (hbq.mono hbz9)) (fun hHeld => ?_)
          clear hbq hbz9
          clear hK K
          try simp only [List.getElem_toArray, List.getElem_cons_succ, List.getElem_cons_zero, Act.put, List.setIfInBounds_toArray, List.set_cons_zero, List.set_cons_succ]
          refine wpAnyH_ready (rs := [10, 11]) (by kernel_rfl) (by simp) ?_
          refine (AllReadyH.cons (o := _) rfl (fun K hK => ?rt10_11) (AllReadyH.cons (o := _) rfl (fun K hK => ?rt11_11) AllReadyH.nil))
          case rt10_11 =>
            simp only [List.getElem_toArray, List.getElem_cons_succ, List.getElem_cons_zero]
            go_simp
            have hbz9 := hHeld.2.size
            obtain ⟨Wa5, hWa⟩ : ∃ W, wc9.alloc (.cells #[.int .i64 0, .int .i64 0] 26) = W := ⟨_, rfl⟩
            have hP10 := Lib.hid (show Wa5.heap[wc9.heap.size]? = some (.cells #[.int .i64 0, .int .i64 0] 26 (0, 0)) by rw [← hWa]; exact heap_alloc_new _ _)
            have hAd10 := Lib.hid (show wr.heap.size ≤ wc9.heap.size from hbz9)
            have hal : Below wr.heap.size wc9 Wa5 := by rw [← hWa]; exact (Below.refl _ _).alloc hbz9 _
            rw [hWa]
            refine hK.out _ _ (keepR hbz hHeld hal) (fun hHeld => ?_)
            clear hWa hal hbz9
            clear hK K
            try simp only [List.getElem_toArray, List.getElem_cons_succ, List.getElem_cons_zero, Act.put, List.setIfInBounds_toArray, List.set_cons_zero, List.set_cons_succ]
            refine wpAnyH_ready (rs := [11]) (by kernel_rfl) (by simp) ?_
            refine (AllReadyH.cons (o := _) rfl (fun K hK => ?rt11_12) AllReadyH.nil)
            case rt11_12 =>
              simp only [List.getElem_toArray, List.getElem_cons_succ, List.getElem_cons_zero]
              go_simp
              have hbz9 := hHeld.2.size
              obtain ⟨Wa6, hWa⟩ : ∃ W, Wa5.alloc (.cells #[.int .i64 0, .int .i64 0] 26) = W := ⟨_, rfl⟩
              have hP11 := Lib.hid (show Wa6.heap[Wa5.heap.size]? = some (.cells #[.int .i64 0, .int .i64 0] 26 (0, 0)) by rw [← hWa]; exact heap_alloc_new _ _)
              have hNE := Lib.hid (show wc9.heap.size ≠ Wa5.heap.size by have := (Array.getElem?_eq_some_iff.1 hP10.out).1; omega)
              replace hP10 := Lib.hid (show Wa6.heap[wc9.heap.size]? = some (.cells #[.int .i64 0, .int .i64 0] 26 (0, 0)) by rw [← hWa]; exact (Below.heap_alloc _ _ _ (Array.getElem?_eq_some_iff.1 hP10.out).1).trans hP10.out)
              have hAd11 := Lib.hid (show wr.heap.size ≤ Wa5.heap.size from hbz9)
              have hal : Below wr.heap.size Wa5 Wa6 := by rw [← hWa]; exact (Below.refl _ _).alloc hbz9 _
              rw [hWa]
              refine hK.out _ _ (keepR hbz hHeld hal) (fun hHeld => ?_)
              clear hWa hal hbz9
              obtain ⟨p0, p1, pf⟩ := two_at hP10.out
              obtain ⟨q0, q1, qf⟩ := two_at hP11.out
              clear hK K
              try simp only [List.getElem_toArray, List.getElem_cons_succ, List.getElem_cons_zero, Act.put, List.setIfInBounds_toArray, List.set_cons_zero, List.set_cons_succ]
              refine wpAnyH_ready (rs := [12]) (by kernel_rfl) (by simp) ?_
              refine (AllReadyH.cons (o := _) rfl (fun K hK => ?rt12_13) AllReadyH.nil)
              case rt12_13 =>
                simp only [List.getElem_toArray, List.getElem_cons_succ, List.getElem_cons_zero]
                go_simp
                obtain ⟨Ws5, hWs, hQ10, hQo, hQb⟩ := st2 (.int .i64 k.x) (.int .i64 k.y) hP10.out hAd10.out hP11.out (by first | exact hNE.out | exact hNE.out.symm)
                rw [hWs]
                refine hK.out _ _ (keepR hbz hHeld hQb) (fun hHeld => ?_)
                replace hP10 := Lib.hid hQ10
                replace hP11 := Lib.hid hQo
                clear hWs hQ10 hQo hQb p0 p1 pf q0 q1 qf
                obtain ⟨p0, p1, pf⟩ := two_at hP10.out
                obtain ⟨q0, q1, qf⟩ := two_at hP11.out
                clear hK K
                try simp only [List.getElem_toArray, List.getElem_cons_succ, List.getElem_cons_zero, Act.put, List.setIfInBounds_toArray, List.set_cons_zero, List.set_cons_succ]
                refine wpAnyH_ready (rs := [13]) (by kernel_rfl) (by simp) ?_
                refine (AllReadyH.cons (o := _) rfl (fun K hK => ?rt13_14) AllReadyH.nil)
                case rt13_14 =>
                  simp only [List.getElem_toArray, List.getElem_cons_succ, List.getElem_cons_zero]
                  go_simp
                  obtain ⟨Ws6, hWs, hQ11, hQo, hQb⟩ := st2 (.int .i64 (k.x + k.s)) (.int .i64 (k.y + 1)) hP11.out hAd11.out hP10.out (by first | exact hNE.out | exact hNE.out.symm)
                  rw [hWs]
                  refine hK.out _ _ (keepR hbz hHeld hQb) (fun hHeld => ?_)
                  replace hP11 := Lib.hid hQ11
                  replace hP10 := Lib.hid hQo
                  clear hWs hQ11 hQo hQb p0 p1 pf q0 q1 qf
                  obtain ⟨p0, p1, pf⟩ := two_at hP10.out
                  obtain ⟨q0, q1, qf⟩ := two_at hP11.out
                  clear hK K
                  try simp only [List.getElem_toArray, List.getElem_cons_succ, List.getElem_cons_zero, Act.put, List.setIfInBounds_toArray, List.set_cons_zero, List.set_cons_succ]
                  refine wpAnyH_done (by kernel_rfl) ?_ _
                  have m1 : IntKind.i64.wrap (-k.y) = -k.y := by rw [IntKind.wrap_i64]; omega
                  have m2 : IntKind.i64.wrap (-(k.y + 1)) = -(k.y + 1) := by rw [IntKind.wrap_i64]; omega
                  have hbel := hHeld.1.2.2.2.1
                  have hO5 := Lib.hid (ownsRow_below hown.out hHeld.2)
                  clear hHeld hP10 hP11 hNE hAd10 hAd11 d0 d1 d2
                  go_wp2_with fail
                  refine (refBetweenTurn k _ x1 x2 y1 y2 hks.out).mono ?_
                  rintro e w7 ⟨rfl, hb7⟩
                  have hO7 := ownsRow_below hO5.out hb7
                  have hbz5 := hbel.size
                  have hbel7 := hbel.trans (hb7.mono hbz5)
                  have hbz7 := hbel7.size
                  clear p0 p1 pf q0 q1 qf hO5 hb7 hbel m1 m2
                  go_wp2_with (at_builtin; refine wpList_append_own _ rfl _ _ 22 rfl w.heap.size 24 ib (.agg #[.int .i64 0, .int .i64 0, .int .i64 0]) 3 24 Tryz.underlying22 HIB.out HB0.out HB1.out HB2.out rfl (by decide) _ _ _ rfl (World.ownsRow.alloc hO7 _) ⟨w7.heap.size, 0, none⟩ 1 1 [.int .i64 (turnB k).x, .int .i64 (turnB k).y, .int .i64 (turnB k).s] rfl rfl (three_new _ _ _ _ _) ?c2 ?c3 ?c4 ?c5 ?_)
                  case c2 => intro u hu; simp at hu; rcases hu with rfl | rfl | rfl <;> rfl
                  case c3 => unfold maxLen; omega
                  case c4 => omega
                  case c5 => simp; omega
                  intro v' w8 hown8 hgrow8 _
                  have B8 : Below w.heap.size w w8 := (hbel7.alloc (by omega) _).grown hgrow8 (by simp; omega) (ownsRow_base hO7)
                  have HO8 := Lib.hid hown8
                  clear hown8 hgrow8 hO7
                  go_wp2
                  go_roundw
                  case rel => exact ⟨j + 1, by omega, by go_num, Lib.hid (by rw [HFY.out, List.length_append, bcellsL_snoc]; exact HO8.out), B8⟩
                  case measure => simp [intOf]; omega
          case rt11_11 =>
            simp only [List.getElem_toArray, List.getElem_cons_succ, List.getElem_cons_zero]
            go_simp
            have hbz9 := hHeld.2.size
            obtain ⟨Wa6, hWa⟩ : ∃ W, wc9.alloc (.cells #[.int .i64 0, .int .i64 0] 26) = W := ⟨_, rfl⟩
            have hP11 := Lib.hid (show Wa6.heap[wc9.heap.size]? = some (.cells #[.int .i64 0, .int .i64 0] 26 (0, 0)) by rw [← hWa]; exact heap_alloc_new _ _)
            have hAd11 := Lib.hid (show wr.heap.size ≤ wc9.heap.size from hbz9)
            have hal : Below wr.heap.size wc9 Wa6 := by rw [← hWa]; exact (Below.refl _ _).alloc hbz9 _
            rw [hWa]
            refine hK.out _ _ (keepR hbz hHeld hal) (fun hHeld => ?_)
            clear hWa hal hbz9
            clear hK K
            try simp only [List.getElem_toArray, List.getElem_cons_succ, List.getElem_cons_zero, Act.put, List.setIfInBounds_toArray, List.set_cons_zero, List.set_cons_succ]
            refine wpAnyH_ready (rs := [10]) (by kernel_rfl) (by simp) ?_
            refine (AllReadyH.cons (o := _) rfl (fun K hK => ?rt10_15) AllReadyH.nil)
            case rt10_15 =>
              simp only [List.getElem_toArray, List.getElem_cons_succ, List.getElem_cons_zero]
              go_simp
              have hbz9 := hHeld.2.size
              obtain ⟨Wa5, hWa⟩ : ∃ W, Wa6.alloc (.cells #[.int .i64 0, .int .i64 0] 26) = W := ⟨_, rfl⟩
              have hP10 := Lib.hid (show Wa5.heap[Wa6.heap.size]? = some (.cells #[.int .i64 0, .int .i64 0] 26 (0, 0)) by rw [← hWa]; exact heap_alloc_new _ _)
              have hNE := Lib.hid (show wc9.heap.size ≠ Wa6.heap.size by have := (Array.getElem?_eq_some_iff.1 hP11.out).1; omega)
              replace hP11 := Lib.hid (show Wa5.heap[wc9.heap.size]? = some (.cells #[.int .i64 0, .int .i64 0] 26 (0, 0)) by rw [← hWa]; exact (Below.heap_alloc _ _ _ (Array.getElem?_eq_some_iff.1 hP11.out).1).trans hP11.out)
              have hAd10 := Lib.hid (show wr.heap.size ≤ Wa6.heap.size from hbz9)
              have hal : Below wr.heap.size Wa6 Wa5 := by rw [← hWa]; exact (Below.refl _ _).alloc hbz9 _
              rw [hWa]
              refine hK.out _ _ (keepR hbz hHeld hal) (fun hHeld => ?_)
              clear hWa hal hbz9
              obtain ⟨p0, p1, pf⟩ := two_at hP10.out
              obtain ⟨q0, q1, qf⟩ := two_at hP11.out
              clear hK K
              try simp only [List.getElem_toArray, List.getElem_cons_succ, List.getElem_cons_zero, Act.put, List.setIfInBounds_toArray, List.set_cons_zero, List.set_cons_succ]
              refine wpAnyH_ready (rs := [12]) (by kernel_rfl) (by simp) ?_
              refine (AllReadyH.cons (o := _) rfl (fun K hK => ?rt12_16) AllReadyH.nil)
              case rt12_16 =>
                simp only [List.getElem_toArray, List.getElem_cons_succ, List.getElem_cons_zero]
                go_simp
                obtain ⟨Ws5, hWs, hQ10, hQo, hQb⟩ := st2 (.int .i64 k.x) (.int .i64 k.y) hP10.out hAd10.out hP11.out (by first | exact hNE.out | exact hNE.out.symm)
                rw [hWs]
                refine hK.out _ _ (keepR hbz hHeld hQb) (fun hHeld => ?_)
                replace hP10 := Lib.hid hQ10
                replace hP11 := Lib.hid hQo
                clear hWs hQ10 hQo hQb p0 p1 pf q0 q1 qf
                obtain ⟨p0, p1, pf⟩ := two_at hP10.out
                obtain ⟨q0, q1, qf⟩ := two_at hP11.out
                clear hK K
                try simp only [List.getElem_toArray, List.getElem_cons_succ, List.getElem_cons_zero, Act.put, List.setIfInBounds_toArray, List.set_cons_zero, List.set_cons_succ]
                refine wpAnyH_ready (rs := [13]) (by kernel_rfl) (by simp) ?_
                refine (AllReadyH.cons (o := _) rfl (fun K hK => ?rt13_17) AllReadyH.nil)
                case rt13_17 =>
                  simp only [List.getElem_toArray, List.getElem_cons_succ, List.getElem_cons_zero]
                  go_simp
                  obtain ⟨Ws6, hWs, hQ11, hQo, hQb⟩ := st2 (.int .i64 (k.x + k.s)) (.int .i64 (k.y + 1)) hP11.out hAd11.out hP10.out (by first | exact hNE.out | exact hNE.out.symm)
                  rw [hWs]
                  refine hK.out _ _ (keepR hbz hHeld hQb) (fun hHeld => ?_)
                  replace hP11 := Lib.hid hQ11
                  replace hP10 := Lib.hid hQo
                  clear hWs hQ11 hQo hQb p0 p1 pf q0 q1 qf
                  obtain ⟨p0, p1, pf⟩ := two_at hP10.out
                  obtain ⟨q0, q1, qf⟩ := two_at hP11.out
                  clear hK K
                  try simp only [List.getElem_toArray, List.getElem_cons_succ, List.getElem_cons_zero, Act.put, List.setIfInBounds_toArray, List.set_cons_zero, List.set_cons_succ]
                  refine wpAnyH_done (by kernel_rfl) ?_ _
                  have m1 : IntKind.i64.wrap (-k.y) = -k.y := by rw [IntKind.wrap_i64]; omega
                  have m2 : IntKind.i64.wrap (-(k.y + 1)) = -(k.y + 1) := by rw [IntKind.wrap_i64]; omega
                  have hbel := hHeld.1.2.2.2.1
                  have hO5 := Lib.hid (ownsRow_below hown.out hHeld.2)
                  clear hHeld hP10 hP11 hNE hAd10 hAd11 d0 d1 d2
                  go_wp2_with fail
                  refine (refBetweenTurn k _ x1 x2 y1 y2 hks.out).mono ?_
                  rintro e w7 ⟨rfl, hb7⟩
                  have hO7 := ownsRow_below hO5.out hb7
                  have hbz5 := hbel.size
                  have hbel7 := hbel.trans (hb7.mono hbz5)
                  have hbz7 := hbel7.size
                  clear p0 p1 pf q0 q1 qf hO5 hb7 hbel m1 m2
                  go_wp2_with (at_builtin; refine wpList_append_own _ rfl _ _ 22 rfl w.heap.size 24 ib (.agg #[.int .i64 0, .int .i64 0, .int .i64 0]) 3 24 Tryz.underlying22 HIB.out HB0.out HB1.out HB2.out rfl (by decide) _ _ _ rfl (World.ownsRow.alloc hO7 _) ⟨w7.heap.size, 0, none⟩ 1 1 [.int .i64 (turnB k).x, .int .i64 (turnB k).y, .int .i64 (turnB k).s] rfl rfl (three_new _ _ _ _ _) ?c2 ?c3 ?c4 ?c5 ?_)
                  case c2 => intro u hu; simp at hu; rcases hu with rfl | rfl | rfl <;> rfl
                  case c3 => unfold maxLen; omega
                  case c4 => omega
                  case c5 => simp; omega
                  intro v' w8 hown8 hgrow8 _
                  have B8 : Below w.heap.size w w8 := (hbel7.alloc (by omega) _).grown hgrow8 (by simp; omega) (ownsRow_base hO7)
                  have HO8 := Lib.hid hown8
                  clear hown8 hgrow8 hO7
                  go_wp2
                  go_roundw
                  case rel => exact ⟨j + 1, by omega, by go_num, Lib.hid (by rw [HFY.out, List.length_append, bcellsL_snoc]; exact HO8.out), B8⟩
                  case measure => simp [intOf]; omega
        case rt10_10 =>
          simp only [List.getElem_toArray, List.getElem_cons_succ, List.getElem_cons_zero]
          go_simp
          have hbz9 := hHeld.2.size
          obtain ⟨Wa5, hWa⟩ : ∃ W, wc4.alloc (.cells #[.int .i64 0, .int .i64 0] 26) = W := ⟨_, rfl⟩
          have hP10 := Lib.hid (show Wa5.heap[wc4.heap.size]? = some (.cells #[.int .i64 0, .int .i64 0] 26 (0, 0)) by rw [← hWa]; exact heap_alloc_new _ _)
          have hAd10 := Lib.hid (show wr.heap.size ≤ wc4.heap.size from hbz9)
          have hal : Below wr.heap.size wc4 Wa5 := by rw [← hWa]; exact (Below.refl _ _).alloc hbz9 _
          rw [hWa]
          refine hK.out _ _ (keepR hbz hHeld hal) (fun hHeld => ?_)
          clear hWa hal hbz9
          clear hK K
          try simp only [List.getElem_toArray, List.getElem_cons_succ, List.getElem_cons_zero, Act.put, List.setIfInBounds_toArray, List.set_cons_zero, List.set_cons_succ]
          refine wpAnyH_ready (rs := [9, 11]) (by kernel_rfl) (by simp) ?_
          refine (AllReadyH.cons (o := _) rfl (fun K hK => ?rt9_18) (AllReadyH.cons (o := _) rfl (fun K hK => ?rt11_18) AllReadyH.nil))
          case rt9_18 =>
            simp only [List.getElem_toArray, List.getElem_cons_succ, List.getElem_cons_zero]
            go_simp
            have hbz9 := hHeld.2.size
            go_at_call 81
            refine (refUpper k.x k.y k.s _ x1 x2 y1 y2 ks1 ks2).mono ?_
            rintro e wc9 ⟨rfl, hbq⟩
            replace hP10 := Lib.hid ((hbq.block _ (Array.getElem?_eq_some_iff.1 hP10.out).1).trans hP10.out)
            refine hK.out _ _ (keepR hbz hHeld (hbq.mono hbz9)) (fun hHeld => ?_)
            clear hbq hbz9
            clear hK K
            try simp only [List.getElem_toArray, List.getElem_cons_succ, List.getElem_cons_zero, Act.put, List.setIfInBounds_toArray, List.set_cons_zero, List.set_cons_succ]
            refine wpAnyH_ready (rs := [11]) (by kernel_rfl) (by simp) ?_
            refine (AllReadyH.cons (o := _) rfl (fun K hK => ?rt11_19) AllReadyH.nil)
            case rt11_19 =>
              simp only [List.getElem_toArray, List.getElem_cons_succ, List.getElem_cons_zero]
              go_simp
              have hbz9 := hHeld.2.size
              obtain ⟨Wa6, hWa⟩ : ∃ W, wc9.alloc (.cells #[.int .i64 0, .int .i64 0] 26) = W := ⟨_, rfl⟩
              have hP11 := Lib.hid (show Wa6.heap[wc9.heap.size]? = some (.cells #[.int .i64 0, .int .i64 0] 26 (0, 0)) by rw [← hWa]; exact heap_alloc_new _ _)
              have hNE := Lib.hid (show wc4.heap.size ≠ wc9.heap.size by have := (Array.getElem?_eq_some_iff.1 hP10.out).1; omega)
              replace hP10 := Lib.hid (show Wa6.heap[wc4.heap.size]? = some (.cells #[.int .i64 0, .int .i64 0] 26 (0, 0)) by rw [← hWa]; exact (Below.heap_alloc _ _ _ (Array.getElem?_eq_some_iff.1 hP10.out).1).trans hP10.out)
              have hAd11 := Lib.hid (show wr.heap.size ≤ wc9.heap.size from hbz9)
              have hal : Below wr.heap.size wc9 Wa6 := by rw [← hWa]; exact (Below.refl _ _).alloc hbz9 _
              rw [hWa]
              refine hK.out _ _ (keepR hbz hHeld hal) (fun hHeld => ?_)
              clear hWa hal hbz9
              obtain ⟨p0, p1, pf⟩ := two_at hP10.out
              obtain ⟨q0, q1, qf⟩ := two_at hP11.out
              clear hK K
              try simp only [List.getElem_toArray, List.getElem_cons_succ, List.getElem_cons_zero, Act.put, List.setIfInBounds_toArray, List.set_cons_zero, List.set_cons_succ]
              refine wpAnyH_ready (rs := [12]) (by kernel_rfl) (by simp) ?_
              refine (AllReadyH.cons (o := _) rfl (fun K hK => ?rt12_20) AllReadyH.nil)
              case rt12_20 =>
                simp only [List.getElem_toArray, List.getElem_cons_succ, List.getElem_cons_zero]
                go_simp
                obtain ⟨Ws5, hWs, hQ10, hQo, hQb⟩ := st2 (.int .i64 k.x) (.int .i64 k.y) hP10.out hAd10.out hP11.out (by first | exact hNE.out | exact hNE.out.symm)
                rw [hWs]
                refine hK.out _ _ (keepR hbz hHeld hQb) (fun hHeld => ?_)
                replace hP10 := Lib.hid hQ10
                replace hP11 := Lib.hid hQo
                clear hWs hQ10 hQo hQb p0 p1 pf q0 q1 qf
                obtain ⟨p0, p1, pf⟩ := two_at hP10.out
                obtain ⟨q0, q1, qf⟩ := two_at hP11.out
                clear hK K
                try simp only [List.getElem_toArray, List.getElem_cons_succ, List.getElem_cons_zero, Act.put, List.setIfInBounds_toArray, List.set_cons_zero, List.set_cons_succ]
                refine wpAnyH_ready (rs := [13]) (by kernel_rfl) (by simp) ?_
                refine (AllReadyH.cons (o := _) rfl (fun K hK => ?rt13_21) AllReadyH.nil)
                case rt13_21 =>
                  simp only [List.getElem_toArray, List.getElem_cons_succ, List.getElem_cons_zero]
                  go_simp
                  obtain ⟨Ws6, hWs, hQ11, hQo, hQb⟩ := st2 (.int .i64 (k.x + k.s)) (.int .i64 (k.y + 1)) hP11.out hAd11.out hP10.out (by first | exact hNE.out | exact hNE.out.symm)
                  rw [hWs]
                  refine hK.out _ _ (keepR hbz hHeld hQb) (fun hHeld => ?_)
                  replace hP11 := Lib.hid hQ11
                  replace hP10 := Lib.hid hQo
                  clear hWs hQ11 hQo hQb p0 p1 pf q0 q1 qf
                  obtain ⟨p0, p1, pf⟩ := two_at hP10.out
                  obtain ⟨q0, q1, qf⟩ := two_at hP11.out
                  clear hK K
                  try simp only [List.getElem_toArray, List.getElem_cons_succ, List.getElem_cons_zero, Act.put, List.setIfInBounds_toArray, List.set_cons_zero, List.set_cons_succ]
                  refine wpAnyH_done (by kernel_rfl) ?_ _
                  have m1 : IntKind.i64.wrap (-k.y) = -k.y := by rw [IntKind.wrap_i64]; omega
                  have m2 : IntKind.i64.wrap (-(k.y + 1)) = -(k.y + 1) := by rw [IntKind.wrap_i64]; omega
                  have hbel := hHeld.1.2.2.2.1
                  have hO5 := Lib.hid (ownsRow_below hown.out hHeld.2)
                  clear hHeld hP10 hP11 hNE hAd10 hAd11 d0 d1 d2
                  go_wp2_with fail
                  refine (refBetweenTurn k _ x1 x2 y1 y2 hks.out).mono ?_
                  rintro e w7 ⟨rfl, hb7⟩
                  have hO7 := ownsRow_below hO5.out hb7
                  have hbz5 := hbel.size
                  have hbel7 := hbel.trans (hb7.mono hbz5)
                  have hbz7 := hbel7.size
                  clear p0 p1 pf q0 q1 qf hO5 hb7 hbel m1 m2
                  go_wp2_with (at_builtin; refine wpList_append_own _ rfl _ _ 22 rfl w.heap.size 24 ib (.agg #[.int .i64 0, .int .i64 0, .int .i64 0]) 3 24 Tryz.underlying22 HIB.out HB0.out HB1.out HB2.out rfl (by decide) _ _ _ rfl (World.ownsRow.alloc hO7 _) ⟨w7.heap.size, 0, none⟩ 1 1 [.int .i64 (turnB k).x, .int .i64 (turnB k).y, .int .i64 (turnB k).s] rfl rfl (three_new _ _ _ _ _) ?c2 ?c3 ?c4 ?c5 ?_)
                  case c2 => intro u hu; simp at hu; rcases hu with rfl | rfl | rfl <;> rfl
                  case c3 => unfold maxLen; omega
                  case c4 => omega
                  case c5 => simp; omega
                  intro v' w8 hown8 hgrow8 _
                  have B8 : Below w.heap.size w w8 := (hbel7.alloc (by omega) _).grown hgrow8 (by simp; omega) (ownsRow_base hO7)
                  have HO8 := Lib.hid hown8
                  clear hown8 hgrow8 hO7
                  go_wp2
                  go_roundw
                  case rel => exact ⟨j + 1, by omega, by go_num, Lib.hid (by rw [HFY.out, List.length_append, bcellsL_snoc]; exact HO8.out), B8⟩
                  case measure => simp [intOf]; omega
          case rt11_18 =>
            simp only [List.getElem_toArray, List.getElem_cons_succ, List.getElem_cons_zero]
            go_simp
            have hbz9 := hHeld.2.size
            obtain ⟨Wa6, hWa⟩ : ∃ W, Wa5.alloc (.cells #[.int .i64 0, .int .i64 0] 26) = W := ⟨_, rfl⟩
            have hP11 := Lib.hid (show Wa6.heap[Wa5.heap.size]? = some (.cells #[.int .i64 0, .int .i64 0] 26 (0, 0)) by rw [← hWa]; exact heap_alloc_new _ _)
            have hNE := Lib.hid (show wc4.heap.size ≠ Wa5.heap.size by have := (Array.getElem?_eq_some_iff.1 hP10.out).1; omega)
            replace hP10 := Lib.hid (show Wa6.heap[wc4.heap.size]? = some (.cells #[.int .i64 0, .int .i64 0] 26 (0, 0)) by rw [← hWa]; exact (Below.heap_alloc _ _ _ (Array.getElem?_eq_some_iff.1 hP10.out).1).trans hP10.out)
            have hAd11 := Lib.hid (show wr.heap.size ≤ Wa5.heap.size from hbz9)
            have hal : Below wr.heap.size Wa5 Wa6 := by rw [← hWa]; exact (Below.refl _ _).alloc hbz9 _
            rw [hWa]
            refine hK.out _ _ (keepR hbz hHeld hal) (fun hHeld => ?_)
            clear hWa hal hbz9
            clear hK K
            try simp only [List.getElem_toArray, List.getElem_cons_succ, List.getElem_cons_zero, Act.put, List.setIfInBounds_toArray, List.set_cons_zero, List.set_cons_succ]
            refine wpAnyH_ready (rs := [9]) (by kernel_rfl) (by simp) ?_
            refine (AllReadyH.cons (o := _) rfl (fun K hK => ?rt9_22) AllReadyH.nil)
            case rt9_22 =>
              simp only [List.getElem_toArray, List.getElem_cons_succ, List.getElem_cons_zero]
              go_simp
              have hbz9 := hHeld.2.size
              go_at_call 81
              refine (refUpper k.x k.y k.s _ x1 x2 y1 y2 ks1 ks2).mono ?_
              rintro e wc9 ⟨rfl, hbq⟩
              replace hP10 := Lib.hid ((hbq.block _ (Array.getElem?_eq_some_iff.1 hP10.out).1).trans hP10.out)
              replace hP11 := Lib.hid ((hbq.block _ (Array.getElem?_eq_some_iff.1 hP11.out).1).trans hP11.out)
              refine hK.out _ _ (keepR hbz hHeld (hbq.mono hbz9)) (fun hHeld => ?_)
              clear hbq hbz9
              obtain ⟨p0, p1, pf⟩ := two_at hP10.out
              obtain ⟨q0, q1, qf⟩ := two_at hP11.out
              clear hK K
              try simp only [List.getElem_toArray, List.getElem_cons_succ, List.getElem_cons_zero, Act.put, List.setIfInBounds_toArray, List.set_cons_zero, List.set_cons_succ]
              refine wpAnyH_ready (rs := [12]) (by kernel_rfl) (by simp) ?_
              refine (AllReadyH.cons (o := _) rfl (fun K hK => ?rt12_23) AllReadyH.nil)
              case rt12_23 =>
                simp only [List.getElem_toArray, List.getElem_cons_succ, List.getElem_cons_zero]
                go_simp
                obtain ⟨Ws5, hWs, hQ10, hQo, hQb⟩ := st2 (.int .i64 k.x) (.int .i64 k.y) hP10.out hAd10.out hP11.out (by first | exact hNE.out | exact hNE.out.symm)
                rw [hWs]
                refine hK.out _ _ (keepR hbz hHeld hQb) (fun hHeld => ?_)
                replace hP10 := Lib.hid hQ10
                replace hP11 := Lib.hid hQo
                clear hWs hQ10 hQo hQb p0 p1 pf q0 q1 qf
                obtain ⟨p0, p1, pf⟩ := two_at hP10.out
                obtain ⟨q0, q1, qf⟩ := two_at hP11.out
                clear hK K
                try simp only [List.getElem_toArray, List.getElem_cons_succ, List.getElem_cons_zero, Act.put, List.setIfInBounds_toArray, List.set_cons_zero, List.set_cons_succ]
                refine wpAnyH_ready (rs := [13]) (by kernel_rfl) (by simp) ?_
                refine (AllReadyH.cons (o := _) rfl (fun K hK => ?rt13_24) AllReadyH.nil)
                case rt13_24 =>
                  simp only [List.getElem_toArray, List.getElem_cons_succ, List.getElem_cons_zero]
                  go_simp
                  obtain ⟨Ws6, hWs, hQ11, hQo, hQb⟩ := st2 (.int .i64 (k.x + k.s)) (.int .i64 (k.y + 1)) hP11.out hAd11.out hP10.out (by first | exact hNE.out | exact hNE.out.symm)
                  rw [hWs]
                  refine hK.out _ _ (keepR hbz hHeld hQb) (fun hHeld => ?_)
                  replace hP11 := Lib.hid hQ11
                  replace hP10 := Lib.hid hQo
                  clear hWs hQ11 hQo hQb p0 p1 pf q0 q1 qf
                  obtain ⟨p0, p1, pf⟩ := two_at hP10.out
                  obtain ⟨q0, q1, qf⟩ := two_at hP11.out
                  clear hK K
                  try simp only [List.getElem_toArray, List.getElem_cons_succ, List.getElem_cons_zero, Act.put, List.setIfInBounds_toArray, List.set_cons_zero, List.set_cons_succ]
                  refine wpAnyH_done (by kernel_rfl) ?_ _
                  have m1 : IntKind.i64.wrap (-k.y) = -k.y := by rw [IntKind.wrap_i64]; omega
                  have m2 : IntKind.i64.wrap (-(k.y + 1)) = -(k.y + 1) := by rw [IntKind.wrap_i64]; omega
                  have hbel := hHeld.1.2.2.2.1
                  have hO5 := Lib.hid (ownsRow_below hown.out hHeld.2)
                  clear hHeld hP10 hP11 hNE hAd10 hAd11 d0 d1 d2
                  go_wp2_with fail
                  refine (refBetweenTurn k _ x1 x2 y1 y2 hks.out).mono ?_
                  rintro e w7 ⟨rfl, hb7⟩
                  have hO7 := ownsRow_below hO5.out hb7
                  have hbz5 := hbel.size
                  have hbel7 := hbel.trans (hb7.mono hbz5)
                  have hbz7 := hbel7.size
                  clear p0 p1 pf q0 q1 qf hO5 hb7 hbel m1 m2
                  go_wp2_with (at_builtin; refine wpList_append_own _ rfl _ _ 22 rfl w.heap.size 24 ib (.agg #[.int .i64 0, .int .i64 0, .int .i64 0]) 3 24 Tryz.underlying22 HIB.out HB0.out HB1.out HB2.out rfl (by decide) _ _ _ rfl (World.ownsRow.alloc hO7 _) ⟨w7.heap.size, 0, none⟩ 1 1 [.int .i64 (turnB k).x, .int .i64 (turnB k).y, .int .i64 (turnB k).s] rfl rfl (three_new _ _ _ _ _) ?c2 ?c3 ?c4 ?c5 ?_)
                  case c2 => intro u hu; simp at hu; rcases hu with rfl | rfl | rfl <;> rfl
                  case c3 => unfold maxLen; omega
                  case c4 => omega
                  case c5 => simp; omega
                  intro v' w8 hown8 hgrow8 _
                  have B8 : Below w.heap.size w w8 := (hbel7.alloc (by omega) _).grown hgrow8 (by simp; omega) (ownsRow_base hO7)
                  have HO8 := Lib.hid hown8
                  clear hown8 hgrow8 hO7
                  go_wp2
                  go_roundw
                  case rel => exact ⟨j + 1, by omega, by go_num, Lib.hid (by rw [HFY.out, List.length_append, bcellsL_snoc]; exact HO8.out), B8⟩
                  case measure => simp [intOf]; omega
        case rt11_10 =>
          simp only [List.getElem_toArray, List.getElem_cons_succ, List.getElem_cons_zero]
          go_simp
          have hbz9 := hHeld.2.size
          obtain ⟨Wa6, hWa⟩ : ∃ W, wc4.alloc (.cells #[.int .i64 0, .int .i64 0] 26) = W := ⟨_, rfl⟩
          have hP11 := Lib.hid (show Wa6.heap[wc4.heap.size]? = some (.cells #[.int .i64 0, .int .i64 0] 26 (0, 0)) by rw [← hWa]; exact heap_alloc_new _ _)
          have hAd11 := Lib.hid (show wr.heap.size ≤ wc4.heap.size from hbz9)
          have hal : Below wr.heap.size wc4 Wa6 := by rw [← hWa]; exact (Below.refl _ _).alloc hbz9 _
          rw [hWa]
          refine hK.out _ _ (keepR hbz hHeld hal) (fun hHeld => ?_)
          clear hWa hal hbz9
          clear hK K
          try simp only [List.getElem_toArray, List.getElem_cons_succ, List.getElem_cons_zero, Act.put, List.setIfInBounds_toArray, List.set_cons_zero, List.set_cons_succ]
          refine wpAnyH_ready (rs := [9, 10]) (by kernel_rfl) (by simp) ?_
          refine (AllReadyH.cons (o := _) rfl (fun K hK => ?rt9_25) (AllReadyH.cons (o := _) rfl (fun K hK => ?rt10_25) AllReadyH.nil))
          case rt9_25 =>
            simp only [List.getElem_toArray, List.getElem_cons_succ, List.getElem_cons_zero]
            go_simp
            have hbz9 := hHeld.2.size
            go_at_call 81
            refine (refUpper k.x k.y k.s _ x1 x2 y1 y2 ks1 ks2).mono ?_
            rintro e wc9 ⟨rfl, hbq⟩
            replace hP11 := Lib.hid ((hbq.block _ (Array.getElem?_eq_some_iff.1 hP11.out).1).trans hP11.out)
            refine hK.out _ _ (keepR hbz hHeld (hbq.mono hbz9)) (fun hHeld => ?_)
            clear hbq hbz9
            clear hK K
            try simp only [List.getElem_toArray, List.getElem_cons_succ, List.getElem_cons_zero, Act.put, List.setIfInBounds_toArray, List.set_cons_zero, List.set_cons_succ]
            refine wpAnyH_ready (rs := [10]) (by kernel_rfl) (by simp) ?_
            refine (AllReadyH.cons (o := _) rfl (fun K hK => ?rt10_26) AllReadyH.nil)
            case rt10_26 =>
              simp only [List.getElem_toArray, List.getElem_cons_succ, List.getElem_cons_zero]
              go_simp
              have hbz9 := hHeld.2.size
              obtain ⟨Wa5, hWa⟩ : ∃ W, wc9.alloc (.cells #[.int .i64 0, .int .i64 0] 26) = W := ⟨_, rfl⟩
              have hP10 := Lib.hid (show Wa5.heap[wc9.heap.size]? = some (.cells #[.int .i64 0, .int .i64 0] 26 (0, 0)) by rw [← hWa]; exact heap_alloc_new _ _)
              have hNE := Lib.hid (show wc4.heap.size ≠ wc9.heap.size by have := (Array.getElem?_eq_some_iff.1 hP11.out).1; omega)
              replace hP11 := Lib.hid (show Wa5.heap[wc4.heap.size]? = some (.cells #[.int .i64 0, .int .i64 0] 26 (0, 0)) by rw [← hWa]; exact (Below.heap_alloc _ _ _ (Array.getElem?_eq_some_iff.1 hP11.out).1).trans hP11.out)
              have hAd10 := Lib.hid (show wr.heap.size ≤ wc9.heap.size from hbz9)
              have hal : Below wr.heap.size wc9 Wa5 := by rw [← hWa]; exact (Below.refl _ _).alloc hbz9 _
              rw [hWa]
              refine hK.out _ _ (keepR hbz hHeld hal) (fun hHeld => ?_)
              clear hWa hal hbz9
              obtain ⟨p0, p1, pf⟩ := two_at hP10.out
              obtain ⟨q0, q1, qf⟩ := two_at hP11.out
              clear hK K
              try simp only [List.getElem_toArray, List.getElem_cons_succ, List.getElem_cons_zero, Act.put, List.setIfInBounds_toArray, List.set_cons_zero, List.set_cons_succ]
              refine wpAnyH_ready (rs := [12]) (by kernel_rfl) (by simp) ?_
              refine (AllReadyH.cons (o := _) rfl (fun K hK => ?rt12_27) AllReadyH.nil)
              case rt12_27 =>
                simp only [List.getElem_toArray, List.getElem_cons_succ, List.getElem_cons_zero]
                go_simp
                obtain ⟨Ws5, hWs, hQ10, hQo, hQb⟩ := st2 (.int .i64 k.x) (.int .i64 k.y) hP10.out hAd10.out hP11.out (by first | exact hNE.out | exact hNE.out.symm)
                rw [hWs]
                refine hK.out _ _ (keepR hbz hHeld hQb) (fun hHeld => ?_)
                replace hP10 := Lib.hid hQ10
                replace hP11 := Lib.hid hQo
                clear hWs hQ10 hQo hQb p0 p1 pf q0 q1 qf
                obtain ⟨p0, p1, pf⟩ := two_at hP10.out
                obtain ⟨q0, q1, qf⟩ := two_at hP11.out
                clear hK K
                try simp only [List.getElem_toArray, List.getElem_cons_succ, List.getElem_cons_zero, Act.put, List.setIfInBounds_toArray, List.set_cons_zero, List.set_cons_succ]
                refine wpAnyH_ready (rs := [13]) (by kernel_rfl) (by simp) ?_
                refine (AllReadyH.cons (o := _) rfl (fun K hK => ?rt13_28) AllReadyH.nil)
                case rt13_28 =>
                  simp only [List.getElem_toArray, List.getElem_cons_succ, List.getElem_cons_zero]
                  go_simp
                  obtain ⟨Ws6, hWs, hQ11, hQo, hQb⟩ := st2 (.int .i64 (k.x + k.s)) (.int .i64 (k.y + 1)) hP11.out hAd11.out hP10.out (by first | exact hNE.out | exact hNE.out.symm)
                  rw [hWs]
                  refine hK.out _ _ (keepR hbz hHeld hQb) (fun hHeld => ?_)
                  replace hP11 := Lib.hid hQ11
                  replace hP10 := Lib.hid hQo
                  clear hWs hQ11 hQo hQb p0 p1 pf q0 q1 qf
                  obtain ⟨p0, p1, pf⟩ := two_at hP10.out
                  obtain ⟨q0, q1, qf⟩ := two_at hP11.out
                  clear hK K
                  try simp only [List.getElem_toArray, List.getElem_cons_succ, List.getElem_cons_zero, Act.put, List.setIfInBounds_toArray, List.set_cons_zero, List.set_cons_succ]
                  refine wpAnyH_done (by kernel_rfl) ?_ _
                  have m1 : IntKind.i64.wrap (-k.y) = -k.y := by rw [IntKind.wrap_i64]; omega
                  have m2 : IntKind.i64.wrap (-(k.y + 1)) = -(k.y + 1) := by rw [IntKind.wrap_i64]; omega
                  have hbel := hHeld.1.2.2.2.1
                  have hO5 := Lib.hid (ownsRow_below hown.out hHeld.2)
                  clear hHeld hP10 hP11 hNE hAd10 hAd11 d0 d1 d2
                  go_wp2_with fail
                  refine (refBetweenTurn k _ x1 x2 y1 y2 hks.out).mono ?_
                  rintro e w7 ⟨rfl, hb7⟩
                  have hO7 := ownsRow_below hO5.out hb7
                  have hbz5 := hbel.size
                  have hbel7 := hbel.trans (hb7.mono hbz5)
                  have hbz7 := hbel7.size
                  clear p0 p1 pf q0 q1 qf hO5 hb7 hbel m1 m2
                  go_wp2_with (at_builtin; refine wpList_append_own _ rfl _ _ 22 rfl w.heap.size 24 ib (.agg #[.int .i64 0, .int .i64 0, .int .i64 0]) 3 24 Tryz.underlying22 HIB.out HB0.out HB1.out HB2.out rfl (by decide) _ _ _ rfl (World.ownsRow.alloc hO7 _) ⟨w7.heap.size, 0, none⟩ 1 1 [.int .i64 (turnB k).x, .int .i64 (turnB k).y, .int .i64 (turnB k).s] rfl rfl (three_new _ _ _ _ _) ?c2 ?c3 ?c4 ?c5 ?_)
                  case c2 => intro u hu; simp at hu; rcases hu with rfl | rfl | rfl <;> rfl
                  case c3 => unfold maxLen; omega
                  case c4 => omega
                  case c5 => simp; omega
                  intro v' w8 hown8 hgrow8 _
                  have B8 : Below w.heap.size w w8 := (hbel7.alloc (by omega) _).grown hgrow8 (by simp; omega) (ownsRow_base hO7)
                  have HO8 := Lib.hid hown8
                  clear hown8 hgrow8 hO7
                  go_wp2
                  go_roundw
                  case rel => exact ⟨j + 1, by omega, by go_num, Lib.hid (by rw [HFY.out, List.length_append, bcellsL_snoc]; exact HO8.out), B8⟩
                  case measure => simp [intOf]; omega
          case rt10_25 =>
            simp only [List.getElem_toArray, List.getElem_cons_succ, List.getElem_cons_zero]
            go_simp
            have hbz9 := hHeld.2.size
            obtain ⟨Wa5, hWa⟩ : ∃ W, Wa6.alloc (.cells #[.int .i64 0, .int .i64 0] 26) = W := ⟨_, rfl⟩
            have hP10 := Lib.hid (show Wa5.heap[Wa6.heap.size]? = some (.cells #[.int .i64 0, .int .i64 0] 26 (0, 0)) by rw [← hWa]; exact heap_alloc_new _ _)
            have hNE := Lib.hid (show wc4.heap.size ≠ Wa6.heap.size by have := (Array.getElem?_eq_some_iff.1 hP11.out).1; omega)
            replace hP11 := Lib.hid (show Wa5.heap[wc4.heap.size]? = some (.cells #[.int .i64 0, .int .i64 0] 26 (0, 0)) by rw [← hWa]; exact (Below.heap_alloc _ _ _ (Array.getElem?_eq_some_iff.1 hP11.out).1).trans hP11.out)
            have hAd10 := Lib.hid (show wr.heap.size ≤ Wa6.heap.size from hbz9)
            have hal : Below wr.heap.size Wa6 Wa5 := by rw [← hWa]; exact (Below.refl _ _).alloc hbz9 _
            rw [hWa]
            refine hK.out _ _ (keepR hbz hHeld hal) (fun hHeld => ?_)
            clear hWa hal hbz9
            clear hK K
            try simp only [List.getElem_toArray, List.getElem_cons_succ, List.getElem_cons_zero, Act.put, List.setIfInBounds_toArray, List.set_cons_zero, List.set_cons_succ]
            refine wpAnyH_ready (rs := [9]) (by kernel_rfl) (by simp) ?_
            refine (AllReadyH.cons (o := _) rfl (fun K hK => ?rt9_29) AllReadyH.nil)
            case rt9_29 =>
              simp only [List.getElem_toArray, List.getElem_cons_succ, List.getElem_cons_zero]
              go_simp
              have hbz9 := hHeld.2.size
              go_at_call 81
              refine (refUpper k.x k.y k.s _ x1 x2 y1 y2 ks1 ks2).mono ?_
              rintro e wc9 ⟨rfl, hbq⟩
              replace hP10 := Lib.hid ((hbq.block _ (Array.getElem?_eq_some_iff.1 hP10.out).1).trans hP10.out)
              replace hP11 := Lib.hid ((hbq.block _ (Array.getElem?_eq_some_iff.1 hP11.out).1).trans hP11.out)
              refine hK.out _ _ (keepR hbz hHeld (hbq.mono hbz9)) (fun hHeld => ?_)
              clear hbq hbz9
              obtain ⟨p0, p1, pf⟩ := two_at hP10.out
              obtain ⟨q0, q1, qf⟩ := two_at hP11.out
              clear hK K
              try simp only [List.getElem_toArray, List.getElem_cons_succ, List.getElem_cons_zero, Act.put, List.setIfInBounds_toArray, List.set_cons_zero, List.set_cons_succ]
              refine wpAnyH_ready (rs := [12]) (by kernel_rfl) (by simp) ?_
              refine (AllReadyH.cons (o := _) rfl (fun K hK => ?rt12_30) AllReadyH.nil)
              case rt12_30 =>
                simp only [List.getElem_toArray, List.getElem_cons_succ, List.getElem_cons_zero]
                go_simp
                obtain ⟨Ws5, hWs, hQ10, hQo, hQb⟩ := st2 (.int .i64 k.x) (.int .i64 k.y) hP10.out hAd10.out hP11.out (by first | exact hNE.out | exact hNE.out.symm)
                rw [hWs]
                refine hK.out _ _ (keepR hbz hHeld hQb) (fun hHeld => ?_)
                replace hP10 := Lib.hid hQ10
                replace hP11 := Lib.hid hQo
                clear hWs hQ10 hQo hQb p0 p1 pf q0 q1 qf
                obtain ⟨p0, p1, pf⟩ := two_at hP10.out
                obtain ⟨q0, q1, qf⟩ := two_at hP11.out
                clear hK K
                try simp only [List.getElem_toArray, List.getElem_cons_succ, List.getElem_cons_zero, Act.put, List.setIfInBounds_toArray, List.set_cons_zero, List.set_cons_succ]
                refine wpAnyH_ready (rs := [13]) (by kernel_rfl) (by simp) ?_
                refine (AllReadyH.cons (o := _) rfl (fun K hK => ?rt13_31) AllReadyH.nil)
                case rt13_31 =>
                  simp only [List.getElem_toArray, List.getElem_cons_succ, List.getElem_cons_zero]
                  go_simp
                  obtain ⟨Ws6, hWs, hQ11, hQo, hQb⟩ := st2 (.int .i64 (k.x + k.s)) (.int .i64 (k.y + 1)) hP11.out hAd11.out hP10.out (by first | exact hNE.out | exact hNE.out.symm)
                  rw [hWs]
                  refine hK.out _ _ (keepR hbz hHeld hQb) (fun hHeld => ?_)
                  replace hP11 := Lib.hid hQ11
                  replace hP10 := Lib.hid hQo
                  clear hWs hQ11 hQo hQb p0 p1 pf q0 q1 qf
                  obtain ⟨p0, p1, pf⟩ := two_at hP10.out
                  obtain ⟨q0, q1, qf⟩ := two_at hP11.out
                  clear hK K
                  try simp only [List.getElem_toArray, List.getElem_cons_succ, List.getElem_cons_zero, Act.put, List.setIfInBounds_toArray, List.set_cons_zero, List.set_cons_succ]
                  refine wpAnyH_done (by kernel_rfl) ?_ _
                  have m1 : IntKind.i64.wrap (-k.y) = -k.y := by rw [IntKind.wrap_i64]; omega
                  have m2 : IntKind.i64.wrap (-(k.y + 1)) = -(k.y + 1) := by rw [IntKind.wrap_i64]; omega
                  have hbel := hHeld.1.2.2.2.1
                  have hO5 := Lib.hid (ownsRow_below hown.out hHeld.2)
                  clear hHeld hP10 hP11 hNE hAd10 hAd11 d0 d1 d2
                  go_wp2_with fail
                  refine (refBetweenTurn k _ x1 x2 y1 y2 hks.out).mono ?_
                  rintro e w7 ⟨rfl, hb7⟩
                  have hO7 := ownsRow_below hO5.out hb7
                  have hbz5 := hbel.size
                  have hbel7 := hbel.trans (hb7.mono hbz5)
                  have hbz7 := hbel7.size
                  clear p0 p1 pf q0 q1 qf hO5 hb7 hbel m1 m2
                  go_wp2_with (at_builtin; refine wpList_append_own _ rfl _ _ 22 rfl w.heap.size 24 ib (.agg #[.int .i64 0, .int .i64 0, .int .i64 0]) 3 24 Tryz.underlying22 HIB.out HB0.out HB1.out HB2.out rfl (by decide) _ _ _ rfl (World.ownsRow.alloc hO7 _) ⟨w7.heap.size, 0, none⟩ 1 1 [.int .i64 (turnB k).x, .int .i64 (turnB k).y, .int .i64 (turnB k).s] rfl rfl (three_new _ _ _ _ _) ?c2 ?c3 ?c4 ?c5 ?_)
                  case c2 => intro u hu; simp at hu; rcases hu with rfl | rfl | rfl <;> rfl
                  case c3 => unfold maxLen; omega
                  case c4 => omega
                  case c5 => simp; omega
                  intro v' w8 hown8 hgrow8 _
                  have B8 : Below w.heap.size w w8 := (hbel7.alloc (by omega) _).grown hgrow8 (by simp; omega) (ownsRow_base hO7)
                  have HO8 := Lib.hid hown8
                  clear hown8 hgrow8 hO7
                  go_wp2
                  go_roundw
                  case rel => exact ⟨j + 1, by omega, by go_num, Lib.hid (by rw [HFY.out, List.length_append, bcellsL_snoc]; exact HO8.out), B8⟩
                  case measure => simp [intOf]; omega
      case rt10_9 =>
        simp only [List.getElem_toArray, List.getElem_cons_succ, List.getElem_cons_zero]
        go_simp
        have hbz9 := hHeld.2.size
        obtain ⟨Wa5, hWa⟩ : ∃ W, wr.drew.alloc (.cells #[.int .i64 0, .int .i64 0] 26) = W := ⟨_, rfl⟩
        have hP10 := Lib.hid (show Wa5.heap[wr.heap.size]? = some (.cells #[.int .i64 0, .int .i64 0] 26 (0, 0)) by rw [← hWa]; exact heap_alloc_new _ _)
        have hAd10 := Lib.hid (show wr.heap.size ≤ wr.heap.size from hbz9)
        have hal : Below wr.heap.size wr.drew Wa5 := by rw [← hWa]; exact (Below.refl _ _).alloc hbz9 _
        rw [show (wr.alloc (.cells #[.int .i64 0, .int .i64 0] 26)).drew = Wa5 from hWa]
        refine hK.out _ _ (keepR hbz hHeld hal) (fun hHeld => ?_)
        clear hWa hal hbz9
        clear hK K
        try simp only [List.getElem_toArray, List.getElem_cons_succ, List.getElem_cons_zero, Act.put, List.setIfInBounds_toArray, List.set_cons_zero, List.set_cons_succ]
        refine wpAnyH_ready (rs := [4, 11]) (by kernel_rfl) (by simp) ?_
        refine (AllReadyH.cons (o := _) rfl (fun K hK => ?rt4_32) (AllReadyH.cons (o := _) rfl (fun K hK => ?rt11_32) AllReadyH.nil))
        case rt4_32 =>
          simp only [List.getElem_toArray, List.getElem_cons_succ, List.getElem_cons_zero]
          go_simp
          have hbz9 := hHeld.2.size
          go_at_call 80
          refine (refLower k.x k.y k.s _).mono ?_
          rintro e wc4 ⟨rfl, hbq⟩
          replace hP10 := Lib.hid ((hbq.block _ (Array.getElem?_eq_some_iff.1 hP10.out).1).trans hP10.out)
          refine hK.out _ _ (keepR hbz hHeld (hbq.mono hbz9)) (fun hHeld => ?_)
          clear hbq hbz9
          clear hK K
          try simp only [List.getElem_toArray, List.getElem_cons_succ, List.getElem_cons_zero, Act.put, List.setIfInBounds_toArray, List.set_cons_zero, List.set_cons_succ]
          refine wpAnyH_ready (rs := [9, 11]) (by kernel_rfl) (by simp) ?_
          refine (AllReadyH.cons (o := _) rfl (fun K hK => ?rt9_33) (AllReadyH.cons (o := _) rfl (fun K hK => ?rt11_33) AllReadyH.nil))
          case rt9_33 =>
            simp only [List.getElem_toArray, List.getElem_cons_succ, List.getElem_cons_zero]
            go_simp
            have hbz9 := hHeld.2.size
            go_at_call 81
            refine (refUpper k.x k.y k.s _ x1 x2 y1 y2 ks1 ks2).mono ?_
            rintro e wc9 ⟨rfl, hbq⟩
            replace hP10 := Lib.hid ((hbq.block _ (Array.getElem?_eq_some_iff.1 hP10.out).1).trans hP10.out)
            refine hK.out _ _ (keepR hbz hHeld (hbq.mono hbz9)) (fun hHeld => ?_)
            clear hbq hbz9
            clear hK K
            try simp only [List.getElem_toArray, List.getElem_cons_succ, List.getElem_cons_zero, Act.put, List.setIfInBounds_toArray, List.set_cons_zero, List.set_cons_succ]
            refine wpAnyH_ready (rs := [11]) (by kernel_rfl) (by simp) ?_
            refine (AllReadyH.cons (o := _) rfl (fun K hK => ?rt11_34) AllReadyH.nil)
            case rt11_34 =>
              simp only [List.getElem_toArray, List.getElem_cons_succ, List.getElem_cons_zero]
              go_simp
              have hbz9 := hHeld.2.size
              obtain ⟨Wa6, hWa⟩ : ∃ W, wc9.alloc (.cells #[.int .i64 0, .int .i64 0] 26) = W := ⟨_, rfl⟩
              have hP11 := Lib.hid (show Wa6.heap[wc9.heap.size]? = some (.cells #[.int .i64 0, .int .i64 0] 26 (0, 0)) by rw [← hWa]; exact heap_alloc_new _ _)
              have hNE := Lib.hid (show wr.heap.size ≠ wc9.heap.size by have := (Array.getElem?_eq_some_iff.1 hP10.out).1; omega)
              replace hP10 := Lib.hid (show Wa6.heap[wr.heap.size]? = some (.cells #[.int .i64 0, .int .i64 0] 26 (0, 0)) by rw [← hWa]; exact (Below.heap_alloc _ _ _ (Array.getElem?_eq_some_iff.1 hP10.out).1).trans hP10.out)
              have hAd11 := Lib.hid (show wr.heap.size ≤ wc9.heap.size from hbz9)
              have hal : Below wr.heap.size wc9 Wa6 := by rw [← hWa]; exact (Below.refl _ _).alloc hbz9 _
              rw [hWa]
              refine hK.out _ _ (keepR hbz hHeld hal) (fun hHeld => ?_)
              clear hWa hal hbz9
              obtain ⟨p0, p1, pf⟩ := two_at hP10.out
              obtain ⟨q0, q1, qf⟩ := two_at hP11.out
              clear hK K
              try simp only [List.getElem_toArray, List.getElem_cons_succ, List.getElem_cons_zero, Act.put, List.setIfInBounds_toArray, List.set_cons_zero, List.set_cons_succ]
              refine wpAnyH_ready (rs := [12]) (by kernel_rfl) (by simp) ?_
              refine (AllReadyH.cons (o := _) rfl (fun K hK => ?rt12_35) AllReadyH.nil)
              case rt12_35 =>
                simp only [List.getElem_toArray, List.getElem_cons_succ, List.getElem_cons_zero]
                go_simp
                obtain ⟨Ws5, hWs, hQ10, hQo, hQb⟩ := st2 (.int .i64 k.x) (.int .i64 k.y) hP10.out hAd10.out hP11.out (by first | exact hNE.out | exact hNE.out.symm)
                rw [hWs]
                refine hK.out _ _ (keepR hbz hHeld hQb) (fun hHeld => ?_)
                replace hP10 := Lib.hid hQ10
                replace hP11 := Lib.hid hQo
                clear hWs hQ10 hQo hQb p0 p1 pf q0 q1 qf
                obtain ⟨p0, p1, pf⟩ := two_at hP10.out
                obtain ⟨q0, q1, qf⟩ := two_at hP11.out
                clear hK K
                try simp only [List.getElem_toArray, List.getElem_cons_succ, List.getElem_cons_zero, Act.put, List.setIfInBounds_toArray, List.set_cons_zero, List.set_cons_succ]
                refine wpAnyH_ready (rs := [13]) (by kernel_rfl) (by simp) ?_
                refine (AllReadyH.cons (o := _) rfl (fun K hK => ?rt13_36) AllReadyH.nil)
                case rt13_36 =>
                  simp only [List.getElem_toArray, List.getElem_cons_succ, List.getElem_cons_zero]
                  go_simp
                  obtain ⟨Ws6, hWs, hQ11, hQo, hQb⟩ := st2 (.int .i64 (k.x + k.s)) (.int .i64 (k.y + 1)) hP11.out hAd11.out hP10.out (by first | exact hNE.out | exact hNE.out.symm)
                  rw [hWs]
                  refine hK.out _ _ (keepR hbz hHeld hQb) (fun hHeld => ?_)
                  replace hP11 := Lib.hid hQ11
                  replace hP10 := Lib.hid hQo
                  clear hWs hQ11 hQo hQb p0 p1 pf q0 q1 qf
                  obtain ⟨p0, p1, pf⟩ := two_at hP10.out
                  obtain ⟨q0, q1, qf⟩ := two_at hP11.out
                  clear hK K
                  try simp only [List.getElem_toArray, List.getElem_cons_succ, List.getElem_cons_zero, Act.put, List.setIfInBounds_toArray, List.set_cons_zero, List.set_cons_succ]
                  refine wpAnyH_done (by kernel_rfl) ?_ _
                  have m1 : IntKind.i64.wrap (-k.y) = -k.y := by rw [IntKind.wrap_i64]; omega
                  have m2 : IntKind.i64.wrap (-(k.y + 1)) = -(k.y + 1) := by rw [IntKind.wrap_i64]; omega
                  have hbel := hHeld.1.2.2.2.1
                  have hO5 := Lib.hid (ownsRow_below hown.out hHeld.2)
                  clear hHeld hP10 hP11 hNE hAd10 hAd11 d0 d1 d2
                  go_wp2_with fail
                  refine (refBetweenTurn k _ x1 x2 y1 y2 hks.out).mono ?_
                  rintro e w7 ⟨rfl, hb7⟩
                  have hO7 := ownsRow_below hO5.out hb7
                  have hbz5 := hbel.size
                  have hbel7 := hbel.trans (hb7.mono hbz5)
                  have hbz7 := hbel7.size
                  clear p0 p1 pf q0 q1 qf hO5 hb7 hbel m1 m2
                  go_wp2_with (at_builtin; refine wpList_append_own _ rfl _ _ 22 rfl w.heap.size 24 ib (.agg #[.int .i64 0, .int .i64 0, .int .i64 0]) 3 24 Tryz.underlying22 HIB.out HB0.out HB1.out HB2.out rfl (by decide) _ _ _ rfl (World.ownsRow.alloc hO7 _) ⟨w7.heap.size, 0, none⟩ 1 1 [.int .i64 (turnB k).x, .int .i64 (turnB k).y, .int .i64 (turnB k).s] rfl rfl (three_new _ _ _ _ _) ?c2 ?c3 ?c4 ?c5 ?_)
                  case c2 => intro u hu; simp at hu; rcases hu with rfl | rfl | rfl <;> rfl
                  case c3 => unfold maxLen; omega
                  case c4 => omega
                  case c5 => simp; omega
                  intro v' w8 hown8 hgrow8 _
                  have B8 : Below w.heap.size w w8 := (hbel7.alloc (by omega) _).grown hgrow8 (by simp; omega) (ownsRow_base hO7)
                  have HO8 := Lib.hid hown8
                  clear hown8 hgrow8 hO7
                  go_wp2
                  go_roundw
                  case rel => exact ⟨j + 1, by omega, by go_num, Lib.hid (by rw [HFY.out, List.length_append, bcellsL_snoc]; exact HO8.out), B8⟩
                  case measure => simp [intOf]; omega
          case rt11_33 =>
            simp only [List.getElem_toArray, List.getElem_cons_succ, List.getElem_cons_zero]
            go_simp
            have hbz9 := hHeld.2.size
            obtain ⟨Wa6, hWa⟩ : ∃ W, wc4.alloc (.cells #[.int .i64 0, .int .i64 0] 26) = W := ⟨_, rfl⟩
            have hP11 := Lib.hid (show Wa6.heap[wc4.heap.size]? = some (.cells #[.int .i64 0, .int .i64 0] 26 (0, 0)) by rw [← hWa]; exact heap_alloc_new _ _)
            have hNE := Lib.hid (show wr.heap.size ≠ wc4.heap.size by have := (Array.getElem?_eq_some_iff.1 hP10.out).1; omega)
            replace hP10 := Lib.hid (show Wa6.heap[wr.heap.size]? = some (.cells #[.int .i64 0, .int .i64 0] 26 (0, 0)) by rw [← hWa]; exact (Below.heap_alloc _ _ _ (Array.getElem?_eq_some_iff.1 hP10.out).1).trans hP10.out)
            have hAd11 := Lib.hid (show wr.heap.size ≤ wc4.heap.size from hbz9)
            have hal : Below wr.heap.size wc4 Wa6 := by rw [← hWa]; exact (Below.refl _ _).alloc hbz9 _
            rw [hWa]
            refine hK.out _ _ (keepR hbz hHeld hal) (fun hHeld => ?_)
            clear hWa hal hbz9
            clear hK K
            try simp only [List.getElem_toArray, List.getElem_cons_succ, List.getElem_cons_zero, Act.put, List.setIfInBounds_toArray, List.set_cons_zero, List.set_cons_succ]
            refine wpAnyH_ready (rs := [9]) (by kernel_rfl) (by simp) ?_
            refine (AllReadyH.cons (o := _) rfl (fun K hK => ?rt9_37) AllReadyH.nil)
            case rt9_37 =>
              simp only [List.getElem_toArray, List.getElem_cons_succ, List.getElem_cons_zero]
              go_simp
              have hbz9 := hHeld.2.size
              go_at_call 81
              refine (refUpper k.x k.y k.s _ x1 x2 y1 y2 ks1 ks2).mono ?_
              rintro e wc9 ⟨rfl, hbq⟩
              replace hP10 := Lib.hid ((hbq.block _ (Array.getElem?_eq_some_iff.1 hP10.out).1).trans hP10.out)
              replace hP11 := Lib.hid ((hbq.block _ (Array.getElem?_eq_some_iff.1 hP11.out).1).trans hP11.out)
              refine hK.out _ _ (keepR hbz hHeld (hbq.mono hbz9)) (fun hHeld => ?_)
              clear hbq hbz9
              obtain ⟨p0, p1, pf⟩ := two_at hP10.out
              obtain ⟨q0, q1, qf⟩ := two_at hP11.out
              clear hK K
              try simp only [List.getElem_toArray, List.getElem_cons_succ, List.getElem_cons_zero, Act.put, List.setIfInBounds_toArray, List.set_cons_zero, List.set_cons_succ]
              refine wpAnyH_ready (rs := [12]) (by kernel_rfl) (by simp) ?_
              refine (AllReadyH.cons (o := _) rfl (fun K hK => ?rt12_38) AllReadyH.nil)
              case rt12_38 =>
                simp only [List.getElem_toArray, List.getElem_cons_succ, List.getElem_cons_zero]
                go_simp
                obtain ⟨Ws5, hWs, hQ10, hQo, hQb⟩ := st2 (.int .i64 k.x) (.int .i64 k.y) hP10.out hAd10.out hP11.out (by first | exact hNE.out | exact hNE.out.symm)
                rw [hWs]
                refine hK.out _ _ (keepR hbz hHeld hQb) (fun hHeld => ?_)
                replace hP10 := Lib.hid hQ10
                replace hP11 := Lib.hid hQo
                clear hWs hQ10 hQo hQb p0 p1 pf q0 q1 qf
                obtain ⟨p0, p1, pf⟩ := two_at hP10.out
                obtain ⟨q0, q1, qf⟩ := two_at hP11.out
                clear hK K
                try simp only [List.getElem_toArray, List.getElem_cons_succ, List.getElem_cons_zero, Act.put, List.setIfInBounds_toArray, List.set_cons_zero, List.set_cons_succ]
                refine wpAnyH_ready (rs := [13]) (by kernel_rfl) (by simp) ?_
                refine (AllReadyH.cons (o := _) rfl (fun K hK => ?rt13_39) AllReadyH.nil)
                case rt13_39 =>
                  simp only [List.getElem_toArray, List.getElem_cons_succ, List.getElem_cons_zero]
                  go_simp
                  obtain ⟨Ws6, hWs, hQ11, hQo, hQb⟩ := st2 (.int .i64 (k.x + k.s)) (.int .i64 (k.y + 1)) hP11.out hAd11.out hP10.out (by first | exact hNE.out | exact hNE.out.symm)
                  rw [hWs]
                  refine hK.out _ _ (keepR hbz hHeld hQb) (fun hHeld => ?_)
                  replace hP11 := Lib.hid hQ11
                  replace hP10 := Lib.hid hQo
                  clear hWs hQ11 hQo hQb p0 p1 pf q0 q1 qf
                  obtain ⟨p0, p1, pf⟩ := two_at hP10.out
                  obtain ⟨q0, q1, qf⟩ := two_at hP11.out
                  clear hK K
                  try simp only [List.getElem_toArray, List.getElem_cons_succ, List.getElem_cons_zero, Act.put, List.setIfInBounds_toArray, List.set_cons_zero, List.set_cons_succ]
                  refine wpAnyH_done (by kernel_rfl) ?_ _
                  have m1 : IntKind.i64.wrap (-k.y) = -k.y := by rw [IntKind.wrap_i64]; omega
                  have m2 : IntKind.i64.wrap (-(k.y + 1)) = -(k.y + 1) := by rw [IntKind.wrap_i64]; omega
                  have hbel := hHeld.1.2.2.2.1
                  have hO5 := Lib.hid (ownsRow_below hown.out hHeld.2)
                  clear hHeld hP10 hP11 hNE hAd10 hAd11 d0 d1 d2
                  go_wp2_with fail
                  refine (refBetweenTurn k _ x1 x2 y1 y2 hks.out).mono ?_
                  rintro e w7 ⟨rfl, hb7⟩
                  have hO7 := ownsRow_below hO5.out hb7
                  have hbz5 := hbel.size
                  have hbel7 := hbel.trans (hb7.mono hbz5)
                  have hbz7 := hbel7.size
                  clear p0 p1 pf q0 q1 qf hO5 hb7 hbel m1 m2
                  go_wp2_with (at_builtin; refine wpList_append_own _ rfl _ _ 22 rfl w.heap.size 24 ib (.agg #[.int .i64 0, .int .i64 0, .int .i64 0]) 3 24 Tryz.underlying22 HIB.out HB0.out HB1.out HB2.out rfl (by decide) _ _ _ rfl (World.ownsRow.alloc hO7 _) ⟨w7.heap.size, 0, none⟩ 1 1 [.int .i64 (turnB k).x, .int .i64 (turnB k).y, .int .i64 (turnB k).s] rfl rfl (three_new _ _ _ _ _) ?c2 ?c3 ?c4 ?c5 ?_)
                  case c2 => intro u hu; simp at hu; rcases hu with rfl | rfl | rfl <;> rfl
                  case c3 => unfold maxLen; omega
                  case c4 => omega
                  case c5 => simp; omega
                  intro v' w8 hown8 hgrow8 _
                  have B8 : Below w.heap.size w w8 := (hbel7.alloc (by omega) _).grown hgrow8 (by simp; omega) (ownsRow_base hO7)
                  have HO8 := Lib.hid hown8
                  clear hown8 hgrow8 hO7
                  go_wp2
                  go_roundw
                  case rel => exact ⟨j + 1, by omega, by go_num, Lib.hid (by rw [HFY.out, List.length_append, bcellsL_snoc]; exact HO8.out), B8⟩
                  case measure => simp [intOf]; omega
        case rt11_32 =>
          simp only [List.getElem_toArray, List.getElem_cons_succ, List.getElem_cons_zero]
          go_simp
          have hbz9 := hHeld.2.size
          obtain ⟨Wa6, hWa⟩ : ∃ W, Wa5.alloc (.cells #[.int .i64 0, .int .i64 0] 26) = W := ⟨_, rfl⟩
          have hP11 := Lib.hid (show Wa6.heap[Wa5.heap.size]? = some (.cells #[.int .i64 0, .int .i64 0] 26 (0, 0)) by rw [← hWa]; exact heap_alloc_new _ _)
          have hNE := Lib.hid (show wr.heap.size ≠ Wa5.heap.size by have := (Array.getElem?_eq_some_iff.1 hP10.out).1; omega)
          replace hP10 := Lib.hid (show Wa6.heap[wr.heap.size]? = some (.cells #[.int .i64 0, .int .i64 0] 26 (0, 0)) by rw [← hWa]; exact (Below.heap_alloc _ _ _ (Array.getElem?_eq_some_iff.1 hP10.out).1).trans hP10.out)
          have hAd11 := Lib.hid (show wr.heap.size ≤ Wa5.heap.size from hbz9)
          have hal : Below wr.heap.size Wa5 Wa6 := by rw [← hWa]; exact (Below.refl _ _).alloc hbz9 _
          rw [hWa]
          refine hK.out _ _ (keepR hbz hHeld hal) (fun hHeld => ?_)
          clear hWa hal hbz9
          clear hK K
          try simp only [List.getElem_toArray, List.getElem_cons_succ, List.getElem_cons_zero, Act.put, List.setIfInBounds_toArray, List.set_cons_zero, List.set_cons_succ]
          refine wpAnyH_ready (rs := [4]) (by kernel_rfl) (by simp) ?_
          refine (AllReadyH.cons (o := _) rfl (fun K hK => ?rt4_40) AllReadyH.nil)
          case rt4_40 =>
            simp only [List.getElem_toArray, List.getElem_cons_succ, List.getElem_cons_zero]
            go_simp
            have hbz9 := hHeld.2.size
            go_at_call 80
            refine (refLower k.x k.y k.s _).mono ?_
            rintro e wc4 ⟨rfl, hbq⟩
            replace hP10 := Lib.hid ((hbq.block _ (Array.getElem?_eq_some_iff.1 hP10.out).1).trans hP10.out)
            replace hP11 := Lib.hid ((hbq.block _ (Array.getElem?_eq_some_iff.1 hP11.out).1).trans hP11.out)
            refine hK.out _ _ (keepR hbz hHeld (hbq.mono hbz9)) (fun hHeld => ?_)
            clear hbq hbz9
            clear hK K
            try simp only [List.getElem_toArray, List.getElem_cons_succ, List.getElem_cons_zero, Act.put, List.setIfInBounds_toArray, List.set_cons_zero, List.set_cons_succ]
            refine wpAnyH_ready (rs := [9]) (by kernel_rfl) (by simp) ?_
            refine (AllReadyH.cons (o := _) rfl (fun K hK => ?rt9_41) AllReadyH.nil)
            case rt9_41 =>
              simp only [List.getElem_toArray, List.getElem_cons_succ, List.getElem_cons_zero]
              go_simp
              have hbz9 := hHeld.2.size
              go_at_call 81
              refine (refUpper k.x k.y k.s _ x1 x2 y1 y2 ks1 ks2).mono ?_
              rintro e wc9 ⟨rfl, hbq⟩
              replace hP10 := Lib.hid ((hbq.block _ (Array.getElem?_eq_some_iff.1 hP10.out).1).trans hP10.out)
              replace hP11 := Lib.hid ((hbq.block _ (Array.getElem?_eq_some_iff.1 hP11.out).1).trans hP11.out)
              refine hK.out _ _ (keepR hbz hHeld (hbq.mono hbz9)) (fun hHeld => ?_)
              clear hbq hbz9
              obtain ⟨p0, p1, pf⟩ := two_at hP10.out
              obtain ⟨q0, q1, qf⟩ := two_at hP11.out
              clear hK K
              try simp only [List.getElem_toArray, List.getElem_cons_succ, List.getElem_cons_zero, Act.put, List.setIfInBounds_toArray, List.set_cons_zero, List.set_cons_succ]
              refine wpAnyH_ready (rs := [12]) (by kernel_rfl) (by simp) ?_
              refine (AllReadyH.cons (o := _) rfl (fun K hK => ?rt12_42) AllReadyH.nil)
              case rt12_42 =>
                simp only [List.getElem_toArray, List.getElem_cons_succ, List.getElem_cons_zero]
                go_simp
                obtain ⟨Ws5, hWs, hQ10, hQo, hQb⟩ := st2 (.int .i64 k.x) (.int .i64 k.y) hP10.out hAd10.out hP11.out (by first | exact hNE.out | exact hNE.out.symm)
                rw [hWs]
                refine hK.out _ _ (keepR hbz hHeld hQb) (fun hHeld => ?_)
                replace hP10 := Lib.hid hQ10
                replace hP11 := Lib.hid hQo
                clear hWs hQ10 hQo hQb p0 p1 pf q0 q1 qf
                obtain ⟨p0, p1, pf⟩ := two_at hP10.out
                obtain ⟨q0, q1, qf⟩ := two_at hP11.out
                clear hK K
                try simp only [List.getElem_toArray, List.getElem_cons_succ, List.getElem_cons_zero, Act.put, List.setIfInBounds_toArray, List.set_cons_zero, List.set_cons_succ]
                refine wpAnyH_ready (rs := [13]) (by kernel_rfl) (by simp) ?_
                refine (AllReadyH.cons (o := _) rfl (fun K hK => ?rt13_43) AllReadyH.nil)
                case rt13_43 =>
                  simp only [List.getElem_toArray, List.getElem_cons_succ, List.getElem_cons_zero]
                  go_simp
                  obtain ⟨Ws6, hWs, hQ11, hQo, hQb⟩ := st2 (.int .i64 (k.x + k.s)) (.int .i64 (k.y + 1)) hP11.out hAd11.out hP10.out (by first | exact hNE.out | exact hNE.out.symm)
                  rw [hWs]
                  refine hK.out _ _ (keepR hbz hHeld hQb) (fun hHeld => ?_)
                  replace hP11 := Lib.hid hQ11
                  replace hP10 := Lib.hid hQo
                  clear hWs hQ11 hQo hQb p0 p1 pf q0 q1 qf
                  obtain ⟨p0, p1, pf⟩ := two_at hP10.out
                  obtain ⟨q0, q1, qf⟩ := two_at hP11.out
                  clear hK K
                  try simp only [List.getElem_toArray, List.getElem_cons_succ, List.getElem_cons_zero, Act.put, List.setIfInBounds_toArray, List.set_cons_zero, List.set_cons_succ]
                  refine wpAnyH_done (by kernel_rfl) ?_ _
                  have m1 : IntKind.i64.wrap (-k.y) = -k.y := by rw [IntKind.wrap_i64]; omega
                  have m2 : IntKind.i64.wrap (-(k.y + 1)) = -(k.y + 1) := by rw [IntKind.wrap_i64]; omega
                  have hbel := hHeld.1.2.2.2.1
                  have hO5 := Lib.hid (ownsRow_below hown.out hHeld.2)
                  clear hHeld hP10 hP11 hNE hAd10 hAd11 d0 d1 d2
                  go_wp2_with fail
                  refine (refBetweenTurn k _ x1 x2 y1 y2 hks.out).mono ?_
                  rintro e w7 ⟨rfl, hb7⟩
                  have hO7 := ownsRow_below hO5.out hb7
                  have hbz5 := hbel.size
                  have hbel7 := hbel.trans (hb7.mono hbz5)
                  have hbz7 := hbel7.size
                  clear p0 p1 pf q0 q1 qf hO5 hb7 hbel m1 m2
                  go_wp2_with (at_builtin; refine wpList_append_own _ rfl _ _ 22 rfl w.heap.size 24 ib (.agg #[.int .i64 0, .int .i64 0, .int .i64 0]) 3 24 Tryz.underlying22 HIB.out HB0.out HB1.out HB2.out rfl (by decide) _ _ _ rfl (World.ownsRow.alloc hO7 _) ⟨w7.heap.size, 0, none⟩ 1 1 [.int .i64 (turnB k).x, .int .i64 (turnB k).y, .int .i64 (turnB k).s] rfl rfl (three_new _ _ _ _ _) ?c2 ?c3 ?c4 ?c5 ?_)
                  case c2 => intro u hu; simp at hu; rcases hu with rfl | rfl | rfl <;> rfl
                  case c3 => unfold maxLen; omega
                  case c4 => omega
                  case c5 => simp; omega
                  intro v' w8 hown8 hgrow8 _
                  have B8 : Below w.heap.size w w8 := (hbel7.alloc (by omega) _).grown hgrow8 (by simp; omega) (ownsRow_base hO7)
                  have HO8 := Lib.hid hown8
                  clear hown8 hgrow8 hO7
                  go_wp2
                  go_roundw
                  case rel => exact ⟨j + 1, by omega, by go_num, Lib.hid (by rw [HFY.out, List.length_append, bcellsL_snoc]; exact HO8.out), B8⟩
                  case measure => simp [intOf]; omega
      case rt11_9 =>
        simp only [List.getElem_toArray, List.getElem_cons_succ, List.getElem_cons_zero]
        go_simp
        have hbz9 := hHeld.2.size
        obtain ⟨Wa6, hWa⟩ : ∃ W, wr.drew.alloc (.cells #[.int .i64 0, .int .i64 0] 26) = W := ⟨_, rfl⟩
        have hP11 := Lib.hid (show Wa6.heap[wr.heap.size]? = some (.cells #[.int .i64 0, .int .i64 0] 26 (0, 0)) by rw [← hWa]; exact heap_alloc_new _ _)
        have hAd11 := Lib.hid (show wr.heap.size ≤ wr.heap.size from hbz9)
        have hal : Below wr.heap.size wr.drew Wa6 := by rw [← hWa]; exact (Below.refl _ _).alloc hbz9 _
        rw [show (wr.alloc (.cells #[.int .i64 0, .int .i64 0] 26)).drew = Wa6 from hWa]
        refine hK.out _ _ (keepR hbz hHeld hal) (fun hHeld => ?_)
        clear hWa hal hbz9
        clear hK K
        try simp only [List.getElem_toArray, List.getElem_cons_succ, List.getElem_cons_zero, Act.put, List.setIfInBounds_toArray, List.set_cons_zero, List.set_cons_succ]
        refine wpAnyH_ready (rs := [4, 10]) (by kernel_rfl) (by simp) ?_
        refine (AllReadyH.cons (o := _) rfl (fun K hK => ?rt4_44) (AllReadyH.cons (o := _) rfl (fun K hK => ?rt10_44) AllReadyH.nil))
        case rt4_44 =>
          simp only [List.getElem_toArray, List.getElem_cons_succ, List.getElem_cons_zero]
          go_simp
          have hbz9 := hHeld.2.size
          go_at_call 80
          refine (refLower k.x k.y k.s _).mono ?_
          rintro e wc4 ⟨rfl, hbq⟩
          replace hP11 := Lib.hid ((hbq.block _ (Array.getElem?_eq_some_iff.1 hP11.out).1).trans hP11.out)
          refine hK.out _ _ (keepR hbz hHeld (hbq.mono hbz9)) (fun hHeld => ?_)
          clear hbq hbz9
          clear hK K
          try simp only [List.getElem_toArray, List.getElem_cons_succ, List.getElem_cons_zero, Act.put, List.setIfInBounds_toArray, List.set_cons_zero, List.set_cons_succ]
          refine wpAnyH_ready (rs := [9, 10]) (by kernel_rfl) (by simp) ?_
          refine (AllReadyH.cons (o := _) rfl (fun K hK => ?rt9_45) (AllReadyH.cons (o := _) rfl (fun K hK => ?rt10_45) AllReadyH.nil))
          case rt9_45 =>
            simp only [List.getElem_toArray, List.getElem_cons_succ, List.getElem_cons_zero]
            go_simp
            have hbz9 := hHeld.2.size
            go_at_call 81
            refine (refUpper k.x k.y k.s _ x1 x2 y1 y2 ks1 ks2).mono ?_
            rintro e wc9 ⟨rfl, hbq⟩
            replace hP11 := Lib.hid ((hbq.block _ (Array.getElem?_eq_some_iff.1 hP11.out).1).trans hP11.out)
            refine hK.out _ _ (keepR hbz hHeld (hbq.mono hbz9)) (fun hHeld => ?_)
            clear hbq hbz9
            clear hK K
            try simp only [List.getElem_toArray, List.getElem_cons_succ, List.getElem_cons_zero, Act.put, List.setIfInBounds_toArray, List.set_cons_zero, List.set_cons_succ]
            refine wpAnyH_ready (rs := [10]) (by kernel_rfl) (by simp) ?_
            refine (AllReadyH.cons (o := _) rfl (fun K hK => ?rt10_46) AllReadyH.nil)
            case rt10_46 =>
              simp only [List.getElem_toArray, List.getElem_cons_succ, List.getElem_cons_zero]
              go_simp
              have hbz9 := hHeld.2.size
              obtain ⟨Wa5, hWa⟩ : ∃ W, wc9.alloc (.cells #[.int .i64 0, .int .i64 0] 26) = W := ⟨_, rfl⟩
              have hP10 := Lib.hid (show Wa5.heap[wc9.heap.size]? = some (.cells #[.int .i64 0, .int .i64 0] 26 (0, 0)) by rw [← hWa]; exact heap_alloc_new _ _)
              have hNE := Lib.hid (show wr.heap.size ≠ wc9.heap.size by have := (Array.getElem?_eq_some_iff.1 hP11.out).1; omega)
              replace hP11 := Lib.hid (show Wa5.heap[wr.heap.size]? = some (.cells #[.int .i64 0, .int .i64 0] 26 (0, 0)) by rw [← hWa]; exact (Below.heap_alloc _ _ _ (Array.getElem?_eq_some_iff.1 hP11.out).1).trans hP11.out)
              have hAd10 := Lib.hid (show wr.heap.size ≤ wc9.heap.size from hbz9)
              have hal : Below wr.heap.size wc9 Wa5 := by rw [← hWa]; exact (Below.refl _ _).alloc hbz9 _
              rw [hWa]
              refine hK.out _ _ (keepR hbz hHeld hal) (fun hHeld => ?_)
              clear hWa hal hbz9
              obtain ⟨p0, p1, pf⟩ := two_at hP10.out
              obtain ⟨q0, q1, qf⟩ := two_at hP11.out
              clear hK K
              try simp only [List.getElem_toArray, List.getElem_cons_succ, List.getElem_cons_zero, Act.put, List.setIfInBounds_toArray, List.set_cons_zero, List.set_cons_succ]
              refine wpAnyH_ready (rs := [12]) (by kernel_rfl) (by simp) ?_
              refine (AllReadyH.cons (o := _) rfl (fun K hK => ?rt12_47) AllReadyH.nil)
              case rt12_47 =>
                simp only [List.getElem_toArray, List.getElem_cons_succ, List.getElem_cons_zero]
                go_simp
                obtain ⟨Ws5, hWs, hQ10, hQo, hQb⟩ := st2 (.int .i64 k.x) (.int .i64 k.y) hP10.out hAd10.out hP11.out (by first | exact hNE.out | exact hNE.out.symm)
                rw [hWs]
                refine hK.out _ _ (keepR hbz hHeld hQb) (fun hHeld => ?_)
                replace hP10 := Lib.hid hQ10
                replace hP11 := Lib.hid hQo
                clear hWs hQ10 hQo hQb p0 p1 pf q0 q1 qf
                obtain ⟨p0, p1, pf⟩ := two_at hP10.out
                obtain ⟨q0, q1, qf⟩ := two_at hP11.out
                clear hK K
                try simp only [List.getElem_toArray, List.getElem_cons_succ, List.getElem_cons_zero, Act.put, List.setIfInBounds_toArray, List.set_cons_zero, List.set_cons_succ]
                refine wpAnyH_ready (rs := [13]) (by kernel_rfl) (by simp) ?_
                refine (AllReadyH.cons (o := _) rfl (fun K hK => ?rt13_48) AllReadyH.nil)
                case rt13_48 =>
                  simp only [List.getElem_toArray, List.getElem_cons_succ, List.getElem_cons_zero]
                  go_simp
                  obtain ⟨Ws6, hWs, hQ11, hQo, hQb⟩ := st2 (.int .i64 (k.x + k.s)) (.int .i64 (k.y + 1)) hP11.out hAd11.out hP10.out (by first | exact hNE.out | exact hNE.out.symm)
                  rw [hWs]
                  refine hK.out _ _ (keepR hbz hHeld hQb) (fun hHeld => ?_)
                  replace hP11 := Lib.hid hQ11
                  replace hP10 := Lib.hid hQo
                  clear hWs hQ11 hQo hQb p0 p1 pf q0 q1 qf
                  obtain ⟨p0, p1, pf⟩ := two_at hP10.out
                  obtain ⟨q0, q1, qf⟩ := two_at hP11.out
                  clear hK K
                  try simp only [List.getElem_toArray, List.getElem_cons_succ, List.getElem_cons_zero, Act.put, List.setIfInBounds_toArray, List.set_cons_zero, List.set_cons_succ]
                  refine wpAnyH_done (by kernel_rfl) ?_ _
                  have m1 : IntKind.i64.wrap (-k.y) = -k.y := by rw [IntKind.wrap_i64]; omega
                  have m2 : IntKind.i64.wrap (-(k.y + 1)) = -(k.y + 1) := by rw [IntKind.wrap_i64]; omega
                  have hbel := hHeld.1.2.2.2.1
                  have hO5 := Lib.hid (ownsRow_below hown.out hHeld.2)
                  clear hHeld hP10 hP11 hNE hAd10 hAd11 d0 d1 d2
                  go_wp2_with fail
                  refine (refBetweenTurn k _ x1 x2 y1 y2 hks.out).mono ?_
                  rintro e w7 ⟨rfl, hb7⟩
                  have hO7 := ownsRow_below hO5.out hb7
                  have hbz5 := hbel.size
                  have hbel7 := hbel.trans (hb7.mono hbz5)
                  have hbz7 := hbel7.size
                  clear p0 p1 pf q0 q1 qf hO5 hb7 hbel m1 m2
                  go_wp2_with (at_builtin; refine wpList_append_own _ rfl _ _ 22 rfl w.heap.size 24 ib (.agg #[.int .i64 0, .int .i64 0, .int .i64 0]) 3 24 Tryz.underlying22 HIB.out HB0.out HB1.out HB2.out rfl (by decide) _ _ _ rfl (World.ownsRow.alloc hO7 _) ⟨w7.heap.size, 0, none⟩ 1 1 [.int .i64 (turnB k).x, .int .i64 (turnB k).y, .int .i64 (turnB k).s] rfl rfl (three_new _ _ _ _ _) ?c2 ?c3 ?c4 ?c5 ?_)
                  case c2 => intro u hu; simp at hu; rcases hu with rfl | rfl | rfl <;> rfl
                  case c3 => unfold maxLen; omega
                  case c4 => omega
                  case c5 => simp; omega
                  intro v' w8 hown8 hgrow8 _
                  have B8 : Below w.heap.size w w8 := (hbel7.alloc (by omega) _).grown hgrow8 (by simp; omega) (ownsRow_base hO7)
                  have HO8 := Lib.hid hown8
                  clear hown8 hgrow8 hO7
                  go_wp2
                  go_roundw
                  case rel => exact ⟨j + 1, by omega, by go_num, Lib.hid (by rw [HFY.out, List.length_append, bcellsL_snoc]; exact HO8.out), B8⟩
                  case measure => simp [intOf]; omega
          case rt10_45 =>
            simp only [List.getElem_toArray, List.getElem_cons_succ, List.getElem_cons_zero]
            go_simp
            have hbz9 := hHeld.2.size
            obtain ⟨Wa5, hWa⟩ : ∃ W, wc4.alloc (.cells #[.int .i64 0, .int .i64 0] 26) = W := ⟨_, rfl⟩
            have hP10 := Lib.hid (show Wa5.heap[wc4.heap.size]? = some (.cells #[.int .i64 0, .int .i64 0] 26 (0, 0)) by rw [← hWa]; exact heap_alloc_new _ _)
            have hNE := Lib.hid (show wr.heap.size ≠ wc4.heap.size by have := (Array.getElem?_eq_some_iff.1 hP11.out).1; omega)
            replace hP11 := Lib.hid (show Wa5.heap[wr.heap.size]? = some (.cells #[.int .i64 0, .int .i64 0] 26 (0, 0)) by rw [← hWa]; exact (Below.heap_alloc _ _ _ (Array.getElem?_eq_some_iff.1 hP11.out).1).trans hP11.out)
            have hAd10 := Lib.hid (show wr.heap.size ≤ wc4.heap.size from hbz9)
            have hal : Below wr.heap.size wc4 Wa5 := by rw [← hWa]; exact (Below.refl _ _).alloc hbz9 _
            rw [hWa]
            refine hK.out _ _ (keepR hbz hHeld hal) (fun hHeld => ?_)
            clear hWa hal hbz9
            clear hK K
            try simp only [List.getElem_toArray, List.getElem_cons_succ, List.getElem_cons_zero, Act.put, List.setIfInBounds_toArray, List.set_cons_zero, List.set_cons_succ]
            refine wpAnyH_ready (rs := [9]) (by kernel_rfl) (by simp) ?_
            refine (AllReadyH.cons (o := _) rfl (fun K hK => ?rt9_49) AllReadyH.nil)
            case rt9_49 =>
              simp only [List.getElem_toArray, List.getElem_cons_succ, List.getElem_cons_zero]
              go_simp
              have hbz9 := hHeld.2.size
              go_at_call 81
              refine (refUpper k.x k.y k.s _ x1 x2 y1 y2 ks1 ks2).mono ?_
              rintro e wc9 ⟨rfl, hbq⟩
              replace hP10 := Lib.hid ((hbq.block _ (Array.getElem?_eq_some_iff.1 hP10.out).1).trans hP10.out)
              replace hP11 := Lib.hid ((hbq.block _ (Array.getElem?_eq_some_iff.1 hP11.out).1).trans hP11.out)
              refine hK.out _ _ (keepR hbz hHeld (hbq.mono hbz9)) (fun hHeld => ?_)
              clear hbq hbz9
              obtain ⟨p0, p1, pf⟩ := two_at hP10.out
              obtain ⟨q0, q1, qf⟩ := two_at hP11.out
              clear hK K
              try simp only [List.getElem_toArray, List.getElem_cons_succ, List.getElem_cons_zero, Act.put, List.setIfInBounds_toArray, List.set_cons_zero, List.set_cons_succ]
              refine wpAnyH_ready (rs := [12]) (by kernel_rfl) (by simp) ?_
              refine (AllReadyH.cons (o := _) rfl (fun K hK => ?rt12_50) AllReadyH.nil)
              case rt12_50 =>
                simp only [List.getElem_toArray, List.getElem_cons_succ, List.getElem_cons_zero]
                go_simp
                obtain ⟨Ws5, hWs, hQ10, hQo, hQb⟩ := st2 (.int .i64 k.x) (.int .i64 k.y) hP10.out hAd10.out hP11.out (by first | exact hNE.out | exact hNE.out.symm)
                rw [hWs]
                refine hK.out _ _ (keepR hbz hHeld hQb) (fun hHeld => ?_)
                replace hP10 := Lib.hid hQ10
                replace hP11 := Lib.hid hQo
                clear hWs hQ10 hQo hQb p0 p1 pf q0 q1 qf
                obtain ⟨p0, p1, pf⟩ := two_at hP10.out
                obtain ⟨q0, q1, qf⟩ := two_at hP11.out
                clear hK K
                try simp only [List.getElem_toArray, List.getElem_cons_succ, List.getElem_cons_zero, Act.put, List.setIfInBounds_toArray, List.set_cons_zero, List.set_cons_succ]
                refine wpAnyH_ready (rs := [13]) (by kernel_rfl) (by simp) ?_
                refine (AllReadyH.cons (o := _) rfl (fun K hK => ?rt13_51) AllReadyH.nil)
                case rt13_51 =>
                  simp only [List.getElem_toArray, List.getElem_cons_succ, List.getElem_cons_zero]
                  go_simp
                  obtain ⟨Ws6, hWs, hQ11, hQo, hQb⟩ := st2 (.int .i64 (k.x + k.s)) (.int .i64 (k.y + 1)) hP11.out hAd11.out hP10.out (by first | exact hNE.out | exact hNE.out.symm)
                  rw [hWs]
                  refine hK.out _ _ (keepR hbz hHeld hQb) (fun hHeld => ?_)
                  replace hP11 := Lib.hid hQ11
                  replace hP10 := Lib.hid hQo
                  clear hWs hQ11 hQo hQb p0 p1 pf q0 q1 qf
                  obtain ⟨p0, p1, pf⟩ := two_at hP10.out
                  obtain ⟨q0, q1, qf⟩ := two_at hP11.out
                  clear hK K
                  try simp only [List.getElem_toArray, List.getElem_cons_succ, List.getElem_cons_zero, Act.put, List.setIfInBounds_toArray, List.set_cons_zero, List.set_cons_succ]
                  refine wpAnyH_done (by kernel_rfl) ?_ _
                  have m1 : IntKind.i64.wrap (-k.y) = -k.y := by rw [IntKind.wrap_i64]; omega
                  have m2 : IntKind.i64.wrap (-(k.y + 1)) = -(k.y + 1) := by rw [IntKind.wrap_i64]; omega
                  have hbel := hHeld.1.2.2.2.1
                  have hO5 := Lib.hid (ownsRow_below hown.out hHeld.2)
                  clear hHeld hP10 hP11 hNE hAd10 hAd11 d0 d1 d2
                  go_wp2_with fail
                  refine (refBetweenTurn k _ x1 x2 y1 y2 hks.out).mono ?_
                  rintro e w7 ⟨rfl, hb7⟩
                  have hO7 := ownsRow_below hO5.out hb7
                  have hbz5 := hbel.size
                  have hbel7 := hbel.trans (hb7.mono hbz5)
                  have hbz7 := hbel7.size
                  clear p0 p1 pf q0 q1 qf hO5 hb7 hbel m1 m2
                  go_wp2_with (at_builtin; refine wpList_append_own _ rfl _ _ 22 rfl w.heap.size 24 ib (.agg #[.int .i64 0, .int .i64 0, .int .i64 0]) 3 24 Tryz.underlying22 HIB.out HB0.out HB1.out HB2.out rfl (by decide) _ _ _ rfl (World.ownsRow.alloc hO7 _) ⟨w7.heap.size, 0, none⟩ 1 1 [.int .i64 (turnB k).x, .int .i64 (turnB k).y, .int .i64 (turnB k).s] rfl rfl (three_new _ _ _ _ _) ?c2 ?c3 ?c4 ?c5 ?_)
                  case c2 => intro u hu; simp at hu; rcases hu with rfl | rfl | rfl <;> rfl
                  case c3 => unfold maxLen; omega
                  case c4 => omega
                  case c5 => simp; omega
                  intro v' w8 hown8 hgrow8 _
                  have B8 : Below w.heap.size w w8 := (hbel7.alloc (by omega) _).grown hgrow8 (by simp; omega) (ownsRow_base hO7)
                  have HO8 := Lib.hid hown8
                  clear hown8 hgrow8 hO7
                  go_wp2
                  go_roundw
                  case rel => exact ⟨j + 1, by omega, by go_num, Lib.hid (by rw [HFY.out, List.length_append, bcellsL_snoc]; exact HO8.out), B8⟩
                  case measure => simp [intOf]; omega
        case rt10_44 =>
          simp only [List.getElem_toArray, List.getElem_cons_succ, List.getElem_cons_zero]
          go_simp
          have hbz9 := hHeld.2.size
          obtain ⟨Wa5, hWa⟩ : ∃ W, Wa6.alloc (.cells #[.int .i64 0, .int .i64 0] 26) = W := ⟨_, rfl⟩
          have hP10 := Lib.hid (show Wa5.heap[Wa6.heap.size]? = some (.cells #[.int .i64 0, .int .i64 0] 26 (0, 0)) by rw [← hWa]; exact heap_alloc_new _ _)
          have hNE := Lib.hid (show wr.heap.size ≠ Wa6.heap.size by have := (Array.getElem?_eq_some_iff.1 hP11.out).1; omega)
          replace hP11 := Lib.hid (show Wa5.heap[wr.heap.size]? = some (.cells #[.int .i64 0, .int .i64 0] 26 (0, 0)) by rw [← hWa]; exact (Below.heap_alloc _ _ _ (Array.getElem?_eq_some_iff.1 hP11.out).1).trans hP11.out)
          have hAd10 := Lib.hid (show wr.heap.size ≤ Wa6.heap.size from hbz9)
          have hal : Below wr.heap.size Wa6 Wa5 := by rw [← hWa]; exact (Below.refl _ _).alloc hbz9 _
          rw [hWa]
          refine hK.out _ _ (keepR hbz hHeld hal) (fun hHeld => ?_)
          clear hWa hal hbz9
          clear hK K
          try simp only [List.getElem_toArray, List.getElem_cons_succ, List.getElem_cons_zero, Act.put, List.setIfInBounds_toArray, List.set_cons_zero, List.set_cons_succ]
          refine wpAnyH_ready (rs := [4]) (by kernel_rfl) (by simp) ?_
          refine (AllReadyH.cons (o := _) rfl (fun K hK => ?rt4_52) AllReadyH.nil)
          case rt4_52 =>
            simp only [List.getElem_toArray, List.getElem_cons_succ, List.getElem_cons_zero]
            go_simp
            have hbz9 := hHeld.2.size
            go_at_call 80
            refine (refLower k.x k.y k.s _).mono ?_
            rintro e wc4 ⟨rfl, hbq⟩
            replace hP10 := Lib.hid ((hbq.block _ (Array.getElem?_eq_some_iff.1 hP10.out).1).trans hP10.out)
            replace hP11 := Lib.hid ((hbq.block _ (Array.getElem?_eq_some_iff.1 hP11.out).1).trans hP11.out)
            refine hK.out _ _ (keepR hbz hHeld (hbq.mono hbz9)) (fun hHeld => ?_)
            clear hbq hbz9
            clear hK K
            try simp only [List.getElem_toArray, List.getElem_cons_succ, List.getElem_cons_zero, Act.put, List.setIfInBounds_toArray, List.set_cons_zero, List.set_cons_succ]
            refine wpAnyH_ready (rs := [9]) (by kernel_rfl) (by simp) ?_
            refine (AllReadyH.cons (o := _) rfl (fun K hK => ?rt9_53) AllReadyH.nil)
            case rt9_53 =>
              simp only [List.getElem_toArray, List.getElem_cons_succ, List.getElem_cons_zero]
              go_simp
              have hbz9 := hHeld.2.size
              go_at_call 81
              refine (refUpper k.x k.y k.s _ x1 x2 y1 y2 ks1 ks2).mono ?_
              rintro e wc9 ⟨rfl, hbq⟩
              replace hP10 := Lib.hid ((hbq.block _ (Array.getElem?_eq_some_iff.1 hP10.out).1).trans hP10.out)
              replace hP11 := Lib.hid ((hbq.block _ (Array.getElem?_eq_some_iff.1 hP11.out).1).trans hP11.out)
              refine hK.out _ _ (keepR hbz hHeld (hbq.mono hbz9)) (fun hHeld => ?_)
              clear hbq hbz9
              obtain ⟨p0, p1, pf⟩ := two_at hP10.out
              obtain ⟨q0, q1, qf⟩ := two_at hP11.out
              clear hK K
              try simp only [List.getElem_toArray, List.getElem_cons_succ, List.getElem_cons_zero, Act.put, List.setIfInBounds_toArray, List.set_cons_zero, List.set_cons_succ]
              refine wpAnyH_ready (rs := [12]) (by kernel_rfl) (by simp) ?_
              refine (AllReadyH.cons (o := _) rfl (fun K hK => ?rt12_54) AllReadyH.nil)
              case rt12_54 =>
                simp only [List.getElem_toArray, List.getElem_cons_succ, List.getElem_cons_zero]
                go_simp
                obtain ⟨Ws5, hWs, hQ10, hQo, hQb⟩ := st2 (.int .i64 k.x) (.int .i64 k.y) hP10.out hAd10.out hP11.out (by first | exact hNE.out | exact hNE.out.symm)
                rw [hWs]
                refine hK.out _ _ (keepR hbz hHeld hQb) (fun hHeld => ?_)
                replace hP10 := Lib.hid hQ10
                replace hP11 := Lib.hid hQo
                clear hWs hQ10 hQo hQb p0 p1 pf q0 q1 qf
                obtain ⟨p0, p1, pf⟩ := two_at hP10.out
                obtain ⟨q0, q1, qf⟩ := two_at hP11.out
                clear hK K
                try simp only [List.getElem_toArray, List.getElem_cons_succ, List.getElem_cons_zero, Act.put, List.setIfInBounds_toArray, List.set_cons_zero, List.set_cons_succ]
                refine wpAnyH_ready (rs := [13]) (by kernel_rfl) (by simp) ?_
                refine (AllReadyH.cons (o := _) rfl (fun K hK => ?rt13_55) AllReadyH.nil)
                case rt13_55 =>
                  simp only [List.getElem_toArray, List.getElem_cons_succ, List.getElem_cons_zero]
                  go_simp
                  obtain ⟨Ws6, hWs, hQ11, hQo, hQb⟩ := st2 (.int .i64 (k.x + k.s)) (.int .i64 (k.y + 1)) hP11.out hAd11.out hP10.out (by first | exact hNE.out | exact hNE.out.symm)
                  rw [hWs]
                  refine hK.out _ _ (keepR hbz hHeld hQb) (fun hHeld => ?_)
                  replace hP11 := Lib.hid hQ11
                  replace hP10 := Lib.hid hQo
                  clear hWs hQ11 hQo hQb p0 p1 pf q0 q1 qf
                  obtain ⟨p0, p1, pf⟩ := two_at hP10.out
                  obtain ⟨q0, q1, qf⟩ := two_at hP11.out
                  clear hK K
                  try simp only [List.getElem_toArray, List.getElem_cons_succ, List.getElem_cons_zero, Act.put, List.setIfInBounds_toArray, List.set_cons_zero, List.set_cons_succ]
                  refine wpAnyH_done (by kernel_rfl) ?_ _
                  have m1 : IntKind.i64.wrap (-k.y) = -k.y := by rw [IntKind.wrap_i64]; omega
                  have m2 : IntKind.i64.wrap (-(k.y + 1)) = -(k.y + 1) := by rw [IntKind.wrap_i64]; omega
                  have hbel := hHeld.1.2.2.2.1
                  have hO5 := Lib.hid (ownsRow_below hown.out hHeld.2)
                  clear hHeld hP10 hP11 hNE hAd10 hAd11 d0 d1 d2
                  go_wp2_with fail
                  refine (refBetweenTurn k _ x1 x2 y1 y2 hks.out).mono ?_
                  rintro e w7 ⟨rfl, hb7⟩
                  have hO7 := ownsRow_below hO5.out hb7
                  have hbz5 := hbel.size
                  have hbel7 := hbel.trans (hb7.mono hbz5)
                  have hbz7 := hbel7.size
                  clear p0 p1 pf q0 q1 qf hO5 hb7 hbel m1 m2
                  go_wp2_with (at_builtin; refine wpList_append_own _ rfl _ _ 22 rfl w.heap.size 24 ib (.agg #[.int .i64 0, .int .i64 0, .int .i64 0]) 3 24 Tryz.underlying22 HIB.out HB0.out HB1.out HB2.out rfl (by decide) _ _ _ rfl (World.ownsRow.alloc hO7 _) ⟨w7.heap.size, 0, none⟩ 1 1 [.int .i64 (turnB k).x, .int .i64 (turnB k).y, .int .i64 (turnB k).s] rfl rfl (three_new _ _ _ _ _) ?c2 ?c3 ?c4 ?c5 ?_)
                  case c2 => intro u hu; simp at hu; rcases hu with rfl | rfl | rfl <;> rfl
                  case c3 => unfold maxLen; omega
                  case c4 => omega
                  case c5 => simp; omega
                  intro v' w8 hown8 hgrow8 _
                  have B8 : Below w.heap.size w w8 := (hbel7.alloc (by omega) _).grown hgrow8 (by simp; omega) (ownsRow_base hO7)
                  have HO8 := Lib.hid hown8
                  clear hown8 hgrow8 hO7
                  go_wp2
                  go_roundw
                  case rel => exact ⟨j + 1, by omega, by go_num, Lib.hid (by rw [HFY.out, List.length_append, bcellsL_snoc]; exact HO8.out), B8⟩
                  case measure => simp [intOf]; omega
    · obtain rfl : j = l.length := by omega
      have h9 := hown.out
      rw [List.take_length] at h9
      obtain ⟨a2, c2, rfl, ok2⟩ := own_oks h9
      have HO := Lib.hid ok2.2.2.2
      have HLN := Lib.hid (show (l.map turnB).length ≤ 4096 by rw [List.length_map]; exact hl)
      clear h9 hown ok2 hln
      generalize l.map turnB = m at *
      go_wp2_with fail
      refine (refSorted a2 c2 m _ HLN.out HO.out).mono ?_
      rintro e w3 ⟨v3, rfl, hrow3, hb3⟩
      rw [HU.out] at hrow3
      obtain ⟨a3, c3, rfl, ok3⟩ := own_oks hrow3
      have HO3 := Lib.hid ok3
      clear hrow3 ok3
      go_wp2
      go_ret
      exact ⟨a3, c3, rfl, HO3.out, hb.trans (hb3.mono hb.size)⟩
end Go.Proofs.YtdeplhihcifmeaaGreatDoor
