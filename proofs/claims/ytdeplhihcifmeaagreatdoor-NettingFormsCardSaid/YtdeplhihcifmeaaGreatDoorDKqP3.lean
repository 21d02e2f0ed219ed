/- Helpers: DKqP3. -/
import Derived.Test.YtdeplhihcifmeaaGreatDoorDKqP2
import Derived.Deep.RegionHeld3
import Derived.ProofKit
import Derived.Deep.Slices
import Derived.Deep.Fields
/- The reference's Shifted. -/
namespace Go.Proofs.YtdeplhihcifmeaaGreatDoor
open Go.RowKit Go.Shelf Ck

theorem st3 {w : World} {g base : Nat} {x0 y0 z0 : Value} {t : TypeId} (x y z : Value) (h : w.heap[g]? = some (.cells #[x0, y0, z0] t (0, 0))) (hb : base ≤ g) :
    ∃ w', ((w.setCell ⟨g, 0, none⟩ x).setCell ⟨g, 1, none⟩ y).setCell ⟨g, 2, none⟩ z = w' ∧ w'.heap[g]? = some (.cells #[x, y, z] t (0, 0)) ∧ Below base w w' := by
  obtain ⟨s1, _⟩ := setBlockAt h 0 x
  obtain ⟨s2, _⟩ := setBlockAt s1 1 y
  obtain ⟨s3, _⟩ := setBlockAt s2 2 z
  exact ⟨_, rfl, s3, (((Below.refl _ _).setCell hb _).setCell hb _).setCell hb _⟩
def ShfPost (u : List Bar) (r : Bool) (w : World) (e : Ending) (w' : World) : Prop := ∃ a c, e = .returned (.tuple #[.slice a u.length c, .bool r]) ∧ OKS w' a c u ∧ Below w.heap.size w w'
set_option maxHeartbeats 8000000 in
set_option maxRecDepth 100000 in
theorem refShifted (A : Option Addr) (c : Nat) (l u : List Ck.Bar) (dx dy : Int) (r : Bool) (w : World) (hu : l.map (Bar.shift dx dy) = u) (hr : l.all (inB dx dy) = r) (hl : l.length ≤ 4096) (hok : ∀ x ∈ l, okBar x) (hK : knotE dx dy = 0) (h : OKS w A c l) :
    Calls Tryz.prog 66 #[.slice A l.length c, .agg #[.int .i64 dx, .int .i64 dy]] w (ShfPost u r w) := by
  obtain ⟨k1, k2, k3, k4⟩ := knotE_zero hK
  obtain ⟨ib, hib, hb0, hb01, hb02⟩ := info_parts Tryz.info24
  have HIB := Lib.hid hib
  have HB0 := Lib.hid hb0
  have HB1 := Lib.hid hb01
  have HB2 := Lib.hid hb02
  obtain ⟨w1, hw1, z0, z1, hb1, hz1⟩ := box2 w (.int .i64 dx) (.int .i64 dy) 26
  have Q : ∀ {W : World}, Below w1.heap.size w1 W → W.cell? ⟨w.heap.size, 0, none⟩ = some (.int .i64 dx) ∧ W.cell? ⟨w.heap.size, 1, none⟩ = some (.int .i64 dy) := fun hb => ⟨(hb.cell (p := ⟨w.heap.size, 0, none⟩) hz1).trans z0, (hb.cell (p := ⟨w.heap.size, 1, none⟩) hz1).trans z1⟩
  have HW1 := Lib.hid hw1
  have HR := Lib.hid (h.below hb1)
  have HU := Lib.hid hu
  have HRR := Lib.hid hr
  have HOK := Lib.hid hok
  have hl' : (l.length : Int) ≤ 4096 := by omega
  clear hib hb0 hb01 hb02 h hu hok hr hw1 z0 z1 hK
  go_enter Tryz.func66, Tryz.ntmps66
  go_wp2_with fail
  rw [← HW1.out]
  go_wp2_with fail
  go_loopw [6, 7, 8] (fun v b i wr => ∃ j : Nat, j ≤ l.length ∧ i = .int .i64 j ∧ b = .bool ((l.take j).all (inB dx dy)) ∧ Hid (wr.ownsRow w1.heap.size 24 3 v ((l.take j).map (Bar.shift dx dy)).length (bcellsL ((l.take j).map (Bar.shift dx dy)))) ∧ Below w1.heap.size w1 wr) (fun _ _ i _ => l.length - (intOf i).toNat)
  case atStart => exact ⟨0, Nat.zero_le _, rfl, rfl, Lib.hid ⟨rfl, .inl ⟨rfl, rfl⟩⟩, Below.refl _ _⟩
  case round =>
    obtain ⟨j, hj, rfl, rfl, hown, hb⟩ := hrel
    have hbz := hb.size
    have hln : ((l.take j).map (Bar.shift dx dy)).length ≤ 4096 := by rw [List.length_map, List.length_take]; omega
    by_cases hlt : j < l.length
    · obtain ⟨b, off, rfl, hB, hc⟩ := ((HR.out.below hb).2.2.2) (by omega)
      obtain ⟨d0, d1, d2⟩ := hc j hlt
      have hj1 : (j : Int) < (l.length : Int) := by omega
      have hj0 : (0 : Int) ≤ (j : Int) := by omega
      clear hc
      obtain ⟨k, hk⟩ : ∃ k, l[j] = k := ⟨_, rfl⟩
      have HFY := Lib.hid (show (l.take (j + 1)).map (Bar.shift dx dy) = (l.take j).map (Bar.shift dx dy) ++ [k.shift dx dy] by rw [List.take_succ_eq_append_getElem hlt, List.map_append, hk]; rfl)
      have HALL := Lib.hid (show (l.take (j + 1)).all (inB dx dy) = ((l.take j).all (inB dx dy) && inB dx dy k) by rw [List.take_succ_eq_append_getElem hlt, List.all_append, hk]; simp)
      have HKO := Lib.hid (show okBar k by rw [← hk]; exact HOK.out _ (List.getElem_mem hlt))
      rw [hk] at d0 d1 d2
      obtain ⟨⟨⟨x1, x2⟩, ⟨y1, y2⟩, -⟩, ks, -, -⟩ := HKO.out
      simp only [Bar.lo] at x1 x2 y1 y2
      have ks1 : -1 ≤ k.s := by omega
      have ks2 : k.s ≤ 1 := by omega
      have CR : ∀ {W : World}, Below wr.heap.size wr W → W.cell? ⟨b, off + j * 3, none⟩ = some (.int .i64 k.x) ∧ W.cell? ⟨b, off + j * 3 + 1, none⟩ = some (.int .i64 k.y) ∧ W.cell? ⟨b, off + j * 3 + 2, none⟩ = some (.int .i64 k.s) :=
        fun hq => ⟨(hq.cell (p := ⟨b, off + j * 3, none⟩) hB).trans d0, (hq.cell (p := ⟨b, off + j * 3 + 1, none⟩) hB).trans d1, (hq.cell (p := ⟨b, off + j * 3 + 2, none⟩) hB).trans d2⟩
      have m1 : IntKind.i64.wrap (k.x + dx) = k.x + dx := by rw [IntKind.wrap_i64]; omega
      have m2 : IntKind.i64.wrap (k.y + dy) = k.y + dy := by rw [IntKind.wrap_i64]; omega
      have m3 : IntKind.i64.wrap (k.x + dx + k.s) = k.x + dx + k.s := by rw [IntKind.wrap_i64]; omega
      have m4 : IntKind.i64.wrap (k.y + dy + 1) = k.y + dy + 1 := by rw [IntKind.wrap_i64]; omega
      clear hk ks d0 d1 d2
      generalize (l.take j).map (Bar.shift dx dy) = F at *
      obtain ⟨R, hisR⟩ : ∃ R, (l.take j).all (inB dx dy) = R := ⟨_, rfl⟩
      rw [hisR]
      go_wp2_with fail
      refine wp_region_held_drew (S := (fun w' => Below wr.heap.size wr w')) (by kernel_rfl) ?_ (fun hHeld => ?_)
      · exact below_drew (Below.refl _ _)
      refine wpAnyH_take (i := 0) (oi := _) (v := ?vs0_1) rfl (by kernel_rfl) (by kernel_rfl) (by kernel_rfl) (fun _ _ _ h => h) (Or.inl ⟨by rfl, ?hys0_1⟩) (by assumption) ?rests0_1
      case hys0_1 => (intro w hSw; (try dsimp only at hSw); go_simp; first | done | rfl)
      try simp only [List.getElem_toArray, List.getElem_cons_succ, List.getElem_cons_zero, Act.put, List.setIfInBounds_toArray, List.set_cons_zero, List.set_cons_succ]
      refine wpAnyH_take (i := 1) (oi := _) (v := ?vs1_2) rfl (by kernel_rfl) (by kernel_rfl) (by kernel_rfl) (fun _ _ _ h => h) (Or.inl ⟨by rfl, ?hys1_2⟩) (by assumption) ?rests1_2
      case hys1_2 => (intro w hSw; (try dsimp only at hSw); go_simp; first | done | rfl)
      try simp only [List.getElem_toArray, List.getElem_cons_succ, List.getElem_cons_zero, Act.put, List.setIfInBounds_toArray, List.set_cons_zero, List.set_cons_succ]
      refine wpAnyH_take (i := 2) (oi := _) (v := ?vs2_3) rfl (by kernel_rfl) (by kernel_rfl) (by kernel_rfl) (fun _ _ _ h => h) (Or.inl ⟨by rfl, ?hys2_3⟩) (by assumption) ?rests2_3
      case hys2_3 => (intro w hSw; (try dsimp only at hSw); go_simp; first | done | rfl)
      try simp only [List.getElem_toArray, List.getElem_cons_succ, List.getElem_cons_zero, Act.put, List.setIfInBounds_toArray, List.set_cons_zero, List.set_cons_succ]
      refine wpAnyH_take (i := 3) (oi := _) (v := ?vs3_4) rfl (by kernel_rfl) (by kernel_rfl) (by kernel_rfl) (fun _ _ _ h => h) (Or.inl ⟨by rfl, ?hys3_4⟩) (by assumption) ?rests3_4
      case hys3_4 => (intro w hSw; (try dsimp only at hSw); go_simp; first | done | rfl)
      try simp only [List.getElem_toArray, List.getElem_cons_succ, List.getElem_cons_zero, Act.put, List.setIfInBounds_toArray, List.set_cons_zero, List.set_cons_succ]
      refine wpAnyH_take (i := 4) (oi := _) (v := ?vs4_5) rfl (by kernel_rfl) (by kernel_rfl) (by kernel_rfl) (fun _ _ _ h => h) (Or.inl ⟨by rfl, ?hys4_5⟩) (by assumption) ?rests4_5
      case hys4_5 => (intro w hSw; (try dsimp only at hSw); obtain ⟨q0, q1⟩ := Q (hbT hb hSw); obtain ⟨e0, e1, e2⟩ := CR hSw; go_simp; first | done | rfl)
      try simp only [List.getElem_toArray, List.getElem_cons_succ, List.getElem_cons_zero, Act.put, List.setIfInBounds_toArray, List.set_cons_zero, List.set_cons_succ]
      refine wpAnyH_take (i := 5) (oi := _) (v := ?vs5_6) rfl (by kernel_rfl) (by kernel_rfl) (by kernel_rfl) (fun _ _ _ h => h) (Or.inl ⟨by rfl, ?hys5_6⟩) (by assumption) ?rests5_6
      case hys5_6 => (intro w hSw; (try dsimp only at hSw); go_simp; first | done | rfl)
      try simp only [List.getElem_toArray, List.getElem_cons_succ, List.getElem_cons_zero, Act.put, List.setIfInBounds_toArray, List.set_cons_zero, List.set_cons_succ]
      refine wpAnyH_take (i := 6) (oi := _) (v := ?vs6_7) rfl (by kernel_rfl) (by kernel_rfl) (by kernel_rfl) (fun _ _ _ h => h) (Or.inl ⟨by rfl, ?hys6_7⟩) (by assumption) ?rests6_7
      case hys6_7 => (intro w hSw; (try dsimp only at hSw); obtain ⟨q0, q1⟩ := Q (hbT hb hSw); obtain ⟨e0, e1, e2⟩ := CR hSw; go_simp; first | done | rfl)
      try simp only [List.getElem_toArray, List.getElem_cons_succ, List.getElem_cons_zero, Act.put, List.setIfInBounds_toArray, List.set_cons_zero, List.set_cons_succ]
      refine wpAnyH_take (i := 7) (oi := _) (v := ?vs7_8) rfl (by kernel_rfl) (by kernel_rfl) (by kernel_rfl) (fun _ _ _ h => h) (Or.inl ⟨by rfl, ?hys7_8⟩) (by assumption) ?rests7_8
      case hys7_8 => (intro w hSw; (try dsimp only at hSw); go_simp; first | done | rfl)
      try simp only [List.getElem_toArray, List.getElem_cons_succ, List.getElem_cons_zero, Act.put, List.setIfInBounds_toArray, List.set_cons_zero, List.set_cons_succ]
      refine wpAnyH_take (i := 8) (oi := _) (v := ?vs8_9) rfl (by kernel_rfl) (by kernel_rfl) (by kernel_rfl) (fun _ _ _ h => h) (Or.inl ⟨by rfl, ?hys8_9⟩) (by assumption) ?rests8_9
      case hys8_9 => (intro w hSw; (try dsimp only at hSw); go_simp; first | done | rfl)
      try simp only [List.getElem_toArray, List.getElem_cons_succ, List.getElem_cons_zero, Act.put, List.setIfInBounds_toArray, List.set_cons_zero, List.set_cons_succ]
      refine wpAnyH_take (i := 9) (oi := _) (v := ?vs9_10) rfl (by kernel_rfl) (by kernel_rfl) (by kernel_rfl) (fun _ _ _ h => h) (Or.inl ⟨by rfl, ?hys9_10⟩) (by assumption) ?rests9_10
      case hys9_10 => (intro w hSw; (try dsimp only at hSw); go_simp; first | done | rfl)
      try simp only [List.getElem_toArray, List.getElem_cons_succ, List.getElem_cons_zero, Act.put, List.setIfInBounds_toArray, List.set_cons_zero, List.set_cons_succ]
      refine wpAnyH_take (i := 10) (oi := _) (v := ?vs10_11) rfl (by kernel_rfl) (by kernel_rfl) (by kernel_rfl) (fun _ _ _ h => h) (Or.inl ⟨by rfl, ?hys10_11⟩) (by assumption) ?rests10_11
      case hys10_11 => (intro w hSw; (try dsimp only at hSw); go_simp; first | done | rfl)
      try simp only [List.getElem_toArray, List.getElem_cons_succ, List.getElem_cons_zero, Act.put, List.setIfInBounds_toArray, List.set_cons_zero, List.set_cons_succ]
      refine wpAnyH_take (i := 11) (oi := _) (v := ?vs11_12) rfl (by kernel_rfl) (by kernel_rfl) (by kernel_rfl) (fun _ _ _ h => h) (Or.inl ⟨by rfl, ?hys11_12⟩) (by assumption) ?rests11_12
      case hys11_12 => (intro w hSw; (try dsimp only at hSw); go_simp; first | done | rfl)
      try simp only [List.getElem_toArray, List.getElem_cons_succ, List.getElem_cons_zero, Act.put, List.setIfInBounds_toArray, List.set_cons_zero, List.set_cons_succ]
      refine wpAnyH_take (i := 12) (oi := _) (v := ?vs12_13) rfl (by kernel_rfl) (by kernel_rfl) (by kernel_rfl) (fun _ _ _ h => h) (Or.inl ⟨by rfl, ?hys12_13⟩) (by assumption) ?rests12_13
      case hys12_13 => (intro w hSw; (try dsimp only at hSw); obtain ⟨q0, q1⟩ := Q (hbT hb hSw); obtain ⟨e0, e1, e2⟩ := CR hSw; go_simp; first | done | rfl)
      try simp only [List.getElem_toArray, List.getElem_cons_succ, List.getElem_cons_zero, Act.put, List.setIfInBounds_toArray, List.set_cons_zero, List.set_cons_succ]
      refine wpAnyH_take (i := 13) (oi := _) (v := ?vs13_14) rfl (by kernel_rfl) (by kernel_rfl) (by kernel_rfl) (fun _ _ _ h => h) (Or.inl ⟨by rfl, ?hys13_14⟩) (by assumption) ?rests13_14
      case hys13_14 => (intro w hSw; (try dsimp only at hSw); go_simp; first | done | rfl)
      try simp only [List.getElem_toArray, List.getElem_cons_succ, List.getElem_cons_zero, Act.put, List.setIfInBounds_toArray, List.set_cons_zero, List.set_cons_succ]
      refine wpAnyH_take (i := 14) (oi := _) (v := ?vs14_15) rfl (by kernel_rfl) (by kernel_rfl) (by kernel_rfl) (fun _ _ _ h => h) (Or.inl ⟨by rfl, ?hys14_15⟩) (by assumption) ?rests14_15
      case hys14_15 => (intro w hSw; (try dsimp only at hSw); obtain ⟨q0, q1⟩ := Q (hbT hb hSw); obtain ⟨e0, e1, e2⟩ := CR hSw; go_simp; first | done | rfl)
      try simp only [List.getElem_toArray, List.getElem_cons_succ, List.getElem_cons_zero, Act.put, List.setIfInBounds_toArray, List.set_cons_zero, List.set_cons_succ]
      refine wpAnyH_take (i := 15) (oi := _) (v := ?vs15_16) rfl (by kernel_rfl) (by kernel_rfl) (by kernel_rfl) (fun _ _ _ h => h) (Or.inl ⟨by rfl, ?hys15_16⟩) (by assumption) ?rests15_16
      case hys15_16 => (intro w hSw; (try dsimp only at hSw); go_simp; first | done | rfl)
      try simp only [List.getElem_toArray, List.getElem_cons_succ, List.getElem_cons_zero, Act.put, List.setIfInBounds_toArray, List.set_cons_zero, List.set_cons_succ]
      refine wpAnyH_take (i := 16) (oi := _) (v := ?vs16_17) rfl (by kernel_rfl) (by kernel_rfl) (by kernel_rfl) (fun _ _ _ h => h) (Or.inl ⟨by rfl, ?hys16_17⟩) (by assumption) ?rests16_17
      case hys16_17 => (intro w hSw; (try dsimp only at hSw); go_simp; first | done | rfl)
      try simp only [List.getElem_toArray, List.getElem_cons_succ, List.getElem_cons_zero, Act.put, List.setIfInBounds_toArray, List.set_cons_zero, List.set_cons_succ]
      refine wpAnyH_take (i := 17) (oi := _) (v := ?vs17_18) rfl (by kernel_rfl) (by kernel_rfl) (by kernel_rfl) (fun _ _ _ h => h) (Or.inl ⟨by rfl, ?hys17_18⟩) (by assumption) ?rests17_18
      case hys17_18 => (intro w hSw; (try dsimp only at hSw); go_simp; first | done | rfl)
      try simp only [List.getElem_toArray, List.getElem_cons_succ, List.getElem_cons_zero, Act.put, List.setIfInBounds_toArray, List.set_cons_zero, List.set_cons_succ]
      refine wpAnyH_take (i := 18) (oi := _) (v := ?vs18_19) rfl (by kernel_rfl) (by kernel_rfl) (by kernel_rfl) (fun _ _ _ h => h) (Or.inl ⟨by rfl, ?hys18_19⟩) (by assumption) ?rests18_19
      case hys18_19 => (intro w hSw; (try dsimp only at hSw); go_simp; first | done | rfl)
      try simp only [List.getElem_toArray, List.getElem_cons_succ, List.getElem_cons_zero, Act.put, List.setIfInBounds_toArray, List.set_cons_zero, List.set_cons_succ]
      refine wpAnyH_take (i := 19) (oi := _) (v := ?vs19_20) rfl (by kernel_rfl) (by kernel_rfl) (by kernel_rfl) (fun _ _ _ h => h) (Or.inl ⟨by rfl, ?hys19_20⟩) (by assumption) ?rests19_20
      case hys19_20 => (intro w hSw; (try dsimp only at hSw); go_simp; first | done | rfl)
      try simp only [List.getElem_toArray, List.getElem_cons_succ, List.getElem_cons_zero, Act.put, List.setIfInBounds_toArray, List.set_cons_zero, List.set_cons_succ]
      refine wpAnyH_take (i := 20) (oi := _) (v := ?vs20_21) rfl (by kernel_rfl) (by kernel_rfl) (by kernel_rfl) (fun _ _ _ h => h) (Or.inl ⟨by rfl, ?hys20_21⟩) (by assumption) ?rests20_21
      case hys20_21 => (intro w hSw; (try dsimp only at hSw); obtain ⟨q0, q1⟩ := Q (hbT hb hSw); obtain ⟨e0, e1, e2⟩ := CR hSw; go_simp; first | done | rfl)
      try simp only [List.getElem_toArray, List.getElem_cons_succ, List.getElem_cons_zero, Act.put, List.setIfInBounds_toArray, List.set_cons_zero, List.set_cons_succ]
      refine wpAnyH_take (i := 21) (oi := _) (v := ?vs21_22) rfl (by kernel_rfl) (by kernel_rfl) (by kernel_rfl) (fun _ _ _ h => h) (Or.inl ⟨by rfl, ?hys21_22⟩) (by assumption) ?rests21_22
      case hys21_22 => (intro w hSw; (try dsimp only at hSw); go_simp; first | done | rfl)
      try simp only [List.getElem_toArray, List.getElem_cons_succ, List.getElem_cons_zero, Act.put, List.setIfInBounds_toArray, List.set_cons_zero, List.set_cons_succ]
      refine wpAnyH_ready (rs := [22]) (by kernel_rfl) (by simp) ?_
      refine (AllReadyH.cons (o := _) rfl (fun K hK => ?rs22_23) AllReadyH.nil)
      case rs22_23 =>
        simp only [List.getElem_toArray, List.getElem_cons_succ, List.getElem_cons_zero]
        go_simp
        obtain ⟨Wa, hWa⟩ : ∃ W, wr.drew.alloc (.cells #[.int .i64 0, .int .i64 0, .int .i64 0] 24) = W := ⟨_, rfl⟩
        have hP := Lib.hid (show Wa.heap[wr.heap.size]? = some (.cells #[.int .i64 0, .int .i64 0, .int .i64 0] 24 (0, 0)) by rw [← hWa]; exact heap_alloc_new _ _)
        have hal : Below wr.heap.size wr.drew Wa := by rw [← hWa]; exact (Below.refl wr.heap.size wr.drew).alloc (Nat.le_refl wr.heap.size) _
        rw [show (wr.alloc (.cells #[.int .i64 0, .int .i64 0, .int .i64 0] 24)).drew = Wa from hWa]
        refine hK.out _ _ (Below.trans hHeld hal) (fun hHeld => ?_)
        clear hWa hal
        obtain ⟨p0, p1, p2, pf⟩ := three_of_block hP.out
        clear hK K
        try simp only [List.getElem_toArray, List.getElem_cons_succ, List.getElem_cons_zero, Act.put, List.setIfInBounds_toArray, List.set_cons_zero, List.set_cons_succ]
        refine wpAnyH_ready (rs := [23]) (by kernel_rfl) (by simp) ?_
        refine (AllReadyH.cons (o := _) rfl (fun K hK => ?rs23_24) AllReadyH.nil)
        case rs23_24 =>
          simp only [List.getElem_toArray, List.getElem_cons_succ, List.getElem_cons_zero]
          go_simp
          obtain ⟨Ws, hWs, hQ, hQb⟩ := st3 (.int .i64 (k.x + dx)) (.int .i64 (k.y + dy)) (.int .i64 k.s) hP.out (Nat.le_refl wr.heap.size)
          rw [hWs]
          refine hK.out _ _ (Below.trans hHeld hQb) (fun hHeld => ?_)
          replace hP := Lib.hid hQ
          clear hWs hQ hQb p0 p1 p2 pf
          obtain ⟨p0, p1, p2, pf⟩ := three_of_block hP.out
          clear hK K
          try simp only [List.getElem_toArray, List.getElem_cons_succ, List.getElem_cons_zero, Act.put, List.setIfInBounds_toArray, List.set_cons_zero, List.set_cons_succ]
          refine wpAnyH_done (by kernel_rfl) ?_ _
          cases R
          case false =>
            have HIS := Lib.hid hisR
            clear hisR
            have hO5 := ownsRow_below hown.out hHeld
            have hz5 := Below.size hHeld
            have hb5 := hbT hb hHeld
            clear hown
            go_wp2_with (at_builtin; refine wpList_append_own _ rfl _ _ 22 rfl w1.heap.size 24 ib (.agg #[.int .i64 0, .int .i64 0, .int .i64 0]) 3 24 Tryz.underlying22 HIB.out HB0.out HB1.out HB2.out rfl (by decide) _ _ _ rfl (World.ownsRow.alloc hO5 _) ⟨Ws.heap.size, 0, none⟩ 1 1 [.int .i64 (k.x + dx), .int .i64 (k.y + dy), .int .i64 k.s] rfl rfl (three_new _ _ _ _ _) ?c2 ?c3 ?c4 ?c5 ?_)
            case c2 => intro u hu; simp at hu; rcases hu with rfl | rfl | rfl <;> rfl
            case c3 => unfold maxLen; omega
            case c4 => omega
            case c5 => simp; omega
            intro v' w8 hown8 hgrow8 _
            have B8 : Below w1.heap.size w1 w8 := (hb5.alloc (by omega) _).grown hgrow8 (by simp; omega) (ownsRow_base hO5)
            have HO8 := Lib.hid hown8
            have hal := Lib.hid (show List.all (l.take (j + 1)) (inB dx dy) = false by rw [HALL.out, HIS.out]; simp [inB])
            clear hown8 hgrow8 hO5
            go_wp2
            go_roundw
            case rel => exact ⟨j + 1, by omega, by go_num, by rw [hal.out], Lib.hid (by rw [HFY.out, List.length_append, bcellsL_snoc]; exact HO8.out), B8⟩
            case measure => simp [intOf]; omega
          case true =>
            have HIS := Lib.hid hisR
            clear hisR
            cases f1 : farB (k.x + dx)
            case false =>
              have Hf1 := Lib.hid f1
              clear f1
              go_wp2_with fail
              refine (refFar (k.x + dx) _).mono ?_
              rintro e w7 ⟨rfl, rfl⟩
              rw [Hf1.out]
              cases f2 : farB (k.y + dy)
              case false =>
                have Hf2 := Lib.hid f2
                clear f2
                go_wp2_with fail
                refine (refFar (k.y + dy) _).mono ?_
                rintro e w7 ⟨rfl, rfl⟩
                rw [Hf2.out]
                cases f3 : farB (k.x + dx + k.s)
                case false =>
                  have Hf3 := Lib.hid f3
                  clear f3
                  go_wp2_with fail
                  refine (refFar (k.x + dx + k.s) _).mono ?_
                  rintro e w7 ⟨rfl, rfl⟩
                  rw [Hf3.out]
                  cases f4 : farB (k.y + dy + 1)
                  case false =>
                    have Hf4 := Lib.hid f4
                    clear f4
                    go_wp2_with fail
                    refine (refFar (k.y + dy + 1) _).mono ?_
                    rintro e w7 ⟨rfl, rfl⟩
                    rw [Hf4.out]
                    have hO5 := ownsRow_below hown.out hHeld
                    have hz5 := Below.size hHeld
                    have hb5 := hbT hb hHeld
                    clear hown
                    go_wp2_with (at_builtin; refine wpList_append_own _ rfl _ _ 22 rfl w1.heap.size 24 ib (.agg #[.int .i64 0, .int .i64 0, .int .i64 0]) 3 24 Tryz.underlying22 HIB.out HB0.out HB1.out HB2.out rfl (by decide) _ _ _ rfl (World.ownsRow.alloc hO5 _) ⟨Ws.heap.size, 0, none⟩ 1 1 [.int .i64 (k.x + dx), .int .i64 (k.y + dy), .int .i64 k.s] rfl rfl (three_new _ _ _ _ _) ?c2 ?c3 ?c4 ?c5 ?_)
                    case c2 => intro u hu; simp at hu; rcases hu with rfl | rfl | rfl <;> rfl
                    case c3 => unfold maxLen; omega
                    case c4 => omega
                    case c5 => simp; omega
                    intro v' w8 hown8 hgrow8 _
                    have B8 : Below w1.heap.size w1 w8 := (hb5.alloc (by omega) _).grown hgrow8 (by simp; omega) (ownsRow_base hO5)
                    have HO8 := Lib.hid hown8
                    have hal := Lib.hid (show List.all (l.take (j + 1)) (inB dx dy) = true by rw [HALL.out, HIS.out]; simp [inB, Hf1.out, Hf2.out, Hf3.out, Hf4.out])
                    clear hown8 hgrow8 hO5
                    go_wp2
                    go_roundw
                    case rel => exact ⟨j + 1, by omega, by go_num, by rw [hal.out], Lib.hid (by rw [HFY.out, List.length_append, bcellsL_snoc]; exact HO8.out), B8⟩
                    case measure => simp [intOf]; omega
                  case true =>
                    have Hf4 := Lib.hid f4
                    clear f4
                    go_wp2_with fail
                    refine (refFar (k.y + dy + 1) _).mono ?_
                    rintro e w7 ⟨rfl, rfl⟩
                    rw [Hf4.out]
                    have hO5 := ownsRow_below hown.out hHeld
                    have hz5 := Below.size hHeld
                    have hb5 := hbT hb hHeld
                    clear hown
                    go_wp2_with (at_builtin; refine wpList_append_own _ rfl _ _ 22 rfl w1.heap.size 24 ib (.agg #[.int .i64 0, .int .i64 0, .int .i64 0]) 3 24 Tryz.underlying22 HIB.out HB0.out HB1.out HB2.out rfl (by decide) _ _ _ rfl (World.ownsRow.alloc hO5 _) ⟨Ws.heap.size, 0, none⟩ 1 1 [.int .i64 (k.x + dx), .int .i64 (k.y + dy), .int .i64 k.s] rfl rfl (three_new _ _ _ _ _) ?c2 ?c3 ?c4 ?c5 ?_)
                    case c2 => intro u hu; simp at hu; rcases hu with rfl | rfl | rfl <;> rfl
                    case c3 => unfold maxLen; omega
                    case c4 => omega
                    case c5 => simp; omega
                    intro v' w8 hown8 hgrow8 _
                    have B8 : Below w1.heap.size w1 w8 := (hb5.alloc (by omega) _).grown hgrow8 (by simp; omega) (ownsRow_base hO5)
                    have HO8 := Lib.hid hown8
                    have hal := Lib.hid (show List.all (l.take (j + 1)) (inB dx dy) = false by rw [HALL.out, HIS.out]; simp [inB, Hf1.out, Hf2.out, Hf3.out, Hf4.out])
                    clear hown8 hgrow8 hO5
                    go_wp2
                    go_roundw
                    case rel => exact ⟨j + 1, by omega, by go_num, by rw [hal.out], Lib.hid (by rw [HFY.out, List.length_append, bcellsL_snoc]; exact HO8.out), B8⟩
                    case measure => simp [intOf]; omega
                case true =>
                  have Hf3 := Lib.hid f3
                  clear f3
                  go_wp2_with fail
                  refine (refFar (k.x + dx + k.s) _).mono ?_
                  rintro e w7 ⟨rfl, rfl⟩
                  rw [Hf3.out]
                  have hO5 := ownsRow_below hown.out hHeld
                  have hz5 := Below.size hHeld
                  have hb5 := hbT hb hHeld
                  clear hown
                  go_wp2_with (at_builtin; refine wpList_append_own _ rfl _ _ 22 rfl w1.heap.size 24 ib (.agg #[.int .i64 0, .int .i64 0, .int .i64 0]) 3 24 Tryz.underlying22 HIB.out HB0.out HB1.out HB2.out rfl (by decide) _ _ _ rfl (World.ownsRow.alloc hO5 _) ⟨Ws.heap.size, 0, none⟩ 1 1 [.int .i64 (k.x + dx), .int .i64 (k.y + dy), .int .i64 k.s] rfl rfl (three_new _ _ _ _ _) ?c2 ?c3 ?c4 ?c5 ?_)
                  case c2 => intro u hu; simp at hu; rcases hu with rfl | rfl | rfl <;> rfl
                  case c3 => unfold maxLen; omega
                  case c4 => omega
                  case c5 => simp; omega
                  intro v' w8 hown8 hgrow8 _
                  have B8 : Below w1.heap.size w1 w8 := (hb5.alloc (by omega) _).grown hgrow8 (by simp; omega) (ownsRow_base hO5)
                  have HO8 := Lib.hid hown8
                  have hal := Lib.hid (show List.all (l.take (j + 1)) (inB dx dy) = false by rw [HALL.out, HIS.out]; simp [inB, Hf1.out, Hf2.out, Hf3.out])
                  clear hown8 hgrow8 hO5
                  go_wp2
                  go_roundw
                  case rel => exact ⟨j + 1, by omega, by go_num, by rw [hal.out], Lib.hid (by rw [HFY.out, List.length_append, bcellsL_snoc]; exact HO8.out), B8⟩
                  case measure => simp [intOf]; omega
              case true =>
                have Hf2 := Lib.hid f2
                clear f2
                go_wp2_with fail
                refine (refFar (k.y + dy) _).mono ?_
                rintro e w7 ⟨rfl, rfl⟩
                rw [Hf2.out]
                have hO5 := ownsRow_below hown.out hHeld
                have hz5 := Below.size hHeld
                have hb5 := hbT hb hHeld
                clear hown
                go_wp2_with (at_builtin; refine wpList_append_own _ rfl _ _ 22 rfl w1.heap.size 24 ib (.agg #[.int .i64 0, .int .i64 0, .int .i64 0]) 3 24 Tryz.underlying22 HIB.out HB0.out HB1.out HB2.out rfl (by decide) _ _ _ rfl (World.ownsRow.alloc hO5 _) ⟨Ws.heap.size, 0, none⟩ 1 1 [.int .i64 (k.x + dx), .int .i64 (k.y + dy), .int .i64 k.s] rfl rfl (three_new _ _ _ _ _) ?c2 ?c3 ?c4 ?c5 ?_)
                case c2 => intro u hu; simp at hu; rcases hu with rfl | rfl | rfl <;> rfl
                case c3 => unfold maxLen; omega
                case c4 => omega
                case c5 => simp; omega
                intro v' w8 hown8 hgrow8 _
                have B8 : Below w1.heap.size w1 w8 := (hb5.alloc (by omega) _).grown hgrow8 (by simp; omega) (ownsRow_base hO5)
                have HO8 := Lib.hid hown8
                have hal := Lib.hid (show List.all (l.take (j + 1)) (inB dx dy) = false by rw [HALL.out, HIS.out]; simp [inB, Hf1.out, Hf2.out])
                clear hown8 hgrow8 hO5
                go_wp2
                go_roundw
                case rel => exact ⟨j + 1, by omega, by go_num, by rw [hal.out], Lib.hid (by rw [HFY.out, List.length_append, bcellsL_snoc]; exact HO8.out), B8⟩
                case measure => simp [intOf]; omega
            case true =>
              have Hf1 := Lib.hid f1
              clear f1
              go_wp2_with fail
              refine (refFar (k.x + dx) _).mono ?_
              rintro e w7 ⟨rfl, rfl⟩
              rw [Hf1.out]
              have hO5 := ownsRow_below hown.out hHeld
              have hz5 := Below.size hHeld
              have hb5 := hbT hb hHeld
              clear hown
              go_wp2_with (at_builtin; refine wpList_append_own _ rfl _ _ 22 rfl w1.heap.size 24 ib (.agg #[.int .i64 0, .int .i64 0, .int .i64 0]) 3 24 Tryz.underlying22 HIB.out HB0.out HB1.out HB2.out rfl (by decide) _ _ _ rfl (World.ownsRow.alloc hO5 _) ⟨Ws.heap.size, 0, none⟩ 1 1 [.int .i64 (k.x + dx), .int .i64 (k.y + dy), .int .i64 k.s] rfl rfl (three_new _ _ _ _ _) ?c2 ?c3 ?c4 ?c5 ?_)
              case c2 => intro u hu; simp at hu; rcases hu with rfl | rfl | rfl <;> rfl
              case c3 => unfold maxLen; omega
              case c4 => omega
              case c5 => simp; omega
              intro v' w8 hown8 hgrow8 _
              have B8 : Below w1.heap.size w1 w8 := (hb5.alloc (by omega) _).grown hgrow8 (by simp; omega) (ownsRow_base hO5)
              have HO8 := Lib.hid hown8
              have hal := Lib.hid (show List.all (l.take (j + 1)) (inB dx dy) = false by rw [HALL.out, HIS.out]; simp [inB, Hf1.out])
              clear hown8 hgrow8 hO5
              go_wp2
              go_roundw
              case rel => exact ⟨j + 1, by omega, by go_num, by rw [hal.out], Lib.hid (by rw [HFY.out, List.length_append, bcellsL_snoc]; exact HO8.out), B8⟩
              case measure => simp [intOf]; omega
    · obtain rfl : j = l.length := by omega
      have h9 := hown.out
      rw [List.take_length, HU.out] at h9
      rw [List.take_length, HRR.out]
      obtain ⟨a2, c2, rfl, ok2⟩ := own_oks h9
      have HO := Lib.hid ok2
      clear h9 hown ok2 hln
      go_wp2
      go_ret2
      exact ⟨a2, c2, rfl, HO.out, hb1.trans (hb.mono hb1.size)⟩
end Go.Proofs.YtdeplhihcifmeaaGreatDoor

/- Normal and before of the reference. -/
namespace Go.Proofs.YtdeplhihcifmeaaGreatDoor
open Go.RowKit Go.Shelf Ck

set_option maxHeartbeats 2000000 in
set_option maxRecDepth 100000 in
theorem refNormal (A : Option Addr) (c : Nat) (l U : List Bar) (R : Bool) (w : World) (hU : nrmR l = U) (hR : inN l = R) (hl : l.length ≤ 4096) (hN : Net l) (h : OKS w A c l) :
    Calls Tryz.prog 120 #[.slice A l.length c] w (ShfPost U R w) := by
  by_cases h0 : 0 < l.length
  · obtain ⟨x, y, hx⟩ : ∃ x y, x = (l[0]'h0).x ∧ y = (l[0]'h0).y := ⟨_, _, rfl, rfl⟩
    have HU := Lib.hid (show l.map (Bar.shift (-x) (-y)) = U by
      rw [← hU, hx.1, hx.2]
      cases l with
      | nil => simp at h0
      | cons a r => rfl)
    have HRR := Lib.hid (show l.all (inB (-x) (-y)) = R by
      rw [← hR, hx.1, hx.2]
      cases l with
      | nil => simp at h0
      | cons a r => rfl)
    obtain ⟨⟨⟨x1, x2⟩, ⟨y1, y2⟩, he⟩, -, -, -⟩ := hN.1 _ (List.getElem_mem h0)
    simp only [Bar.lo] at x1 x2 y1 y2 he
    rw [← hx.1] at x1 x2
    rw [← hx.2] at y1 y2
    rw [← hx.1, ← hx.2] at he
    have HKE := Lib.hid (show knotE (-x) (-y) = 0 from (knotE_ok _ _).2 ⟨⟨by show -100000 ≤ -x; omega, by show -x ≤ 100000; omega⟩, ⟨by show -100000 ≤ -y; omega, by show -y ≤ 100000; omega⟩, by show (-x + -y) % 2 = 0; omega⟩)
    have hn0 : ((l.length : Int) == 0) = false := by rw [beq_eq_false_iff_ne]; omega
    have hn1 : (0 : Int) < (l.length : Int) := by omega
    have hnn : ¬ l = [] := fun e => by rw [e] at h0; simp at h0
    have m1 : IntKind.i64.wrap (-x) = -x := by rw [IntKind.wrap_i64]; omega
    have m2 : IntKind.i64.wrap (-y) = -y := by rw [IntKind.wrap_i64]; omega
    obtain ⟨b, off, rfl, hB, hc⟩ := h.2.2.2 h0
    obtain ⟨d0, d1, -⟩ := hc 0 h0
    rw [← hx.1] at d0
    rw [← hx.2] at d1
    simp only [Nat.zero_mul, Nat.add_zero] at d0 d1
    have HR := Lib.hid h
    have HOK := Lib.hid hN.1
    have CR : ∀ {W : World}, Below w.heap.size w W → W.cell? ⟨b, off, none⟩ = some (.int .i64 x) ∧ W.cell? ⟨b, off + 1, none⟩ = some (.int .i64 y) := fun hq => ⟨(hq.cell (p := ⟨b, off, none⟩) hB).trans d0, (hq.cell (p := ⟨b, off + 1, none⟩) hB).trans d1⟩
    clear h hN hc hx hU hR d0 d1 he
    go_enter Tryz.func120, Tryz.ntmps120
    go_wp2_with fail
    refine wp_region_held_drew (S := (fun w' => Below w.heap.size w w')) (by kernel_rfl) ?_ (fun hHeld => ?_)
    · exact below_drew (Below.refl _ _)
    refine wpAnyH_take (i := 0) (oi := _) (v := ?vn0) rfl (by kernel_rfl) (by kernel_rfl) (by kernel_rfl) (fun _ _ _ h => h) (Or.inl ⟨by rfl, ?hyn0⟩) (by assumption) ?restn0
    case hyn0 => (intro w hSw; (try dsimp only at hSw); go_simp; first | done | rfl)
    try simp only [layA]
    refine wpAnyH_take (i := 1) (oi := _) (v := ?vn1) rfl (by kernel_rfl) (by kernel_rfl) (by kernel_rfl) (fun _ _ _ h => h) (Or.inl ⟨by rfl, ?hyn1⟩) (by assumption) ?restn1
    case hyn1 => (intro w hSw; (try dsimp only at hSw); go_simp; first | done | rfl)
    try simp only [layA]
    refine wpAnyH_take (i := 2) (oi := _) (v := ?vn2) rfl (by kernel_rfl) (by kernel_rfl) (by kernel_rfl) (fun _ _ _ h => h) (Or.inl ⟨by rfl, ?hyn2⟩) (by assumption) ?restn2
    case hyn2 => (intro w hSw; (try dsimp only at hSw); go_simp; first | done | rfl)
    try simp only [layA]
    refine wpAnyH_take (i := 3) (oi := _) (v := ?vn3) rfl (by kernel_rfl) (by kernel_rfl) (by kernel_rfl) (fun _ _ _ h => h) (Or.inl ⟨by rfl, ?hyn3⟩) (by assumption) ?restn3
    case hyn3 => (intro w hSw; (try dsimp only at hSw); go_simp; first | done | rfl)
    try simp only [layA]
    refine wpAnyH_take (i := 4) (oi := _) (v := ?vn4) rfl (by kernel_rfl) (by kernel_rfl) (by kernel_rfl) (fun _ _ _ h => h) (Or.inl ⟨by rfl, ?hyn4⟩) (by assumption) ?restn4
    case hyn4 => (intro w hSw; (try dsimp only at hSw); obtain ⟨e0, e1⟩ := CR hSw; go_simp; first | done | rfl)
    try simp only [layA]
    refine wpAnyH_take (i := 5) (oi := _) (v := ?vn5) rfl (by kernel_rfl) (by kernel_rfl) (by kernel_rfl) (fun _ _ _ h => h) (Or.inl ⟨by rfl, ?hyn5⟩) (by assumption) ?restn5
    case hyn5 => (intro w hSw; (try dsimp only at hSw); go_simp; first | done | rfl)
    try simp only [layA]
    refine wpAnyH_take (i := 6) (oi := _) (v := ?vn6) rfl (by kernel_rfl) (by kernel_rfl) (by kernel_rfl) (fun _ _ _ h => h) (Or.inl ⟨by rfl, ?hyn6⟩) (by assumption) ?restn6
    case hyn6 => (intro w hSw; (try dsimp only at hSw); go_simp; first | done | rfl)
    try simp only [layA]
    refine wpAnyH_take (i := 7) (oi := _) (v := ?vn7) rfl (by kernel_rfl) (by kernel_rfl) (by kernel_rfl) (fun _ _ _ h => h) (Or.inl ⟨by rfl, ?hyn7⟩) (by assumption) ?restn7
    case hyn7 => (intro w hSw; (try dsimp only at hSw); go_simp; first | done | rfl)
    try simp only [layA]
    refine wpAnyH_take (i := 8) (oi := _) (v := ?vn8) rfl (by kernel_rfl) (by kernel_rfl) (by kernel_rfl) (fun _ _ _ h => h) (Or.inl ⟨by rfl, ?hyn8⟩) (by assumption) ?restn8
    case hyn8 => (intro w hSw; (try dsimp only at hSw); go_simp; first | done | rfl)
    try simp only [layA]
    refine wpAnyH_take (i := 9) (oi := _) (v := ?vn9) rfl (by kernel_rfl) (by kernel_rfl) (by kernel_rfl) (fun _ _ _ h => h) (Or.inl ⟨by rfl, ?hyn9⟩) (by assumption) ?restn9
    case hyn9 => (intro w hSw; (try dsimp only at hSw); obtain ⟨e0, e1⟩ := CR hSw; go_simp; first | done | rfl)
    try simp only [layA]
    refine wpAnyH_take (i := 10) (oi := _) (v := ?vn10) rfl (by kernel_rfl) (by kernel_rfl) (by kernel_rfl) (fun _ _ _ h => h) (Or.inl ⟨by rfl, ?hyn10⟩) (by assumption) ?restn10
    case hyn10 => (intro w hSw; (try dsimp only at hSw); go_simp; first | done | rfl)
    try simp only [layA]
    refine wpAnyH_take (i := 11) (oi := _) (v := ?vn11) rfl (by kernel_rfl) (by kernel_rfl) (by kernel_rfl) (fun _ _ _ h => h) (Or.inl ⟨by rfl, ?hyn11⟩) (by assumption) ?restn11
    case hyn11 => (intro w hSw; (try dsimp only at hSw); go_simp; first | done | rfl)
    try simp only [layA]
    refine wpAnyH_ready (rs := [12]) (by kernel_rfl) (by simp) ?_
    refine AllReadyH.cons (o := _) rfl (fun K hK => ?_) AllReadyH.nil
    simp only [layG]
    go_simp
    go_at_call 66
    refine (refShifted (some ⟨b, off, none⟩) c l U (-x) (-y) R _ HU.out HRR.out hl HOK.out HKE.out (HR.out.below hHeld)).mono ?_
    rintro e w5 ⟨a5, c5, rfl, o5, hbq⟩
    refine hK.out _ _ (hbT (by assumption) hbq) (fun hHeld => ?_)
    clear hK K
    try simp only [layA]
    refine wpAnyH_take (i := 13) (oi := _) (v := ?vn13) rfl (by kernel_rfl) (by kernel_rfl) (by kernel_rfl) (fun _ _ _ h => h) (Or.inl ⟨by rfl, ?hyn13⟩) (by assumption) ?restn13
    case hyn13 => (intro w hSw; (try dsimp only at hSw); go_simp; first | done | rfl)
    try simp only [layA]
    refine wpAnyH_take (i := 14) (oi := _) (v := ?vn14) rfl (by kernel_rfl) (by kernel_rfl) (by kernel_rfl) (fun _ _ _ h => h) (Or.inl ⟨by rfl, ?hyn14⟩) (by assumption) ?restn14
    case hyn14 => (intro w hSw; (try dsimp only at hSw); go_simp; first | done | rfl)
    try simp only [layA]
    refine wpAnyH_take (i := 15) (oi := _) (v := ?vn15) rfl (by kernel_rfl) (by kernel_rfl) (by kernel_rfl) (fun _ _ _ h => h) (Or.inl ⟨by rfl, ?hyn15⟩) (by assumption) ?restn15
    case hyn15 => (intro w hSw; (try dsimp only at hSw); go_simp; first | done | rfl)
    try simp only [layA]
    refine wpAnyH_take (i := 16) (oi := _) (v := ?vn16) rfl (by kernel_rfl) (by kernel_rfl) (by kernel_rfl) (fun _ _ _ h => h) (Or.inl ⟨by rfl, ?hyn16⟩) (by assumption) ?restn16
    case hyn16 => (intro w hSw; (try dsimp only at hSw); go_simp; first | done | rfl)
    try simp only [layA]
    refine wpAnyH_done (by kernel_rfl) ?_ _
    have HO5 := Lib.hid o5
    clear o5
    go_wp2
    go_ret2
    exact ⟨a5, c5, rfl, HO5.out, hHeld⟩
  · have e0 : l = [] := List.eq_nil_of_length_eq_zero (by omega)
    subst e0
    simp only [nrmR] at hU
    simp only [inN] at hR
    subst hU hR
    clear h hN
    go_enter Tryz.func120, Tryz.ntmps120
    go_wp2
    go_ret2
    exact ⟨none, 0, rfl, ⟨Nat.le_refl _, by unfold maxLen; simp, fun _ => rfl, RB.nil _ _ _⟩, Below.refl _ _⟩
set_option maxHeartbeats 2000000 in
set_option maxRecDepth 100000 in
theorem refBefore (A A' : Option Addr) (c c' : Nat) (l l' : List Bar) (R : Int) (w : World) (hR : cmpNets l l' = R) (hll : l'.length = l.length) (hl : l.length ≤ 4096) (h : RB w w.heap.size A l) (h' : RB w w.heap.size A' l') :
    Calls Tryz.prog 121 #[.slice A l.length c, .slice A' l'.length c'] w fun e w' => e = .returned (.bool (decide (R < 0))) ∧ Below w.heap.size w w' := by
  have HR := Lib.hid h
  have HR' := Lib.hid h'
  have H0 := Lib.hid (show cmpNets (l.drop 0) (l'.drop 0) = R from hR)
  have HLL := Lib.hid hll
  clear h h' hR
  rw [hll]
  clear hll
  go_enter Tryz.func121, Tryz.ntmps121
  go_wp2_with fail
  go_loopw [5] (fun i wr => ∃ k : Nat, k ≤ l.length ∧ i = .int .i64 k ∧ Hid (cmpNets (l.drop k) (l'.drop k) = R) ∧ Below w.heap.size w wr) (fun i _ => l.length - (intOf i).toNat)
  case atStart => exact ⟨0, Nat.zero_le _, rfl, H0, Below.refl _ _⟩
  case round =>
    obtain ⟨k, hk, rfl, hR, hb⟩ := hrel
    by_cases hlt : k < l.length
    · have hlt' : k < l'.length := by rw [HLL.out]; exact hlt
      obtain ⟨b, off, rfl, hB, hc⟩ := (HR.out.below hb) (by omega)
      obtain ⟨b', off', rfl, hB', hc'⟩ := (HR'.out.below hb) (by omega)
      obtain ⟨c0, c1, c2⟩ := hc k hlt
      obtain ⟨d0, d1, d2⟩ := hc' k hlt'
      have b1 : (0 : Int) ≤ (k : Int) := by omega
      have b2 : (k : Int) < (l.length : Int) := by omega
      have hd := hR.out
      rw [List.drop_eq_getElem_cons hlt, List.drop_eq_getElem_cons hlt', cmpNets] at hd
      have hbw : b < wr.heap.size := by have := hb.size; omega
      have hbw' : b' < wr.heap.size := by have := hb.size; omega
      have hgd := guardBar
      clear hc hc' hR
      obtain ⟨x, hx⟩ : ∃ x, l[k] = x := ⟨_, rfl⟩
      obtain ⟨y, hy⟩ : ∃ y, l'[k] = y := ⟨_, rfl⟩
      rw [hx] at c0 c1 c2 hd
      rw [hy] at d0 d1 d2 hd
      clear hx hy
      by_cases he : x = y
      · have hq := eqBar' x y true (by simpa using he)
        rw [if_pos ((cmpB_zero x y).2 he)] at hd
        have HD := Lib.hid hd
        clear he hd
        go_wp2_with fail
        go_quiet (fail)
        have hb9 := below_drewN hb nq
        go_wp2
        go_roundw
        case rel => exact ⟨k + 1, by omega, by go_num, HD, hb9⟩
        case measure => simp [intOf]; omega
      · have hq := eqBar' x y false (by simpa using he)
        rw [if_neg fun e => he ((cmpB_zero x y).1 e)] at hd
        have HD := Lib.hid (show decide (R < 0) = lessB x.x x.y x.s y.x y.y y.s by rw [← hd, cmpB_neg])
        clear he hd
        go_wp2_with fail
        go_quiet (fail)
        have hb9 := below_drewN (Below.refl wr.heap.size wr) nq
        generalize World.drewN wr nq = W9 at *
        have CR : ∀ {W : World}, Below W9.heap.size W9 W → W.cell? ⟨b, off + k * 3, none⟩ = some (.int .i64 x.x) ∧ W.cell? ⟨b, off + k * 3 + 1, none⟩ = some (.int .i64 x.y) ∧ W.cell? ⟨b, off + k * 3 + 2, none⟩ = some (.int .i64 x.s) ∧ W.cell? ⟨b', off' + k * 3, none⟩ = some (.int .i64 y.x) ∧ W.cell? ⟨b', off' + k * 3 + 1, none⟩ = some (.int .i64 y.y) ∧ W.cell? ⟨b', off' + k * 3 + 2, none⟩ = some (.int .i64 y.s) := fun hq => by
          have hq2 := hb9.trans (hq.mono hb9.size)
          exact ⟨(hq2.cell (p := ⟨b, off + k * 3, none⟩) hbw).trans c0, (hq2.cell (p := ⟨b, off + k * 3 + 1, none⟩) hbw).trans c1, (hq2.cell (p := ⟨b, off + k * 3 + 2, none⟩) hbw).trans c2, (hq2.cell (p := ⟨b', off' + k * 3, none⟩) hbw').trans d0, (hq2.cell (p := ⟨b', off' + k * 3 + 1, none⟩) hbw').trans d1, (hq2.cell (p := ⟨b', off' + k * 3 + 2, none⟩) hbw').trans d2⟩
        clear c0 c1 c2 d0 d1 d2 hq
        go_wp2_with fail
        refine wp_region_held_drew (S := (fun w' => Below W9.heap.size W9 w')) (by kernel_rfl) ?_ (fun hHeld => ?_)
        · exact below_drew (Below.refl _ _)
        refine wpAnyH_take (i := 0) (oi := _) (v := ?vb0) rfl (by kernel_rfl) (by kernel_rfl) (by kernel_rfl) (fun _ _ _ h => h) (Or.inl ⟨by rfl, ?hyb0⟩) (by assumption) ?restb0
        case hyb0 => (intro w hSw; (try dsimp only at hSw); go_simp; first | done | rfl)
        try simp only [layA]
        refine wpAnyH_take (i := 1) (oi := _) (v := ?vb1) rfl (by kernel_rfl) (by kernel_rfl) (by kernel_rfl) (fun _ _ _ h => h) (Or.inl ⟨by rfl, ?hyb1⟩) (by assumption) ?restb1
        case hyb1 => (intro w hSw; (try dsimp only at hSw); go_simp; first | done | rfl)
        try simp only [layA]
        refine wpAnyH_take (i := 2) (oi := _) (v := ?vb2) rfl (by kernel_rfl) (by kernel_rfl) (by kernel_rfl) (fun _ _ _ h => h) (Or.inl ⟨by rfl, ?hyb2⟩) (by assumption) ?restb2
        case hyb2 => (intro w hSw; (try dsimp only at hSw); go_simp; first | done | rfl)
        try simp only [layA]
        refine wpAnyH_take (i := 3) (oi := _) (v := ?vb3) rfl (by kernel_rfl) (by kernel_rfl) (by kernel_rfl) (fun _ _ _ h => h) (Or.inl ⟨by rfl, ?hyb3⟩) (by assumption) ?restb3
        case hyb3 => (intro w hSw; (try dsimp only at hSw); obtain ⟨e0, e1, e2, f0, f1, f2⟩ := CR hSw; go_simp; first | done | rfl)
        try simp only [layA]
        refine wpAnyH_take (i := 4) (oi := _) (v := ?vb4) rfl (by kernel_rfl) (by kernel_rfl) (by kernel_rfl) (fun _ _ _ h => h) (Or.inl ⟨by rfl, ?hyb4⟩) (by assumption) ?restb4
        case hyb4 => (intro w hSw; (try dsimp only at hSw); go_simp; first | done | rfl)
        try simp only [layA]
        refine wpAnyH_take (i := 5) (oi := _) (v := ?vb5) rfl (by kernel_rfl) (by kernel_rfl) (by kernel_rfl) (fun _ _ _ h => h) (Or.inl ⟨by rfl, ?hyb5⟩) (by assumption) ?restb5
        case hyb5 => (intro w hSw; (try dsimp only at hSw); go_simp; first | done | rfl)
        try simp only [layA]
        refine wpAnyH_take (i := 6) (oi := _) (v := ?vb6) rfl (by kernel_rfl) (by kernel_rfl) (by kernel_rfl) (fun _ _ _ h => h) (Or.inl ⟨by rfl, ?hyb6⟩) (by assumption) ?restb6
        case hyb6 => (intro w hSw; (try dsimp only at hSw); go_simp; first | done | rfl)
        try simp only [layA]
        refine wpAnyH_take (i := 7) (oi := _) (v := ?vb7) rfl (by kernel_rfl) (by kernel_rfl) (by kernel_rfl) (fun _ _ _ h => h) (Or.inl ⟨by rfl, ?hyb7⟩) (by assumption) ?restb7
        case hyb7 => (intro w hSw; (try dsimp only at hSw); obtain ⟨e0, e1, e2, f0, f1, f2⟩ := CR hSw; go_simp; first | done | rfl)
        try simp only [layA]
        refine wpAnyH_ready (rs := [8]) (by kernel_rfl) (by simp) ?_
        refine AllReadyH.cons (o := _) rfl (fun K hK => ?_) AllReadyH.nil
        simp only [layG]
        go_simp
        go_at_call 72
        refine (refLess _ _ _ _ _ _ _).mono ?_
        rintro e w5 ⟨rfl, hbq⟩
        rw [← HD.out]
        refine hK.out _ _ (hbT (by assumption) hbq) (fun hHeld => ?_)
        clear hK K
        try simp only [layA]
        refine wpAnyH_take (i := 9) (oi := _) (v := ?vb9) rfl (by kernel_rfl) (by kernel_rfl) (by kernel_rfl) (fun _ _ _ h => h) (Or.inl ⟨by rfl, ?hyb9⟩) (by assumption) ?restb9
        case hyb9 => (intro w hSw; (try dsimp only at hSw); go_simp; first | done | rfl)
        try simp only [layA]
        refine wpAnyH_done (by kernel_rfl) ?_ _
        go_wp2
        go_ret
        exact ⟨rfl, hb.trans ((hb9.trans (hHeld.mono hb9.size)).mono hb.size)⟩
    · obtain rfl : k = l.length := by omega
      have h9 := hR.out
      rw [List.drop_length, List.drop_of_length_le (by rw [HLL.out]; omega)] at h9
      have HD := Lib.hid (show decide (R < 0) = false by rw [← h9]; rfl)
      clear hR h9
      go_wp2
      go_ret
      exact ⟨ret_b HD.out.symm, hb⟩
end Go.Proofs.YtdeplhihcifmeaaGreatDoor

/- Canonical of the reference. -/
namespace Go.Proofs.YtdeplhihcifmeaaGreatDoor
open Go.RowKit Go.Shelf Ck

theorem refNormalN (A : Option Addr) (c n : Nat) (l U : List Bar) (R : Bool) (w : World) (hn : l.length = n) (hU : nrmR l = U) (hR : inN l = R) (hl : l.length ≤ 4096) (hN : Net l) (h : OKS w A c l) :
    Calls Tryz.prog 120 #[.slice A n c] w (ShfPost U R w) := by
  subst hn
  exact refNormal A c l U R w hU hR hl hN h
theorem refBeforeN (A A' : Option Addr) (c c' n : Nat) (l l' : List Bar) (R : Int) (w : World) (hn : l'.length = n) (hR : cmpNets l l' = R) (hll : l'.length = l.length) (hl : l.length ≤ 4096) (h : RB w w.heap.size A l) (h' : RB w w.heap.size A' l') :
    Calls Tryz.prog 121 #[.slice A l.length c, .slice A' n c'] w fun e w' => e = .returned (.bool (decide (R < 0))) ∧ Below w.heap.size w w' := by
  subst hn
  exact refBefore A A' c c' l l' R w hR hll hl h h'
theorem refTurnedN (A : Option Addr) (c n : Nat) (l u : List Bar) (w : World) (hn : l.length = n) (hu : srtL (l.map turnB) = u) (hl : l.length ≤ 4096) (hok : ∀ x ∈ l, okBar x) (h : OKS w A c l) :
    Calls Tryz.prog 68 #[.slice A n c] w (SlicePost u w) := by
  subst hn
  exact refTurned A c l u w hu hl hok h
theorem cur_len {l : List Bar} (hN : Net l) {i : Nat} (h : i < 8) : (srtL ((srcL l i).map turnB)).length = l.length := by
  rw [srcL, turn_srt (pick_net hN _), turnN_length, pickL_length]
set_option maxHeartbeats 16000000 in
set_option maxRecDepth 100000 in
theorem refCanonical (A : Option Addr) (c : Nat) (l : List Bar) (w : World) (hl : l.length ≤ 4096) (hN : Net l) (h : OKS w A c l) :
    Calls Tryz.prog 71 #[.slice A l.length c] w (ShfPost (canonL l) (inN l && allIN l 8) w) := by
  have HN := Lib.hid hN
  have HO := Lib.hid h
  have HZ := Lib.hid (show nrmR l = normL l from (normL_net hN).symm)
  have HNL0 := Lib.hid (normL_length l)
  have BW := Below.refl w.heap.size w
  clear hN h
  go_enter Tryz.func71, Tryz.ntmps71
  go_wp2_with fail
  refine (refNormal A c l _ _ _ HZ.out rfl hl HN.out HO.out).mono ?_
  rintro e w1 ⟨a1, c1, rfl, o1, hb1⟩
  replace BW := hbT BW hb1
  have HO1 := Lib.hid (show ∃ a c, Value.slice a1 (normL l).length c1 = .slice a l.length c ∧ OKS w1 a c (bestL l 0) from ⟨a1, c1, by rw [HNL0.out], o1⟩)
  have HL1 := Lib.hid (show ∃ a c', Value.slice A l.length c = .slice a l.length c' ∧ OKS w1 a c' (curL l 0) from ⟨A, c, rfl, HO.out.below hb1⟩)
  clear o1 hb1
  go_wp2_with fail
  go_loopw [0, 4, 5, 6, 7, 8] (fun lv bv av iv _ _ wr => ∃ i : Nat, i ≤ 8 ∧ iv = .int .i64 i ∧ av = .bool (inN l && allIN l i) ∧ Hid (∃ a c, lv = .slice a l.length c ∧ OKS wr a c (curL l i)) ∧ Hid (∃ a c, bv = .slice a l.length c ∧ OKS wr a c (bestL l i)) ∧ Below w.heap.size w wr) (fun _ _ _ iv _ _ _ => 8 - (intOf iv).toNat)
  case atStart => exact ⟨0, by omega, rfl, by simp [allIN], HL1, HO1, BW⟩
  case round =>
    clear BW HO1 HL1
    obtain ⟨i, hi, rfl, rfl, hlv, hbv, BW⟩ := hrel
    obtain ⟨al, cl, rfl, ol⟩ := hlv.out
    obtain ⟨ab, cb, rfl, ob⟩ := hbv.out
    by_cases hlt : i < 8
    · have hi8 : (i : Int) < 8 := by omega
      have HSL := Lib.hid (src_length l i)
      have HSN := Lib.hid (src_net HN.out i)
      have HNR := Lib.hid (show nrmR (srcL l i) = normL (srcL l i) from (normL_net HSN.out).symm)
      have HNL := Lib.hid (show (normL (srcL l i)).length = (srcL l i).length from normL_length _)
      have HBL := Lib.hid (show (bestL l i).length = (srcL l i).length by rw [best_length, src_length])
      have HBLl := Lib.hid (best_length l i)
      have HBS := Lib.hid (best_succ (l := l) (i := i) (by omega))
      have HCN := Lib.hid (cur_next HN.out (i := i) (by omega))
      have HC2L := Lib.hid (show (curL l (i + 1)).length = l.length by rw [← HCN.out]; exact cur_len HN.out (by omega))
      have HAS := Lib.hid (allIN_succ l i)
      have hSl : (srcL l i).length ≤ 4096 := by rw [src_length]; exact hl
      have hBE : (bestL l i).length = l.length := best_length l i
      have HBO := Lib.hid ob
      have HLN := Lib.hid (src_length l i).symm
      by_cases h4 : i = 4
      · have h4b : ((i : Int) == 4) = true := by rw [beq_iff_eq]; omega
        have HM := Lib.hid (show srtL ((curL l i).map mirB) = srcL l i by rw [h4, cur_four HN.out, src_four, mirror_srt HN.out])
        have HCL := Lib.hid (show curL l i = l by rw [h4, cur_four HN.out])
        have HOL := Lib.hid (show OKS wr al cl l by rw [HCL.out] at ol; exact ol)
        rw [HCL.out] at HM
        clear ol ob hbv hlv
        go_wp2_with fail
        refine (refMirror al cl l _ _ HM.out hl HN.out.1 HOL.out).mono ?_
        rintro e w4 ⟨as_, cs, rfl, os, hb4⟩
        have HSO := Lib.hid os
        replace HBO := Lib.hid (HBO.out.below hb4)
        replace BW := hbT BW hb4
        clear os hb4 HM HCL HOL h4b
        generalize hS : srcL l i = S at *
        generalize hNg : normL S = N at *
        generalize hBg : bestL l i = Bst at *
        generalize hCg : curL l (i + 1) = C2 at *
        have HC2 := Lib.hid hCg
        obtain ⟨RS, hRS⟩ : ∃ RS, inN S = RS := ⟨_, rfl⟩
        obtain ⟨R, hRC⟩ : ∃ R, cmpNets N Bst = R := ⟨_, rfl⟩
        have HRS := Lib.hid hRS
        have HRC := Lib.hid hRC
        rw [hRC] at HBS
        rw [hRS] at HAS
        clear hS hNg hBg hCg hRS hRC
        cases hB : (inN l && allIN l i)
        · have hBq := Lib.hid hB
          clear hB
          go_wp2_with fail
          refine (refNormalN as_ cs _ S N RS _ rfl HNR.out HRS.out (by omega) HSN.out HSO.out).mono ?_
          rintro e w5 ⟨a5, c5, rfl, o5, hb5⟩
          have HO5 := Lib.hid o5
          replace HSO := Lib.hid (HSO.out.below hb5)
          replace HBO := Lib.hid (HBO.out.below hb5)
          replace BW := hbT BW hb5
          clear o5 hb5
          go_wp2_with fail
          refine (refBeforeN a5 ab c5 cb _ N Bst R _ HBLl.out HRC.out (by rw [HBL.out, HNL.out]) (by rw [HNL.out]; omega) HO5.out.2.2.2 HBO.out.2.2.2).mono ?_
          rintro e w6 ⟨rfl, hb6⟩
          replace HSO := Lib.hid (HSO.out.below hb6)
          replace HBO := Lib.hid (HBO.out.below hb6)
          replace HO5 := Lib.hid (HO5.out.below hb6)
          replace BW := hbT BW hb6
          clear hb6
          by_cases hR : R < 0
          · have hRd : decide (R < 0) = true := by simpa using hR
            have HBN := Lib.hid (show bestL l (i + 1) = N by rw [HBS.out, if_pos hR])
            have HB7 := Lib.hid (show (N.length : Nat) = l.length by rw [HNL.out, HSL.out])
            rw [hRd]
            clear hR hRd
            go_wp2_with fail
            refine (refTurnedN as_ cs _ S C2 _ rfl HCN.out (by omega) HSN.out.1 HSO.out).mono ?_
            rintro e w7 ⟨a7, c7, rfl, o7, hb7⟩
            have HC7 := Lib.hid o7
            have HO7 := Lib.hid (show OKS w7 a5 c5 (bestL l (i + 1)) by rw [HBN.out]; exact HO5.out.below hb7)
            replace BW := hbT BW hb7
            clear o7 hb7
            go_wp2
            go_roundw
            case rel => exact ⟨i + 1, by omega, by go_num, by rw [show (inN l && allIN l (i + 1)) = false by rw [HAS.out, ← Bool.and_assoc, hBq.out]; rfl], Lib.hid ⟨a7, c7, by rw [HC2L.out], by rw [HC2.out]; exact HC7.out⟩, Lib.hid ⟨_, _, by rw [HB7.out], HO7.out⟩, BW⟩
            case measure => simp [intOf]; omega
          · have hRd : decide (R < 0) = false := by simpa using hR
            have HBN := Lib.hid (show bestL l (i + 1) = Bst by rw [HBS.out, if_neg hR])
            have HB7 := Lib.hid (show (Bst.length : Nat) = l.length by rw [HBL.out, HSL.out])
            rw [hRd]
            clear hR hRd
            go_wp2_with fail
            refine (refTurnedN as_ cs _ S C2 _ rfl HCN.out (by omega) HSN.out.1 HSO.out).mono ?_
            rintro e w7 ⟨a7, c7, rfl, o7, hb7⟩
            have HC7 := Lib.hid o7
            have HO7 := Lib.hid (show OKS w7 ab cb (bestL l (i + 1)) by rw [HBN.out]; exact HBO.out.below hb7)
            replace BW := hbT BW hb7
            clear o7 hb7
            go_wp2
            go_roundw
            case rel => exact ⟨i + 1, by omega, by go_num, by rw [show (inN l && allIN l (i + 1)) = false by rw [HAS.out, ← Bool.and_assoc, hBq.out]; rfl], Lib.hid ⟨a7, c7, by rw [HC2L.out], by rw [HC2.out]; exact HC7.out⟩, Lib.hid ⟨_, _, rfl, HO7.out⟩, BW⟩
            case measure => simp [intOf]; omega
        · have hBq := Lib.hid hB
          clear hB
          go_wp2_with fail
          refine (refNormalN as_ cs _ S N RS _ rfl HNR.out HRS.out (by omega) HSN.out HSO.out).mono ?_
          rintro e w5 ⟨a5, c5, rfl, o5, hb5⟩
          have HO5 := Lib.hid o5
          replace HSO := Lib.hid (HSO.out.below hb5)
          replace HBO := Lib.hid (HBO.out.below hb5)
          replace BW := hbT BW hb5
          clear o5 hb5
          go_wp2_with fail
          refine (refBeforeN a5 ab c5 cb _ N Bst R _ HBLl.out HRC.out (by rw [HBL.out, HNL.out]) (by rw [HNL.out]; omega) HO5.out.2.2.2 HBO.out.2.2.2).mono ?_
          rintro e w6 ⟨rfl, hb6⟩
          replace HSO := Lib.hid (HSO.out.below hb6)
          replace HBO := Lib.hid (HBO.out.below hb6)
          replace HO5 := Lib.hid (HO5.out.below hb6)
          replace BW := hbT BW hb6
          clear hb6
          by_cases hR : R < 0
          · have hRd : decide (R < 0) = true := by simpa using hR
            have HBN := Lib.hid (show bestL l (i + 1) = N by rw [HBS.out, if_pos hR])
            have HB7 := Lib.hid (show (N.length : Nat) = l.length by rw [HNL.out, HSL.out])
            rw [hRd]
            clear hR hRd
            go_wp2_with fail
            refine (refTurnedN as_ cs _ S C2 _ rfl HCN.out (by omega) HSN.out.1 HSO.out).mono ?_
            rintro e w7 ⟨a7, c7, rfl, o7, hb7⟩
            have HC7 := Lib.hid o7
            have HO7 := Lib.hid (show OKS w7 a5 c5 (bestL l (i + 1)) by rw [HBN.out]; exact HO5.out.below hb7)
            replace BW := hbT BW hb7
            clear o7 hb7
            go_wp2
            go_roundw
            case rel => exact ⟨i + 1, by omega, by go_num, by rw [show (inN l && allIN l (i + 1)) = RS by rw [HAS.out, ← Bool.and_assoc, hBq.out]; rfl], Lib.hid ⟨a7, c7, by rw [HC2L.out], by rw [HC2.out]; exact HC7.out⟩, Lib.hid ⟨_, _, by rw [HB7.out], HO7.out⟩, BW⟩
            case measure => simp [intOf]; omega
          · have hRd : decide (R < 0) = false := by simpa using hR
            have HBN := Lib.hid (show bestL l (i + 1) = Bst by rw [HBS.out, if_neg hR])
            have HB7 := Lib.hid (show (Bst.length : Nat) = l.length by rw [HBL.out, HSL.out])
            rw [hRd]
            clear hR hRd
            go_wp2_with fail
            refine (refTurnedN as_ cs _ S C2 _ rfl HCN.out (by omega) HSN.out.1 HSO.out).mono ?_
            rintro e w7 ⟨a7, c7, rfl, o7, hb7⟩
            have HC7 := Lib.hid o7
            have HO7 := Lib.hid (show OKS w7 ab cb (bestL l (i + 1)) by rw [HBN.out]; exact HBO.out.below hb7)
            replace BW := hbT BW hb7
            clear o7 hb7
            go_wp2
            go_roundw
            case rel => exact ⟨i + 1, by omega, by go_num, by rw [show (inN l && allIN l (i + 1)) = RS by rw [HAS.out, ← Bool.and_assoc, hBq.out]; rfl], Lib.hid ⟨a7, c7, by rw [HC2L.out], by rw [HC2.out]; exact HC7.out⟩, Lib.hid ⟨_, _, rfl, HO7.out⟩, BW⟩
            case measure => simp [intOf]; omega
      · have h4b : ((i : Int) == 4) = false := by rw [beq_eq_false_iff_ne]; omega
        have HCL := Lib.hid (show curL l i = srcL l i by
          rcases Nat.lt_or_ge i 4 with h | h
          · exact cur_low h
          · exact cur_high (by omega) hlt)
        have HSO := Lib.hid (show OKS wr al cl (srcL l i) by rw [HCL.out] at ol; exact ol)
        have HSS := Lib.hid (src_length l i)
        clear ol ob hbv hlv HCL
        obtain ⟨as_, cs, has, hcs⟩ : ∃ as_ cs, as_ = al ∧ cs = cl := ⟨_, _, rfl, rfl⟩
        subst has hcs
        generalize hS : srcL l i = S at *
        generalize hNg : normL S = N at *
        generalize hBg : bestL l i = Bst at *
        generalize hCg : curL l (i + 1) = C2 at *
        have HC2 := Lib.hid hCg
        obtain ⟨RS, hRS⟩ : ∃ RS, inN S = RS := ⟨_, rfl⟩
        obtain ⟨R, hRC⟩ : ∃ R, cmpNets N Bst = R := ⟨_, rfl⟩
        have HRS := Lib.hid hRS
        have HRC := Lib.hid hRC
        rw [hRC] at HBS
        rw [hRS] at HAS
        clear hS hNg hBg hCg hRS hRC
        cases hB : (inN l && allIN l i)
        · have hBq := Lib.hid hB
          clear hB
          go_wp2_with fail
          refine (refNormalN as_ cs _ S N RS _ HSS.out HNR.out HRS.out (by omega) HSN.out HSO.out).mono ?_
          rintro e w5 ⟨a5, c5, rfl, o5, hb5⟩
          have HO5 := Lib.hid o5
          replace HSO := Lib.hid (HSO.out.below hb5)
          replace HBO := Lib.hid (HBO.out.below hb5)
          replace BW := hbT BW hb5
          clear o5 hb5
          go_wp2_with fail
          refine (refBeforeN a5 ab c5 cb _ N Bst R _ HBLl.out HRC.out (by rw [HBL.out, HNL.out]) (by rw [HNL.out]; omega) HO5.out.2.2.2 HBO.out.2.2.2).mono ?_
          rintro e w6 ⟨rfl, hb6⟩
          replace HSO := Lib.hid (HSO.out.below hb6)
          replace HBO := Lib.hid (HBO.out.below hb6)
          replace HO5 := Lib.hid (HO5.out.below hb6)
          replace BW := hbT BW hb6
          clear hb6
          by_cases hR : R < 0
          · have hRd : decide (R < 0) = true := by simpa using hR
            have HBN := Lib.hid (show bestL l (i + 1) = N by rw [HBS.out, if_pos hR])
            have HB7 := Lib.hid (show (N.length : Nat) = l.length by rw [HNL.out, HSL.out])
            rw [hRd]
            clear hR hRd
            go_wp2_with fail
            refine (refTurnedN as_ cs _ S C2 _ HSS.out HCN.out (by omega) HSN.out.1 HSO.out).mono ?_
            rintro e w7 ⟨a7, c7, rfl, o7, hb7⟩
            have HC7 := Lib.hid o7
            have HO7 := Lib.hid (show OKS w7 a5 c5 (bestL l (i + 1)) by rw [HBN.out]; exact HO5.out.below hb7)
            replace BW := hbT BW hb7
            clear o7 hb7
            go_wp2
            go_roundw
            case rel => exact ⟨i + 1, by omega, by go_num, by rw [show (inN l && allIN l (i + 1)) = false by rw [HAS.out, ← Bool.and_assoc, hBq.out]; rfl], Lib.hid ⟨a7, c7, by rw [HC2L.out], by rw [HC2.out]; exact HC7.out⟩, Lib.hid ⟨_, _, by rw [HB7.out], HO7.out⟩, BW⟩
            case measure => simp [intOf]; omega
          · have hRd : decide (R < 0) = false := by simpa using hR
            have HBN := Lib.hid (show bestL l (i + 1) = Bst by rw [HBS.out, if_neg hR])
            have HB7 := Lib.hid (show (Bst.length : Nat) = l.length by rw [HBL.out, HSL.out])
            rw [hRd]
            clear hR hRd
            go_wp2_with fail
            refine (refTurnedN as_ cs _ S C2 _ HSS.out HCN.out (by omega) HSN.out.1 HSO.out).mono ?_
            rintro e w7 ⟨a7, c7, rfl, o7, hb7⟩
            have HC7 := Lib.hid o7
            have HO7 := Lib.hid (show OKS w7 ab cb (bestL l (i + 1)) by rw [HBN.out]; exact HBO.out.below hb7)
            replace BW := hbT BW hb7
            clear o7 hb7
            go_wp2
            go_roundw
            case rel => exact ⟨i + 1, by omega, by go_num, by rw [show (inN l && allIN l (i + 1)) = false by rw [HAS.out, ← Bool.and_assoc, hBq.out]; rfl], Lib.hid ⟨a7, c7, by rw [HC2L.out], by rw [HC2.out]; exact HC7.out⟩, Lib.hid ⟨_, _, rfl, HO7.out⟩, BW⟩
            case measure => simp [intOf]; omega
        · have hBq := Lib.hid hB
          clear hB
          go_wp2_with fail
          refine (refNormalN as_ cs _ S N RS _ HSS.out HNR.out HRS.out (by omega) HSN.out HSO.out).mono ?_
          rintro e w5 ⟨a5, c5, rfl, o5, hb5⟩
          have HO5 := Lib.hid o5
          replace HSO := Lib.hid (HSO.out.below hb5)
          replace HBO := Lib.hid (HBO.out.below hb5)
          replace BW := hbT BW hb5
          clear o5 hb5
          go_wp2_with fail
          refine (refBeforeN a5 ab c5 cb _ N Bst R _ HBLl.out HRC.out (by rw [HBL.out, HNL.out]) (by rw [HNL.out]; omega) HO5.out.2.2.2 HBO.out.2.2.2).mono ?_
          rintro e w6 ⟨rfl, hb6⟩
          replace HSO := Lib.hid (HSO.out.below hb6)
          replace HBO := Lib.hid (HBO.out.below hb6)
          replace HO5 := Lib.hid (HO5.out.below hb6)
          replace BW := hbT BW hb6
          clear hb6
          by_cases hR : R < 0
          · have hRd : decide (R < 0) = true := by simpa using hR
            have HBN := Lib.hid (show bestL l (i + 1) = N by rw [HBS.out, if_pos hR])
            have HB7 := Lib.hid (show (N.length : Nat) = l.length by rw [HNL.out, HSL.out])
            rw [hRd]
            clear hR hRd
            go_wp2_with fail
            refine (refTurnedN as_ cs _ S C2 _ HSS.out HCN.out (by omega) HSN.out.1 HSO.out).mono ?_
            rintro e w7 ⟨a7, c7, rfl, o7, hb7⟩
            have HC7 := Lib.hid o7
            have HO7 := Lib.hid (show OKS w7 a5 c5 (bestL l (i + 1)) by rw [HBN.out]; exact HO5.out.below hb7)
            replace BW := hbT BW hb7
            clear o7 hb7
            go_wp2
            go_roundw
            case rel => exact ⟨i + 1, by omega, by go_num, by rw [show (inN l && allIN l (i + 1)) = RS by rw [HAS.out, ← Bool.and_assoc, hBq.out]; rfl], Lib.hid ⟨a7, c7, by rw [HC2L.out], by rw [HC2.out]; exact HC7.out⟩, Lib.hid ⟨_, _, by rw [HB7.out], HO7.out⟩, BW⟩
            case measure => simp [intOf]; omega
          · have hRd : decide (R < 0) = false := by simpa using hR
            have HBN := Lib.hid (show bestL l (i + 1) = Bst by rw [HBS.out, if_neg hR])
            have HB7 := Lib.hid (show (Bst.length : Nat) = l.length by rw [HBL.out, HSL.out])
            rw [hRd]
            clear hR hRd
            go_wp2_with fail
            refine (refTurnedN as_ cs _ S C2 _ HSS.out HCN.out (by omega) HSN.out.1 HSO.out).mono ?_
            rintro e w7 ⟨a7, c7, rfl, o7, hb7⟩
            have HC7 := Lib.hid o7
            have HO7 := Lib.hid (show OKS w7 ab cb (bestL l (i + 1)) by rw [HBN.out]; exact HBO.out.below hb7)
            replace BW := hbT BW hb7
            clear o7 hb7
            go_wp2
            go_roundw
            case rel => exact ⟨i + 1, by omega, by go_num, by rw [show (inN l && allIN l (i + 1)) = RS by rw [HAS.out, ← Bool.and_assoc, hBq.out]; rfl], Lib.hid ⟨a7, c7, by rw [HC2L.out], by rw [HC2.out]; exact HC7.out⟩, Lib.hid ⟨_, _, rfl, HO7.out⟩, BW⟩
            case measure => simp [intOf]; omega
    · obtain rfl : i = 8 := by omega
      rw [best_eight] at ob
      have HOB := Lib.hid ob
      have HCLL := Lib.hid (canon_length l).symm
      clear ol ob hbv hlv
      go_wp2
      go_ret2
      exact ⟨ab, cb, by rw [← HCLL.out]; rfl, HOB.out, BW⟩
end Go.Proofs.YtdeplhihcifmeaaGreatDoor

/- Canonical of the program where a form is out of range, and where the list is no net. -/
namespace Go.Proofs.YtdeplhihcifmeaaGreatDoor
open Go.RowKit

set_option maxHeartbeats 8000000 in
set_option maxRecDepth 100000 in
theorem netCanonicalOut (A : Option Addr) (c : Nat) (l : List Ck.Bar) (w : World) (hl : l.length ≤ 4096) (hcap : l.length ≤ c) (hcm : c ≤ maxLen) (hA : A = none → c = 0) (hN : Ck.Net l) (hG : ¬ ∀ j, j < 2 → ∀ q, q < 4 → Ck.Net (normL (turnN q (pickL l j)))) (h : RB w w.heap.size A l) :
    Calls Tryz.prog 70 #[.slice A l.length c] w (BadPost 3 w) := by
  obtain ⟨i0, hi, hz0, hz1, hz2⟩ := info_parts Tryz.info22
  have HI := Lib.hid hi
  have HZ0 := Lib.hid hz0
  have HZ1 := Lib.hid hz1
  have HZ2 := Lib.hid hz2
  have HE := Lib.hid ((netE_zero l).2 ⟨hl, hN⟩)
  have HR := Lib.hid h
  have HN := Lib.hid hN
  have HG := Lib.hid hG
  have HA := Lib.hid hA
  clear h hN hG hA hi hz0 hz1 hz2
  go_enter Tryz.func70, Tryz.ntmps70
  go_wp2_with fail
  refine (netCheckNet A c l _ hl hcap hcm HR.out).mono ?_
  rintro e w1 ⟨rfl, hb1⟩
  rw [HE.out]
  go_wp2_with fail
  refine (netMovedM A c l _ hl HN.out.1 ((HR.out.below hb1).more hb1.size)).mono ?_
  rintro e w2 ⟨v2, rfl, hr2, hb2⟩
  have B2 := hb1.trans (hb2.mono hb1.size)
  have hl2 : (pickL l 1).length = l.length := pickL_length l 1
  rw [← hl2] at hr2
  obtain ⟨A2, c2, rfl, ho2⟩ := own_oks (show w2.ownsRow w1.heap.size 24 3 v2 (pickL l 1).length (bcellsL (pickL l 1)) from hr2)
  have HO2 := Lib.hid ho2
  have HR2 := Lib.hid ((HR.out.below B2).more B2.size)
  have HPK := Lib.hid (show ∀ j : Nat, j < 2 → ∀ W, Below w2.heap.size w2 W → ∃ a c', (∀ w', (Instr.index 155 (.agg #[.slice A l.length c, .slice A2 (pickL l 1).length c2]) (.int .i64 (j : Int))).run Tryz.prog w' = .ok (.slice a (pickL l j).length c') w') ∧ (a = none → c' = 0) ∧ RB W W.heap.size a (pickL l j) by
    intro j hj W hW
    have hj' : j = 0 ∨ j = 1 := by omega
    rcases hj' with rfl | rfl
    · exact ⟨A, c, fun w' => ix20 _ _ _, HA.out, (HR2.out.below hW).more hW.size⟩
    · exact ⟨A2, c2, fun w' => ix21 _ _ _, HO2.out.2.2.1, (HO2.out.2.2.2.below hW).more hW.size⟩)
  have HL2 := Lib.hid hl2
  clear hr2 ho2 hb1 hb2 hl2
  go_wp2_with fail
  go_loopw [5, 7, 8, 9, 10, 20, 23] (fun v _ _ _ _ j _ wr => ∃ i : Nat, i ≤ 2 ∧ j = .int .i64 i ∧ Hid (Forms w2.heap.size v ((formsL l).take (4 * i)) wr) ∧ Hid (∀ j q, j < 2 → q < 4 → 4 * j + q < 4 * i → Ck.Net (normL (turnN q (pickL l j)))) ∧ Below w2.heap.size w2 wr) (fun _ _ _ _ _ j _ _ => 2 - (intOf j).toNat)
  case atStart => exact ⟨0, by omega, rfl, Lib.hid ⟨[], rfl, by simp, ⟨rfl, .inl ⟨rfl, rfl⟩⟩⟩, Lib.hid (fun j q _ _ h => by omega), Below.refl _ _⟩
  case round =>
    obtain ⟨i, hi2, rfl, HF, HP, hb⟩ := hrel
    by_cases hlt : i < 2
    · have hil : (i : Int) < 2 := by omega
      obtain ⟨a, c', hidx, ha, -⟩ := HPK.out i hlt _ hb
      have HAA := Lib.hid ha
      have HIX := Lib.hid (show ∀ W, Below w2.heap.size w2 W → RB W W.heap.size a (pickL l i) by
        intro W hW
        obtain ⟨a', c'', hidx', -, hrb⟩ := HPK.out i hlt W hW
        have e := (hidx w).symm.trans (hidx' w)
        injection e with e _
        injection e with e _ _
        rw [e]; exact hrb)
      have hpl := pickL_length l i
      obtain ⟨m, hm⟩ : ∃ m, pickL l i = m := ⟨_, rfl⟩
      have HM := Lib.hid hm
      rw [hm] at hidx HIX hpl
      have HPL := Lib.hid hpl
      clear ha hm hpl
      go_wp2_with fail
      go_loopw [5, 8, 9, 10, 23] (fun v _ _ _ q wi => ∃ k : Nat, k ≤ 4 ∧ q = .int .i64 k ∧ Hid (Forms w2.heap.size v ((formsL l).take (4 * i + k)) wi) ∧ Hid (∀ j q, j < 2 → q < 4 → 4 * j + q < 4 * i + k → Ck.Net (normL (turnN q (pickL l j)))) ∧ Below w2.heap.size w2 wi) (fun _ _ _ _ q _ => 4 - (intOf q).toNat)
      case atStart => exact ⟨0, by omega, rfl, HF, HP, hb⟩
      case round =>
        clear HF HP hb
        obtain ⟨k, hk4, rfl, HF, HP, hb⟩ := hrel
        by_cases hkt : k < 4
        · have hki : (k : Int) < 4 := by omega
          have HT := Lib.hid (show (formsL l).take (4 * i + (k + 1)) = (formsL l).take (4 * i + k) ++ [normL (turnN k m)] by
            rw [show 4 * i + (k + 1) = 4 * i + k + 1 by omega, List.take_add_one, forms_get l hlt hkt, HM.out]; rfl)
          have HTN := Lib.hid (show Ck.Net (turnN k m) by rw [← HM.out]; exact ⟨turnN_ok (pick_net HN.out i).1 k, turn_net (pick_net HN.out i) k⟩)
          have HTL0 := Lib.hid (show (turnN k m).length ≤ 4096 by rw [turnN_length, HPL.out]; exact hl)
          by_cases hgn : Ck.Net (normL (turnN k m))
          case neg =>
            have HGN := Lib.hid (norm_bad HTN.out HTL0.out hgn)
            clear hgn
            have HOKm := Lib.hid (show ∀ x ∈ m, Ck.okBar x by rw [← HM.out]; exact pickL_ok HN.out.1 i)
            have HTL := Lib.hid (show (turnN k m).length ≤ 4096 by rw [turnN_length, HPL.out]; exact hl)
            have HNL := Lib.hid (show (normL (turnN k m)).length ≤ 4096 by rw [normL_length]; exact HTL.out)
            have BW := B2.trans (hb.mono B2.size)
            have HRB := Lib.hid (HIX.out _ hb)
            go_wp2_with fail
            refine (netTurnedBy a c' k m _ (by rw [HPL.out]; exact hl) HAA.out HOKm.out (by omega) HRB.out).mono ?_
            rintro e w3 ⟨v3, rfl, hr3, hb3⟩
            obtain ⟨A3, c3, rfl, ho3⟩ := own_oks hr3
            have HO3 := Lib.hid ho3
            clear hr3 ho3
            go_wp2_with fail
            refine (netNormal A3 c3 (turnN k m) _ HTL.out (turnN_ok HOKm.out k) HO3.out.2.2.2).mono ?_
            rintro e w4 ⟨v4, rfl, hr4, hb4⟩
            have C3 := hb.trans (hb3.mono hb.size)
            have hr4' := ownsRow_mono hr4 C3.size
            obtain ⟨A4, c4, rfl, ho4⟩ := own_oks hr4'
            have HO4 := Lib.hid ho4
            clear ho4 hr4
            obtain ⟨N, hNN⟩ : ∃ N, normL (turnN k m) = N := ⟨_, rfl⟩
            rw [hNN] at HT HGN HNL hr4' HO4
            have HNN := Lib.hid hNN
            rw [hNN]
            clear hNN
            go_wp2_with fail
            refine (netWithinBad A4 c4 N 3 _ HO4.out HGN.out (by decide)).mono ?_
            rintro e w5 ⟨rfl, hb5⟩
            have b5 : Below wr.heap.size wr w5 := (hb3.trans (hb4.mono hb3.size)).trans (hb5.mono (Nat.le_trans hb3.size hb4.size))
            have C5 := B2.trans ((hb.trans (b5.mono hb.size)).mono B2.size)
            clear hb3 hb4 hb5 b5 HF hr4'
            go_wp2
            go_ret2
            exact ⟨rfl, C5⟩
          have HPN := Lib.hid (show ∀ j q, j < 2 → q < 4 → 4 * j + q < 4 * i + (k + 1) → Ck.Net (normL (turnN q (pickL l j))) from fun j q hj hq h => by
            by_cases he : 4 * j + q < 4 * i + k
            · exact HP.out j q hj hq he
            · have e1 : j = i := by omega
              have e2 : q = k := by omega
              rw [e1, e2, HM.out]; exact hgn)
          have HGN := Lib.hid hgn
          clear hgn HTN HTL0
          have HOKm := Lib.hid (show ∀ x ∈ m, Ck.okBar x by rw [← HM.out]; exact pickL_ok HN.out.1 i)
          have HTL := Lib.hid (show (turnN k m).length ≤ 4096 by rw [turnN_length, HPL.out]; exact hl)
          have HNL := Lib.hid (show (normL (turnN k m)).length ≤ 4096 by rw [normL_length]; exact HTL.out)
          have BW := B2.trans (hb.mono B2.size)
          have HRB := Lib.hid (HIX.out _ hb)
          go_wp2_with fail
          refine (netTurnedBy a c' k m _ (by rw [HPL.out]; exact hl) HAA.out HOKm.out (by omega) HRB.out).mono ?_
          rintro e w3 ⟨v3, rfl, hr3, hb3⟩
          obtain ⟨A3, c3, rfl, ho3⟩ := own_oks hr3
          have HO3 := Lib.hid ho3
          clear hr3 ho3
          go_wp2_with fail
          refine (netNormal A3 c3 (turnN k m) _ HTL.out (turnN_ok HOKm.out k) HO3.out.2.2.2).mono ?_
          rintro e w4 ⟨v4, rfl, hr4, hb4⟩
          have C3 := hb.trans (hb3.mono hb.size)
          have hr4' := ownsRow_mono hr4 C3.size
          obtain ⟨A4, c4, rfl, ho4⟩ := own_oks hr4'
          have HO4 := Lib.hid ho4
          clear ho4 hr4
          obtain ⟨N, hNN⟩ : ∃ N, normL (turnN k m) = N := ⟨_, rfl⟩
          rw [hNN] at HT HGN HNL hr4' HO4
          have HNN := Lib.hid hNN
          rw [hNN]
          clear hNN
          go_wp2_with fail
          refine (netWithin A4 c4 N _ HNL.out HO4.out.1 HO4.out.2.1 HGN.out HO4.out.2.2.2).mono ?_
          rintro e w5 ⟨rfl, hb5⟩
          have b5 : Below wr.heap.size wr w5 := (hb3.trans (hb4.mono hb3.size)).trans (hb5.mono (Nat.le_trans hb3.size hb4.size))
          have HF5 := HF.out.below b5
          have hrow5 := ownsRow_below hr4' hb5
          have C5 := hb.trans (b5.mono hb.size)
          obtain ⟨fs, hfs, hfo, hfr⟩ := HF5.has
          have hfl : fs.length ≤ 8 := by
            have h1 : fs.length = ((formsL l).take (4 * i + k)).length := by rw [← hfs, List.length_map]
            rw [h1, List.length_take]
            exact Nat.le_trans (Nat.min_le_right _ _) (by simp [formsL])
          have HFS := Lib.hid hfs
          have HFO := Lib.hid hfo
          have HFR := Lib.hid hfr
          have HR5 := Lib.hid hrow5
          have hb5z := C5.size
          clear hb3 hb4 hb5 b5 HF HF5 hfs hfo hfr hrow5 hr4'
          go_wp2_with (at_builtin; refine wpList_append_own _ rfl _ _ 82 rfl w2.heap.size 22 i0 (.slice none 0 0) 1 24 Tryz.underlying82 HI.out HZ0.out HZ1.out HZ2.out rfl (by decide) _ _ _ rfl (HFR.out.alloc _) ⟨w5.heap.size, 0, none⟩ 1 1 [.slice A4 N.length c4] rfl rfl (one_new _ _ _) ?c2 ?c3 ?c4 ?c5 ?_)
          case c2 => intro u hu; simp at hu; subst hu; rfl
          case c3 => unfold maxLen; omega
          case c4 => omega
          case c5 => simp; omega
          intro v' w6 hown6 hgrow6 _
          have HF6 := Lib.hid (show Forms w2.heap.size v' ((formsL l).take (4 * i + (k + 1))) w6 from ⟨fs ++ [⟨A4, c4, N⟩], by rw [List.map_append, HFS.out, HT.out]; rfl, fun x hx => by
            rcases List.mem_append.1 hx with hx | hx
            · exact ⟨(HFO.out x hx).1, row_keeps (HFO.out x hx).2 HFR.out (by decide) hgrow6⟩
            · rw [List.mem_singleton] at hx
              subst hx
              exact ⟨HNL.out, row_keeps HR5.out HFR.out (by decide) hgrow6⟩, by
            rw [List.length_append, List.map_append]
            exact hown6⟩)
          have C6 : Below w2.heap.size w2 w6 := (C5.alloc hb5z _).grown hgrow6 (by simp; omega) (ownsRow_base HFR.out)
          clear hown6 hgrow6
          go_wp2
          go_roundw
          case rel => exact ⟨k + 1, by omega, by go_num, HF6, HPN, C6⟩
          case measure => simp [intOf]; omega
        · obtain rfl : k = 4 := by omega
          go_wp2
          go_roundw
          case rel => exact ⟨i + 1, by omega, by go_num, by rw [show 4 * (i + 1) = 4 * i + 4 by omega]; exact HF, Lib.hid (fun j q hj hq h => HP.out j q hj hq (by omega)), hb⟩
          case measure => simp [intOf]; omega
    · obtain rfl : i = 2 := by omega
      exact absurd (fun j hj q hq => HP.out j q hj hq (by omega)) HG.out
set_option maxHeartbeats 1000000 in
set_option maxRecDepth 100000 in
theorem netCanonicalBad (A : Option Addr) (c : Nat) (l : List Ck.Bar) (E : Int) (w : World) (h : OKS w A c l) (hE : netE l = E) (hne : E ≠ 0) :
    Calls Tryz.prog 70 #[.slice A l.length c] w (BadPost E w) := by
  have HO := Lib.hid h
  have HE := Lib.hid hE
  have hn0 : (E != 0) = true := by rw [bne_iff_ne]; exact hne
  clear h hE hne
  go_enter Tryz.func70, Tryz.ntmps70
  go_wp2_with fail
  refine (netCheckNetA A c l _ HO.out).mono ?_
  rintro e w1 ⟨rfl, hb1⟩
  rw [HE.out]
  go_wp2
  go_ret2
  exact ⟨rfl, hb1⟩
end Go.Proofs.YtdeplhihcifmeaaGreatDoor

/- The law of NettingMotions. -/
namespace Go.Proofs.YtdeplhihcifmeaaGreatDoor
open Go.RowKit Go.Shelf Ck

theorem lwNetBadV (E : Int) (v : Value) (w : World) (h : E ≠ 0) : Calls Tryz.prog 28 #[.slice none 0 0, .int .i64 E, .int .i64 E, v] w fun e w' => e = .returned (.bool true) ∧ Below w.heap.size w w' := by
  have h1 : (E != 0) = true := by rw [bne_iff_ne]; exact h
  clear h
  go_enter Tryz.func28, Tryz.ntmps28
  go_wp2
  go_ret
  exact ⟨by simp, Below.refl _ _⟩
theorem lwWhenT (E : Int) (w : World) : Calls Tryz.prog 67 #[.bool true, .int .i64 E] w fun e w' => e = .returned (.int .i64 E) ∧ w = w' := by
  go_enter Tryz.func67, Tryz.ntmps67
  go_wp2
  go_ret
  exact ⟨rfl, rfl⟩
theorem lwWhenF (E : Int) (w : World) : Calls Tryz.prog 67 #[.bool false, .int .i64 E] w fun e w' => e = .returned (.int .i64 0) ∧ w = w' := by
  go_enter Tryz.func67, Tryz.ntmps67
  go_wp2
  go_ret
  exact ⟨rfl, rfl⟩
end Go.Proofs.YtdeplhihcifmeaaGreatDoor

/- The law of NettingForms. -/
namespace Go.Proofs.YtdeplhihcifmeaaGreatDoor
open Go.RowKit Go.Shelf Ck

theorem canonP (A : Option Addr) (c : Nat) (l C : List Bar) (w : World) (hC : canonL l = C) (hl : l.length ≤ 4096) (hN : Net l) (hG : ∀ j, j < 2 → ∀ q, q < 4 → Net (normL (turnN q (pickL l j)))) (h : OKS w A c l) : Calls Tryz.prog 70 #[.slice A l.length c] w (PairPost C w) := by
  subst hC
  exact netCanonical A c l w hl h.1 h.2.1 h.2.2.1 hN hG h.2.2.2
theorem canonR (A : Option Addr) (c : Nat) (l C : List Bar) (R : Bool) (w : World) (hC : canonL l = C) (hR : (inN l && allIN l 8) = R) (hl : l.length ≤ 4096) (hN : Net l) (h : OKS w A c l) : Calls Tryz.prog 71 #[.slice A l.length c] w (ShfPost C R w) := by
  subst hC hR
  exact refCanonical A c l w hl hN h
set_option maxHeartbeats 8000000 in
set_option maxRecDepth 100000 in
theorem lawFmL (A : Option Addr) (c : Nat) (l : List Bar) (w : World) (hL : LaidLen w) (hO : OKS w A c l) (hS : ∀ W : World, Calls Tryz.prog 16 #[.slice A l.length c, .int .i64 24] W fun e w' => e = .returned (.bool false) ∧ W = w') :
    Calls Tryz.prog 10 #[.slice A l.length c] w fun e w' => e = .returned (.bool true) ∧ Below w.heap.size w w' := by
  have ex0 : ∀ (a b : Value) (w : World), (Instr.extract (.tuple #[a, b]) 0).run Tryz.prog w = .ok a w := fun _ _ _ => by kernel_rfl
  have ex1 : ∀ (a b : Value) (w : World), (Instr.extract (.tuple #[a, b]) 1).run Tryz.prog w = .ok b w := fun _ _ _ => by kernel_rfl
  have HLL := Lib.hid hL
  have HO := Lib.hid hO
  have fin : ∀ {W : World}, Below w.heap.size w W → Below w.heap.size w W := fun hb => hb
  have BW := Below.refl w.heap.size w
  clear hL hO
  go_enter Tryz.func10, Tryz.ntmps10
  go_wp2_with fail
  refine (awake1 _ (HLL.out.below (fin BW) HLL.out.lt)).mono ?_
  rintro e w11 ⟨rfl, hb11⟩
  replace BW := hbT BW hb11
  clear hb11
  go_wp2_with fail
  refine (hS _).mono ?_
  rintro e w12 ⟨rfl, rfl⟩
  go_wp2_with fail
  refine (awake1 _ (HLL.out.below (fin BW) HLL.out.lt)).mono ?_
  rintro e w13 ⟨rfl, hb13⟩
  replace BW := hbT BW hb13
  clear hb13
  go_wp2
  go_ret
  exact ⟨rfl, fin BW⟩
set_option maxHeartbeats 8000000 in
set_option maxRecDepth 100000 in
theorem lawFmB (A : Option Addr) (c : Nat) (l : List Bar) (w : World) (hL : LaidLen w) (hO : OKS w A c l) (hS : ∀ W : World, Calls Tryz.prog 16 #[.slice A l.length c, .int .i64 24] W fun e w' => e = .returned (.bool true) ∧ W = w') (hlm : l.length ≤ 4098) (E : Int) (hE : netE l = E) (hne : E ≠ 0) :
    Calls Tryz.prog 10 #[.slice A l.length c] w fun e w' => e = .returned (.bool true) ∧ Below w.heap.size w w' := by
  have ex0 : ∀ (a b : Value) (w : World), (Instr.extract (.tuple #[a, b]) 0).run Tryz.prog w = .ok a w := fun _ _ _ => by kernel_rfl
  have ex1 : ∀ (a b : Value) (w : World), (Instr.extract (.tuple #[a, b]) 1).run Tryz.prog w = .ok b w := fun _ _ _ => by kernel_rfl
  have HLL := Lib.hid hL
  have HO := Lib.hid hO
  have fin : ∀ {W : World}, Below w.heap.size w W → Below w.heap.size w W := fun hb => hb
  have BW := Below.refl w.heap.size w
  have HS := Lib.hid hS
  have HE := Lib.hid hE
  have HNE := Lib.hid hne
  have en0 : (E == 0) = false := by rw [beq_eq_false_iff_ne]; exact hne
  clear hS hE hne
  clear hL hO
  go_enter Tryz.func10, Tryz.ntmps10
  go_wp2_with fail
  refine (awake1 _ (HLL.out.below (fin BW) HLL.out.lt)).mono ?_
  rintro e w11 ⟨rfl, hb11⟩
  replace BW := hbT BW hb11
  clear hb11
  go_wp2_with fail
  refine (HS.out _).mono ?_
  rintro e w12 ⟨rfl, rfl⟩
  go_wp2_with fail
  refine (lwCopied A c l _ hlm (HO.out.below (fin BW))).mono ?_
  rintro e w13 ⟨a13, c13, rfl, o13, hb13⟩
  replace BW := hbT BW hb13
  have O13 := Lib.hid o13
  clear o13 hb13
  go_wp2_with fail
  refine (netCanonicalBad a13 c13 l E _ O13.out HE.out HNE.out).mono ?_
  rintro e w14 ⟨rfl, hb14⟩
  replace BW := hbT BW hb14
  replace O13 := Lib.hid (O13.out.below hb14)
  clear hb14
  clear O13
  go_wp2_with fail
  refine (refCheckNetA A c l _ (HO.out.below (fin BW))).mono ?_
  rintro e w15 ⟨rfl, hb15⟩
  rw [HE.out]
  replace BW := hbT BW hb15
  clear hb15
  go_wp2_with fail
  refine (lwNetBad E _ HNE.out).mono ?_
  rintro e w16 ⟨rfl, hb16⟩
  replace BW := hbT BW hb16
  clear hb16
  go_wp2
  go_ret
  exact ⟨rfl, fin BW⟩
set_option maxHeartbeats 8000000 in
set_option maxRecDepth 100000 in
theorem lawFmI (A : Option Addr) (c : Nat) (l : List Bar) (w : World) (hL : LaidLen w) (hO : OKS w A c l) (hS : ∀ W : World, Calls Tryz.prog 16 #[.slice A l.length c, .int .i64 24] W fun e w' => e = .returned (.bool true) ∧ W = w') (hl : l.length ≤ 24) (hN : Net l) (C : List Bar) (hC : canonL l = C) (hCl : C.length ≤ 4096) (hI : (inN l && allIN l 8) = true) (hG : ∀ j, j < 2 → ∀ q, q < 4 → Net (normL (turnN q (pickL l j)))) :
    Calls Tryz.prog 10 #[.slice A l.length c] w fun e w' => e = .returned (.bool true) ∧ Below w.heap.size w w' := by
  have ex0 : ∀ (a b : Value) (w : World), (Instr.extract (.tuple #[a, b]) 0).run Tryz.prog w = .ok a w := fun _ _ _ => by kernel_rfl
  have ex1 : ∀ (a b : Value) (w : World), (Instr.extract (.tuple #[a, b]) 1).run Tryz.prog w = .ok b w := fun _ _ _ => by kernel_rfl
  have HLL := Lib.hid hL
  have HO := Lib.hid hO
  have fin : ∀ {W : World}, Below w.heap.size w W → Below w.heap.size w W := fun hb => hb
  have BW := Below.refl w.heap.size w
  have HN := Lib.hid hN
  have HC := Lib.hid hC
  have HG := Lib.hid hG
  have HI := Lib.hid hI
  have HS := Lib.hid hS
  have hlm : l.length ≤ 4098 := by omega
  have HE := Lib.hid ((netE_zero l).2 ⟨by omega, hN⟩)
  clear hN hC hG hI hS
  clear hL hO
  go_enter Tryz.func10, Tryz.ntmps10
  go_wp2_with fail
  refine (awake1 _ (HLL.out.below (fin BW) HLL.out.lt)).mono ?_
  rintro e w11 ⟨rfl, hb11⟩
  replace BW := hbT BW hb11
  clear hb11
  go_wp2_with fail
  refine (HS.out _).mono ?_
  rintro e w12 ⟨rfl, rfl⟩
  go_wp2_with fail
  refine (lwCopied A c l _ hlm (HO.out.below (fin BW))).mono ?_
  rintro e w13 ⟨a13, c13, rfl, o13, hb13⟩
  replace BW := hbT BW hb13
  have O13 := Lib.hid o13
  clear o13 hb13
  go_wp2_with fail
  refine (canonP a13 c13 l C _ HC.out (by omega) HN.out HG.out O13.out).mono ?_
  rintro e w14 ⟨a14, c14, rfl, o14, hb14⟩
  replace BW := hbT BW hb14
  replace O13 := Lib.hid (O13.out.below hb14)
  have O14 := Lib.hid o14
  clear o14 hb14
  clear O13
  go_wp2_with fail
  refine (refCheckNetA A c l _ (HO.out.below (fin BW))).mono ?_
  rintro e w15 ⟨rfl, hb15⟩
  rw [HE.out]
  replace BW := hbT BW hb15
  replace O14 := Lib.hid (O14.out.below hb15)
  clear hb15
  go_wp2_with fail
  refine (canonR A c l C true _ HC.out HI.out (by omega) HN.out (HO.out.below (fin BW))).mono ?_
  rintro e w16 ⟨a16, c16, rfl, o16, hb16⟩
  replace BW := hbT BW hb16
  replace O14 := Lib.hid (O14.out.below hb16)
  have O16 := Lib.hid o16
  clear o16 hb16
  go_wp2_with fail
  refine (lwWhenF 3 _).mono ?_
  rintro e w17 ⟨rfl, rfl⟩
  go_wp2_with fail
  refine (lwNetOk a14 a16 c14 c16 C _ hCl O14.out O16.out).mono ?_
  rintro e w18 ⟨rfl, hb18⟩
  replace BW := hbT BW hb18
  replace O14 := Lib.hid (O14.out.below hb18)
  replace O16 := Lib.hid (O16.out.below hb18)
  clear hb18
  go_wp2
  go_ret
  exact ⟨rfl, fin BW⟩
set_option maxHeartbeats 8000000 in
set_option maxRecDepth 100000 in
theorem lawFmO (A : Option Addr) (c : Nat) (l : List Bar) (w : World) (hL : LaidLen w) (hO : OKS w A c l) (hS : ∀ W : World, Calls Tryz.prog 16 #[.slice A l.length c, .int .i64 24] W fun e w' => e = .returned (.bool true) ∧ W = w') (hl : l.length ≤ 24) (hN : Net l) (C : List Bar) (hC : canonL l = C) (hCl : C.length ≤ 4096) (hI : (inN l && allIN l 8) = false) (hG : ¬ ∀ j, j < 2 → ∀ q, q < 4 → Net (normL (turnN q (pickL l j)))) :
    Calls Tryz.prog 10 #[.slice A l.length c] w fun e w' => e = .returned (.bool true) ∧ Below w.heap.size w w' := by
  have ex0 : ∀ (a b : Value) (w : World), (Instr.extract (.tuple #[a, b]) 0).run Tryz.prog w = .ok a w := fun _ _ _ => by kernel_rfl
  have ex1 : ∀ (a b : Value) (w : World), (Instr.extract (.tuple #[a, b]) 1).run Tryz.prog w = .ok b w := fun _ _ _ => by kernel_rfl
  have HLL := Lib.hid hL
  have HO := Lib.hid hO
  have fin : ∀ {W : World}, Below w.heap.size w W → Below w.heap.size w W := fun hb => hb
  have BW := Below.refl w.heap.size w
  have HN := Lib.hid hN
  have HC := Lib.hid hC
  have HG := Lib.hid hG
  have HI := Lib.hid hI
  have HS := Lib.hid hS
  have hlm : l.length ≤ 4098 := by omega
  have HE := Lib.hid ((netE_zero l).2 ⟨by omega, hN⟩)
  clear hN hC hG hI hS
  clear hL hO
  go_enter Tryz.func10, Tryz.ntmps10
  go_wp2_with fail
  refine (awake1 _ (HLL.out.below (fin BW) HLL.out.lt)).mono ?_
  rintro e w11 ⟨rfl, hb11⟩
  replace BW := hbT BW hb11
  clear hb11
  go_wp2_with fail
  refine (HS.out _).mono ?_
  rintro e w12 ⟨rfl, rfl⟩
  go_wp2_with fail
  refine (lwCopied A c l _ hlm (HO.out.below (fin BW))).mono ?_
  rintro e w13 ⟨a13, c13, rfl, o13, hb13⟩
  replace BW := hbT BW hb13
  have O13 := Lib.hid o13
  clear o13 hb13
  go_wp2_with fail
  refine (netCanonicalOut a13 c13 l _ (by omega) O13.out.1 O13.out.2.1 O13.out.2.2.1 HN.out HG.out O13.out.2.2.2).mono ?_
  rintro e w14 ⟨rfl, hb14⟩
  replace BW := hbT BW hb14
  replace O13 := Lib.hid (O13.out.below hb14)
  clear hb14
  clear O13
  go_wp2_with fail
  refine (refCheckNetA A c l _ (HO.out.below (fin BW))).mono ?_
  rintro e w15 ⟨rfl, hb15⟩
  rw [HE.out]
  replace BW := hbT BW hb15
  clear hb15
  go_wp2_with fail
  refine (canonR A c l C false _ HC.out HI.out (by omega) HN.out (HO.out.below (fin BW))).mono ?_
  rintro e w16 ⟨a16, c16, rfl, o16, hb16⟩
  replace BW := hbT BW hb16
  have O16 := Lib.hid o16
  clear o16 hb16
  go_wp2_with fail
  refine (lwWhenT 3 _).mono ?_
  rintro e w17 ⟨rfl, rfl⟩
  go_wp2_with fail
  refine (lwNetBadV 3 _ _ (by decide)).mono ?_
  rintro e w18 ⟨rfl, hb18⟩
  replace BW := hbT BW hb18
  replace O16 := Lib.hid (O16.out.below hb18)
  clear hb18
  go_wp2
  go_ret
  exact ⟨rfl, fin BW⟩
theorem lawForms (A : Option Addr) (c : Nat) (l : List Bar) (w : World) (hL : LaidLen w) (hO : OKS w A c l) :
    Calls Tryz.prog 10 #[.slice A l.length c] w fun e w' => e = .returned (.bool true) ∧ Below w.heap.size w w' := by
  have hk : l.length ≤ maxLen := Nat.le_trans hO.1 hO.2.1
  by_cases hs : (l.length : Int) ≤ 24 ∨ (4096 < (l.length : Int) ∧ (l.length : Int) ≤ 4098)
  · have hS : ∀ W : World, Calls Tryz.prog 16 #[.slice A l.length c, .int .i64 24] W fun e w' => e = .returned (.bool true) ∧ W = w' := fun W => refShortOk A c _ 24 W hk hs
    by_cases hE : netE l = 0
    · obtain ⟨hl, hN⟩ := (netE_zero l).1 hE
      have hc : (canonL l).length ≤ 4096 := by rw [canon_length]; exact hl
      cases ha : allIN l 8
      · exact lawFmO A c l w hL hO hS (by omega) hN _ rfl hc (by rw [ha, Bool.and_false]) (fun h => by rw [(allIN_iff hN hl).2 h] at ha; cases ha)
      · have h0 : inN l = true := by
          have := List.all_eq_true.1 ha 0 (List.mem_range.2 (by omega))
          exact this
        exact lawFmI A c l w hL hO hS (by omega) hN _ rfl hc (by rw [ha, h0]; rfl) ((allIN_iff hN hl).1 ha)
    · exact lawFmB A c l w hL hO hS (by omega) _ rfl hE
  · exact lawFmL A c l w hL hO (fun W => refShortNo A c _ 24 W hk hs)
end Go.Proofs.YtdeplhihcifmeaaGreatDoor

/- An argument that is a list of bars, opened. -/
namespace Go.Proofs.YtdeplhihcifmeaaGreatDoor
open Go.ChangeShapes Go.WideShapes Go.ChangeAt Go.RowKit Go.Deep

variable {H : Type} {enc : TypeId × Value → H} {w : World} {spare : Nat → Bool} {held : Bool}
set_option maxRecDepth 100000 in
theorem bar_cells {n : Nat} {cs : List Value} {x : DataW H × List MemPlace} (h : DataW.trod enc Tryz.prog w 0 spare held n 24 cs = some x) : ∃ b : Ck.Bar, cs = bcells b := by
  obtain ⟨xs, m, _, _, hl, hx, hf⟩ := DataW.trod_struct Tryz.underlying24 h
  have hC : Tryz.prog.cellsOf 24 = 3 := by kernel_rfl
  have c3 : Tryz.prog.cellsOf 3 = 1 := by kernel_rfl
  rw [hC] at hl
  match cs, hl, xs, hx with
  | [c0, c1, c2], _, [x0, x1, x2], _ =>
    have h0 := hf 0 _ rfl
    have h1 := hf 1 _ rfl
    have h2 := hf 2 _ rfl
    simp [c3] at h0 h1 h2
    obtain ⟨n0, e0, _⟩ := DataW.trod_int Tryz.underlying3 h0
    obtain ⟨n1, e1, _⟩ := DataW.trod_int Tryz.underlying3 h1
    obtain ⟨n2, e2, _⟩ := DataW.trod_int Tryz.underlying3 h2
    simp only [List.cons.injEq, and_true] at e0 e1 e2
    exact ⟨⟨n0, n1, n2⟩, by rw [e0, e1, e2]; rfl⟩
set_option maxRecDepth 100000 in
/-- The argument is nil, or a slice that reads as bars. -/
theorem open_bars {v : Value} {d : DataW H} {p : List MemPlace} {r : Reach} {b0 : Nat} (hv : Value.okWide Tryz.prog w r b0 22 v) (h : DataW.Trod enc Tryz.prog w 0 spare held 22 v d p) (_ : ∀ x ∈ p, x.block < w.heap.size) :
    ∃ (A : Option Addr) (c : Nat) (l : List Ck.Bar), v = .slice A l.length c ∧ (A = none → c = 0) ∧ l.length ≤ c ∧ c ≤ maxLen ∧ RB w w.heap.size A l := by
  obtain ⟨a, len, cap, rfl⟩ := okWide_slice Tryz.underlying22 hv
  obtain ⟨fuel, hf⟩ := h
  have hC : Tryz.prog.cellsOf 24 = 3 := by kernel_rfl
  rcases open_slice Tryz.underlying22 hf with ⟨hcs, _⟩ | ⟨a', len', cap', m, n, D, Pl, hcs, hb, hl, hm, hmm, hx, hi⟩
  · simp [Value.cells] at hcs
    obtain ⟨rfl, rfl, rfl⟩ := hcs
    exact ⟨none, 0, [], rfl, fun _ => rfl, Nat.zero_le _, by unfold maxLen; omega, fun h => by simp at h⟩
  · simp [Value.cells] at hcs
    obtain ⟨rfl, rfl, rfl⟩ := hcs
    rw [hC] at hi hx
    have hle : len ≤ m := by rw [hmm]; split <;> omega
    have each : ∀ i, ∃ b : Ck.Bar, i < len → w.cell? (a'.add (i * 3)) = some (.int .i64 b.x) ∧ w.cell? ((a'.add (i * 3)).add 1) = some (.int .i64 b.y) ∧ w.cell? ((a'.add (i * 3)).add 2) = some (.int .i64 b.s) := fun i => by
      by_cases hi' : i < len
      · obtain ⟨cs', h1, h2⟩ := hi i (by omega)
        obtain ⟨b, rfl⟩ := bar_cells h2
        obtain ⟨_, _, h3⟩ := World.cells?_some h1
        exact ⟨b, fun _ => ⟨h3 0 (by omega), h3 1 (by omega), h3 2 (by omega)⟩⟩
      · exact ⟨⟨0, 0, 0⟩, fun h => absurd h hi'⟩
    obtain ⟨f, hf'⟩ := Classical.axiomOfChoice each
    have hlen : ((List.range len).map f).length = len := by simp
    refine ⟨some a', cap, (List.range len).map f, by rw [hlen], (fun h => by cases h), by rw [hlen]; exact hl, hm, fun hpos => ?_⟩
    rw [hlen] at hpos
    obtain ⟨blk, off, spot⟩ := a'
    have h0 := (hf' 0 hpos).1
    have hspot : spot = none := by
      cases spot with
      | none => rfl
      | some s =>
        simp [Addr.add, World.cell?] at h0
        split at h0 <;> simp at h0
    subst hspot
    have hadd : ∀ k, (⟨blk, off, none⟩ : Addr).add k = ⟨blk, off + k, none⟩ := fun k => by
      unfold Addr.add
      split
      · simp
      · rfl
    have hblk : blk < w.heap.size := by
      rw [hadd] at h0
      unfold World.cell? at h0
      cases hh : w.heap[blk]? with
      | none => simp [hh] at h0
      | some o => exact (Array.getElem?_eq_some_iff.1 hh).1
    refine ⟨blk, off, rfl, hblk, fun i hi' => ?_⟩
    rw [hlen] at hi'
    obtain ⟨k0, k1, k2⟩ := hf' i hi'
    rw [hadd] at k0 k1 k2
    have hadd2 : ∀ k j, (⟨blk, k, none⟩ : Addr).add j = ⟨blk, k + j, none⟩ := fun k j => by
      unfold Addr.add
      split
      · simp
      · rfl
    rw [hadd2] at k1 k2
    have hg : ((List.range len).map f)[i]'(by simpa using hi') = f i := by simp
    rw [hg]
    exact ⟨k0, k1, k2⟩
end Go.Proofs.YtdeplhihcifmeaaGreatDoor
