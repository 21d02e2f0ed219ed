/- Helpers: DKeP3. -/
import Derived.Test.YtdeplhihcifmeaaGreatDoorDKeP2
import Derived.Deep.RegionHeld3
import Derived.ProofKit
import Derived.Deep.Slices
import Derived.Deep.Fields
/- The reference's Shifted. -/
namespace Go.Proofs.YtdeplhihcifmeaaGreatDoor
open Go.RowKit Go.Shelf Ck

theorem st3 {w : World} {g base : Nat} {x0 y0 z0 : Value} {t : TypeId} (x y z : Value) (h : w.heap[g]? = some (.cells #[x0, y0, z0] t (0, 0))) (hb : base ≤ g) :
    ∃ w', ((w.setCell ⟨g, 0, none⟩ x).setCell ⟨g, 1, none⟩ y).setCell ⟨g, 2, none⟩ z = w' ∧ w'.heap[g]? = some (.cells #[x, y, z] t (0, 0)) ∧ Below base w w' := by
  obtain ⟨s1, _⟩ := setBlockAt h 0 x
  obtain ⟨s2, _⟩ := setBlockAt s1 1 y
  obtain ⟨s3, _⟩ := setBlockAt s2 2 z
  exact ⟨_, rfl, s3, (((Below.refl _ _).setCell hb _).setCell hb _).setCell hb _⟩
def ShfPost (u : List Bar) (r : Bool) (w : World) (e : Ending) (w' : World) : Prop := ∃ a c, e = .returned (.tuple #[.slice a u.length c, .bool r]) ∧ OKS w' a c u ∧ Below w.heap.size w w'
set_option maxHeartbeats 8000000 in
set_option maxRecDepth 100000 in
theorem refShifted (A : Option Addr) (c : Nat) (l u : List Ck.Bar) (dx dy : Int) (r : Bool) (w : World) (hu : l.map (Bar.shift dx dy) = u) (hr : l.all (inB dx dy) = r) (hl : l.length ≤ 4096) (hok : ∀ x ∈ l, okBar x) (hK : knotE dx dy = 0) (h : OKS w A c l) :
    Calls Tryz.prog 66 #[.slice A l.length c, .agg #[.int .i64 dx, .int .i64 dy]] w (ShfPost u r w) := by
  obtain ⟨k1, k2, k3, k4⟩ := knotE_zero hK
  obtain ⟨ib, hib, hb0, hb01, hb02⟩ := info_parts Tryz.info24
  have HIB := Lib.hid hib
  have HB0 := Lib.hid hb0
  have HB1 := Lib.hid hb01
  have HB2 := Lib.hid hb02
  obtain ⟨w1, hw1, z0, z1, hb1, hz1⟩ := box2 w (.int .i64 dx) (.int .i64 dy) 26
  have Q : ∀ {W : World}, Below w1.heap.size w1 W → W.cell? ⟨w.heap.size, 0, none⟩ = some (.int .i64 dx) ∧ W.cell? ⟨w.heap.size, 1, none⟩ = some (.int .i64 dy) := fun hb => ⟨(hb.cell (p := ⟨w.heap.size, 0, none⟩) hz1).trans z0, (hb.cell (p := ⟨w.heap.size, 1, none⟩) hz1).trans z1⟩
  have HW1 := Lib.hid hw1
  have HR := Lib.hid (h.below hb1)
  have HU := Lib.hid hu
  have HRR := Lib.hid hr
  have HOK := Lib.hid hok
  have hl' : (l.length : Int) ≤ 4096 := by omega
  clear hib hb0 hb01 hb02 h hu hok hr hw1 z0 z1 hK
  go_enter Tryz.func66, Tryz.ntmps66
  go_wp2_with fail
  rw [← HW1.out]
  go_wp2_with fail
  go_loopw [6, 7, 8] (fun v b i wr => ∃ j : Nat, j ≤ l.length ∧ i = .int .i64 j ∧ b = .bool ((l.take j).all (inB dx dy)) ∧ Hid (wr.ownsRow w1.heap.size 24 3 v ((l.take j).map (Bar.shift dx dy)).length (bcellsL ((l.take j).map (Bar.shift dx dy)))) ∧ Below w1.heap.size w1 wr) (fun _ _ i _ => l.length - (intOf i).toNat)
  case atStart => exact ⟨0, Nat.zero_le _, rfl, rfl, Lib.hid ⟨rfl, .inl ⟨rfl, rfl⟩⟩, Below.refl _ _⟩
  case round =>
    obtain ⟨j, hj, rfl, rfl, hown, hb⟩ := hrel
    have hbz := hb.size
    have hln : ((l.take j).map (Bar.shift dx dy)).length ≤ 4096 := by rw [List.length_map, List.length_take]; omega
    by_cases hlt : j < l.length
    · obtain ⟨b, off, rfl, hB, hc⟩ := ((HR.out.below hb).2.2.2) (by omega)
      obtain ⟨d0, d1, d2⟩ := hc j hlt
      have hj1 : (j : Int) < (l.length : Int) := by omega
      have hj0 : (0 : Int) ≤ (j : Int) := by omega
      clear hc
      obtain ⟨k, hk⟩ : ∃ k, l[j] = k := ⟨_, rfl⟩
      have HFY := Lib.hid (show (l.take (j + 1)).map (Bar.shift dx dy) = (l.take j).map (Bar.shift dx dy) ++ [k.shift dx dy] by rw [List.take_succ_eq_append_getElem hlt, List.map_append, hk]; rfl)
      have HALL := Lib.hid (show (l.take (j + 1)).all (inB dx dy) = ((l.take j).all (inB dx dy) && inB dx dy k) by rw [List.take_succ_eq_append_getElem hlt, List.all_append, hk]; simp)
      have HKO := Lib.hid (show okBar k by rw [← hk]; exact HOK.out _ (List.getElem_mem hlt))
      rw [hk] at d0 d1 d2
      obtain ⟨⟨⟨x1, x2⟩, ⟨y1, y2⟩, -⟩, ks, -, -⟩ := HKO.out
      simp only [Bar.lo] at x1 x2 y1 y2
      have ks1 : -1 ≤ k.s := by omega
      have ks2 : k.s ≤ 1 := by omega
      have CR : ∀ {W : World}, Below wr.heap.size wr W → W.cell? ⟨b, off + j * 3, none⟩ = some (.int .i64 k.x) ∧ W.cell? ⟨b, off + j * 3 + 1, none⟩ = some (.int .i64 k.y) ∧ W.cell? ⟨b, off + j * 3 + 2, none⟩ = some (.int .i64 k.s) :=
        fun hq => ⟨(hq.cell (p := ⟨b, off + j * 3, none⟩) hB).trans d0, (hq.cell (p := ⟨b, off + j * 3 + 1, none⟩) hB).trans d1, (hq.cell (p := ⟨b, off + j * 3 + 2, none⟩) hB).trans d2⟩
      have m1 : IntKind.i64.wrap (k.x + dx) = k.x + dx := by rw [IntKind.wrap_i64]; omega
      have m2 : IntKind.i64.wrap (k.y + dy) = k.y + dy := by rw [IntKind.wrap_i64]; omega
      have m3 : IntKind.i64.wrap (k.x + dx + k.s) = k.x + dx + k.s := by rw [IntKind.wrap_i64]; omega
      have m4 : IntKind.i64.wrap (k.y + dy + 1) = k.y + dy + 1 := by rw [IntKind.wrap_i64]; omega
      clear hk ks d0 d1 d2
      generalize (l.take j).map (Bar.shift dx dy) = F at *
      obtain ⟨R, hisR⟩ : ∃ R, (l.take j).all (inB dx dy) = R := ⟨_, rfl⟩
      rw [hisR]
      go_wp2_with fail
      refine wp_region_held_drew (S := (fun w' => Below wr.heap.size wr w')) (by kernel_rfl) ?_ (fun hHeld => ?_)
      · exact below_drew (Below.refl _ _)
      refine wpAnyH_take (i := 0) (oi := _) (v := ?vs0_1) rfl (by kernel_rfl) (by kernel_rfl) (by kernel_rfl) (fun _ _ _ h => h) (Or.inl ⟨by rfl, ?hys0_1⟩) (by assumption) ?rests0_1
      case hys0_1 => (intro w hSw; (try dsimp only at hSw); go_simp; first | done | rfl)
      try simp only [List.getElem_toArray, List.getElem_cons_succ, List.getElem_cons_zero, Act.put, List.setIfInBounds_toArray, List.set_cons_zero, List.set_cons_succ]
      refine wpAnyH_take (i := 1) (oi := _) (v := ?vs1_2) rfl (by kernel_rfl) (by kernel_rfl) (by kernel_rfl) (fun _ _ _ h => h) (Or.inl ⟨by rfl, ?hys1_2⟩) (by assumption) ?rests1_2
      case hys1_2 => (intro w hSw; (try dsimp only at hSw); go_simp; first | done | rfl)
      try simp only [List.getElem_toArray, List.getElem_cons_succ, List.getElem_cons_zero, Act.put, List.setIfInBounds_toArray, List.set_cons_zero, List.set_cons_succ]
      refine wpAnyH_take (i := 2) (oi := _) (v := ?vs2_3) rfl (by kernel_rfl) (by kernel_rfl) (by kernel_rfl) (fun _ _ _ h => h) (Or.inl ⟨by rfl, ?hys2_3⟩) (by assumption) ?rests2_3
      case hys2_3 => (intro w hSw; (try dsimp only at hSw); go_simp; first | done | rfl)
      try simp only [List.getElem_toArray, List.getElem_cons_succ, List.getElem_cons_zero, Act.put, List.setIfInBounds_toArray, List.set_cons_zero, List.set_cons_succ]
      refine wpAnyH_take (i := 3) (oi := _) (v := ?vs3_4) rfl (by kernel_rfl) (by kernel_rfl) (by kernel_rfl) (fun _ _ _ h => h) (Or.inl ⟨by rfl, ?hys3_4⟩) (by assumption) ?rests3_4
      case hys3_4 => (intro w hSw; (try dsimp only at hSw); go_simp; first | done | rfl)
      try simp only [List.getElem_toArray, List.getElem_cons_succ, List.getElem_cons_zero, Act.put, List.setIfInBounds_toArray, List.set_cons_zero, List.set_cons_succ]
      refine wpAnyH_take (i := 4) (oi := _) (v := ?vs4_5) rfl (by kernel_rfl) (by kernel_rfl) (by kernel_rfl) (fun _ _ _ h => h) (Or.inl ⟨by rfl, ?hys4_5⟩) (by assumption) ?rests4_5
      case hys4_5 => (intro w hSw; (try dsimp only at hSw); obtain ⟨q0, q1⟩ := Q (hbT hb hSw); obtain ⟨e0, e1, e2⟩ := CR hSw; go_simp; first | done | rfl)
      try simp only [List.getElem_toArray, List.getElem_cons_succ, List.getElem_cons_zero, Act.put, List.setIfInBounds_toArray, List.set_cons_zero, List.set_cons_succ]
      refine wpAnyH_take (i := 5) (oi := _) (v := ?vs5_6) rfl (by kernel_rfl) (by kernel_rfl) (by kernel_rfl) (fun _ _ _ h => h) (Or.inl ⟨by rfl, ?hys5_6⟩) (by assumption) ?rests5_6
      case hys5_6 => (intro w hSw; (try dsimp only at hSw); go_simp; first | done | rfl)
      try simp only [List.getElem_toArray, List.getElem_cons_succ, List.getElem_cons_zero, Act.put, List.setIfInBounds_toArray, List.set_cons_zero, List.set_cons_succ]
      refine wpAnyH_take (i := 6) (oi := _) (v := ?vs6_7) rfl (by kernel_rfl) (by kernel_rfl) (by kernel_rfl) (fun _ _ _ h => h) (Or.inl ⟨by rfl, ?hys6_7⟩) (by assumption) ?rests6_7
      case hys6_7 => (intro w hSw; (try dsimp only at hSw); obtain ⟨q0, q1⟩ := Q (hbT hb hSw); obtain ⟨e0, e1, e2⟩ := CR hSw; go_simp; first | done | rfl)
      try simp only [List.getElem_toArray, List.getElem_cons_succ, List.getElem_cons_zero, Act.put, List.setIfInBounds_toArray, List.set_cons_zero, List.set_cons_succ]
      refine wpAnyH_take (i := 7) (oi := _) (v := ?vs7_8) rfl (by kernel_rfl) (by kernel_rfl) (by kernel_rfl) (fun _ _ _ h => h) (Or.inl ⟨by rfl, ?hys7_8⟩) (by assumption) ?rests7_8
      case hys7_8 => (intro w hSw; (try dsimp only at hSw); go_simp; first | done | rfl)
      try simp only [List.getElem_toArray, List.getElem_cons_succ, List.getElem_cons_zero, Act.put, List.setIfInBounds_toArray, List.set_cons_zero, List.set_cons_succ]
      refine wpAnyH_take (i := 8) (oi := _) (v := ?vs8_9) rfl (by kernel_rfl) (by kernel_rfl) (by kernel_rfl) (fun _ _ _ h => h) (Or.inl ⟨by rfl, ?hys8_9⟩) (by assumption) ?rests8_9
      case hys8_9 => (intro w hSw; (try dsimp only at hSw); go_simp; first | done | rfl)
      try simp only [List.getElem_toArray, List.getElem_cons_succ, List.getElem_cons_zero, Act.put, List.setIfInBounds_toArray, List.set_cons_zero, List.set_cons_succ]
      refine wpAnyH_take (i := 9) (oi := _) (v := ?vs9_10) rfl (by kernel_rfl) (by kernel_rfl) (by kernel_rfl) (fun _ _ _ h => h) (Or.inl ⟨by rfl, ?hys9_10⟩) (by assumption) ?rests9_10
      case hys9_10 => (intro w hSw; (try dsimp only at hSw); go_simp; first | done | rfl)
      try simp only [List.getElem_toArray, List.getElem_cons_succ, List.getElem_cons_zero, Act.put, List.setIfInBounds_toArray, List.set_cons_zero, List.set_cons_succ]
      refine wpAnyH_take (i := 10) (oi := _) (v := ?vs10_11) rfl (by kernel_rfl) (by kernel_rfl) (by kernel_rfl) (fun _ _ _ h => h) (Or.inl ⟨by rfl, ?hys10_11⟩) (by assumption) ?rests10_11
      case hys10_11 => (intro w hSw; (try dsimp only at hSw); go_simp; first | done | rfl)
      try simp only [List.getElem_toArray, List.getElem_cons_succ, List.getElem_cons_zero, Act.put, List.setIfInBounds_toArray, List.set_cons_zero, List.set_cons_succ]
      refine wpAnyH_take (i := 11) (oi := _) (v := ?vs11_12) rfl (by kernel_rfl) (by kernel_rfl) (by kernel_rfl) (fun _ _ _ h => h) (Or.inl ⟨by rfl, ?hys11_12⟩) (by assumption) ?rests11_12
      case hys11_12 => (intro w hSw; (try dsimp only at hSw); go_simp; first | done | rfl)
      try simp only [List.getElem_toArray, List.getElem_cons_succ, List.getElem_cons_zero, Act.put, List.setIfInBounds_toArray, List.set_cons_zero, List.set_cons_succ]
      refine wpAnyH_take (i := 12) (oi := _) (v := ?vs12_13) rfl (by kernel_rfl) (by kernel_rfl) (by kernel_rfl) (fun _ _ _ h => h) (Or.inl ⟨by rfl, ?hys12_13⟩) (by assumption) ?rests12_13
      case hys12_13 => (intro w hSw; (try dsimp only at hSw); obtain ⟨q0, q1⟩ := Q (hbT hb hSw); obtain ⟨e0, e1, e2⟩ := CR hSw; go_simp; first | done | rfl)
      try simp only [List.getElem_toArray, List.getElem_cons_succ, List.getElem_cons_zero, Act.put, List.setIfInBounds_toArray, List.set_cons_zero, List.set_cons_succ]
      refine wpAnyH_take (i := 13) (oi := _) (v := ?vs13_14) rfl (by kernel_rfl) (by kernel_rfl) (by kernel_rfl) (fun _ _ _ h => h) (Or.inl ⟨by rfl, ?hys13_14⟩) (by assumption) ?rests13_14
      case hys13_14 => (intro w hSw; (try dsimp only at hSw); go_simp; first | done | rfl)
      try simp only [List.getElem_toArray, List.getElem_cons_succ, List.getElem_cons_zero, Act.put, List.setIfInBounds_toArray, List.set_cons_zero, List.set_cons_succ]
      refine wpAnyH_take (i := 14) (oi := _) (v := ?vs14_15) rfl (by kernel_rfl) (by kernel_rfl) (by kernel_rfl) (fun _ _ _ h => h) (Or.inl ⟨by rfl, ?hys14_15⟩) (by assumption) ?rests14_15
      case hys14_15 => (intro w hSw; (try dsimp only at hSw); obtain ⟨q0, q1⟩ := Q (hbT hb hSw); obtain ⟨e0, e1, e2⟩ := CR hSw; go_simp; first | done | rfl)
      try simp only [List.getElem_toArray, List.getElem_cons_succ, List.getElem_cons_zero, Act.put, List.setIfInBounds_toArray, List.set_cons_zero, List.set_cons_succ]
      refine wpAnyH_take (i := 15) (oi := _) (v := ?vs15_16) rfl (by kernel_rfl) (by kernel_rfl) (by kernel_rfl) (fun _ _ _ h => h) (Or.inl ⟨by rfl, ?hys15_16⟩) (by assumption) ?rests15_16
      case hys15_16 => (intro w hSw; (try dsimp only at hSw); go_simp; first | done | rfl)
      try simp only [List.getElem_toArray, List.getElem_cons_succ, List.getElem_cons_zero, Act.put, List.setIfInBounds_toArray, List.set_cons_zero, List.set_cons_succ]
      refine wpAnyH_take (i := 16) (oi := _) (v := ?vs16_17) rfl (by kernel_rfl) (by kernel_rfl) (by kernel_rfl) (fun _ _ _ h => h) (Or.inl ⟨by rfl, ?hys16_17⟩) (by assumption) ?rests16_17
      case hys16_17 => (intro w hSw; (try dsimp only at hSw); go_simp; first | done | rfl)
      try simp only [List.getElem_toArray, List.getElem_cons_succ, List.getElem_cons_zero, Act.put, List.setIfInBounds_toArray, List.set_cons_zero, List.set_cons_succ]
      refine wpAnyH_take (i := 17) (oi := _) (v := ?vs17_18) rfl (by kernel_rfl) (by kernel_rfl) (by kernel_rfl) (fun _ _ _ h => h) (Or.inl ⟨by rfl, ?hys17_18⟩) (by assumption) ?rests17_18
      case hys17_18 => (intro w hSw; (try dsimp only at hSw); go_simp; first | done | rfl)
      try simp only [List.getElem_toArray, List.getElem_cons_succ, List.getElem_cons_zero, Act.put, List.setIfInBounds_toArray, List.set_cons_zero, List.set_cons_succ]
      refine wpAnyH_take (i := 18) (oi := _) (v := ?vs18_19) rfl (by kernel_rfl) (by kernel_rfl) (by kernel_rfl) (fun _ _ _ h => h) (Or.inl ⟨by rfl, ?hys18_19⟩) (by assumption) ?rests18_19
      case hys18_19 => (intro w hSw; (try dsimp only at hSw); go_simp; first | done | rfl)
      try simp only [List.getElem_toArray, List.getElem_cons_succ, List.getElem_cons_zero, Act.put, List.setIfInBounds_toArray, List.set_cons_zero, List.set_cons_succ]
      refine wpAnyH_take (i := 19) (oi := _) (v := ?vs19_20) rfl (by kernel_rfl) (by kernel_rfl) (by kernel_rfl) (fun _ _ _ h => h) (Or.inl ⟨by rfl, ?hys19_20⟩) (by assumption) ?rests19_20
      case hys19_20 => (intro w hSw; (try dsimp only at hSw); go_simp; first | done | rfl)
      try simp only [List.getElem_toArray, List.getElem_cons_succ, List.getElem_cons_zero, Act.put, List.setIfInBounds_toArray, List.set_cons_zero, List.set_cons_succ]
      refine wpAnyH_take (i := 20) (oi := _) (v := ?vs20_21) rfl (by kernel_rfl) (by kernel_rfl) (by kernel_rfl) (fun _ _ _ h => h) (Or.inl ⟨by rfl, ?hys20_21⟩) (by assumption) ?rests20_21
      case hys20_21 => (intro w hSw; (try dsimp only at hSw); obtain ⟨q0, q1⟩ := Q (hbT hb hSw); obtain ⟨e0, e1, e2⟩ := CR hSw; go_simp; first | done | rfl)
      try simp only [List.getElem_toArray, List.getElem_cons_succ, List.getElem_cons_zero, Act.put, List.setIfInBounds_toArray, List.set_cons_zero, List.set_cons_succ]
      refine wpAnyH_take (i := 21) (oi := _) (v := ?vs21_22) rfl (by kernel_rfl) (by kernel_rfl) (by kernel_rfl) (fun _ _ _ h => h) (Or.inl ⟨by rfl, ?hys21_22⟩) (by assumption) ?rests21_22
      case hys21_22 => (intro w hSw; (try dsimp only at hSw); go_simp; first | done | rfl)
      try simp only [List.getElem_toArray, List.getElem_cons_succ, List.getElem_cons_zero, Act.put, List.setIfInBounds_toArray, List.set_cons_zero, List.set_cons_succ]
      refine wpAnyH_ready (rs := [22]) (by kernel_rfl) (by simp) ?_
      refine (AllReadyH.cons (o := _) rfl (fun K hK => ?rs22_23) AllReadyH.nil)
      case rs22_23 =>
        simp only [List.getElem_toArray, List.getElem_cons_succ, List.getElem_cons_zero]
        go_simp
        obtain ⟨Wa, hWa⟩ : ∃ W, wr.drew.alloc (.cells #[.int .i64 0, .int .i64 0, .int .i64 0] 24) = W := ⟨_, rfl⟩
        have hP := Lib.hid (show Wa.heap[wr.heap.size]? = some (.cells #[.int .i64 0, .int .i64 0, .int .i64 0] 24 (0, 0)) by rw [← hWa]; exact heap_alloc_new _ _)
        have hal : Below wr.heap.size wr.drew Wa := by rw [← hWa]; exact (Below.refl wr.heap.size wr.drew).alloc (Nat.le_refl wr.heap.size) _
        rw [show (wr.alloc (.cells #[.int .i64 0, .int .i64 0, .int .i64 0] 24)).drew = Wa from hWa]
        refine hK.out _ _ (Below.trans hHeld hal) (fun hHeld => ?_)
        clear hWa hal
        obtain ⟨p0, p1, p2, pf⟩ := three_of_block hP.out
        clear hK K
        try simp only [List.getElem_toArray, List.getElem_cons_succ, List.getElem_cons_zero, Act.put, List.setIfInBounds_toArray, List.set_cons_zero, List.set_cons_succ]
        refine wpAnyH_ready (rs := [23]) (by kernel_rfl) (by simp) ?_
        refine (AllReadyH.cons (o := _) rfl (fun K hK => ?rs23_24) AllReadyH.nil)
        case rs23_24 =>
          simp only [List.getElem_toArray, List.getElem_cons_succ, List.getElem_cons_zero]
          go_simp
          obtain ⟨Ws, hWs, hQ, hQb⟩ := st3 (.int .i64 (k.x + dx)) (.int .i64 (k.y + dy)) (.int .i64 k.s) hP.out (Nat.le_refl wr.heap.size)
          rw [hWs]
          refine hK.out _ _ (Below.trans hHeld hQb) (fun hHeld => ?_)
          replace hP := Lib.hid hQ
          clear hWs hQ hQb p0 p1 p2 pf
          obtain ⟨p0, p1, p2, pf⟩ := three_of_block hP.out
          clear hK K
          try simp only [List.getElem_toArray, List.getElem_cons_succ, List.getElem_cons_zero, Act.put, List.setIfInBounds_toArray, List.set_cons_zero, List.set_cons_succ]
          refine wpAnyH_done (by kernel_rfl) ?_ _
          cases R
          case false =>
            have HIS := Lib.hid hisR
            clear hisR
            have hO5 := ownsRow_below hown.out hHeld
            have hz5 := Below.size hHeld
            have hb5 := hbT hb hHeld
            clear hown
            go_wp2_with (at_builtin; refine wpList_append_own _ rfl _ _ 22 rfl w1.heap.size 24 ib (.agg #[.int .i64 0, .int .i64 0, .int .i64 0]) 3 24 Tryz.underlying22 HIB.out HB0.out HB1.out HB2.out rfl (by decide) _ _ _ rfl (World.ownsRow.alloc hO5 _) ⟨Ws.heap.size, 0, none⟩ 1 1 [.int .i64 (k.x + dx), .int .i64 (k.y + dy), .int .i64 k.s] rfl rfl (three_new _ _ _ _ _) ?c2 ?c3 ?c4 ?c5 ?_)
            case c2 => intro u hu; simp at hu; rcases hu with rfl | rfl | rfl <;> rfl
            case c3 => unfold maxLen; omega
            case c4 => omega
            case c5 => simp; omega
            intro v' w8 hown8 hgrow8 _
            have B8 : Below w1.heap.size w1 w8 := (hb5.alloc (by omega) _).grown hgrow8 (by simp; omega) (ownsRow_base hO5)
            have HO8 := Lib.hid hown8
            have hal := Lib.hid (show List.all (l.take (j + 1)) (inB dx dy) = false by rw [HALL.out, HIS.out]; simp [inB])
            clear hown8 hgrow8 hO5
            go_wp2
            go_roundw
            case rel => exact ⟨j + 1, by omega, by go_num, by rw [hal.out], Lib.hid (by rw [HFY.out, List.length_append, bcellsL_snoc]; exact HO8.out), B8⟩
            case measure => simp [intOf]; omega
          case true =>
            have HIS := Lib.hid hisR
            clear hisR
            cases f1 : farB (k.x + dx)
            case false =>
              have Hf1 := Lib.hid f1
              clear f1
              go_wp2_with fail
              refine (refFar (k.x + dx) _).mono ?_
              rintro e w7 ⟨rfl, rfl⟩
              rw [Hf1.out]
              cases f2 : farB (k.y + dy)
              case false =>
                have Hf2 := Lib.hid f2
                clear f2
                go_wp2_with fail
                refine (refFar (k.y + dy) _).mono ?_
                rintro e w7 ⟨rfl, rfl⟩
                rw [Hf2.out]
                cases f3 : farB (k.x + dx + k.s)
                case false =>
                  have Hf3 := Lib.hid f3
                  clear f3
                  go_wp2_with fail
                  refine (refFar (k.x + dx + k.s) _).mono ?_
                  rintro e w7 ⟨rfl, rfl⟩
                  rw [Hf3.out]
                  cases f4 : farB (k.y + dy + 1)
                  case false =>
                    have Hf4 := Lib.hid f4
                    clear f4
                    go_wp2_with fail
                    refine (refFar (k.y + dy + 1) _).mono ?_
                    rintro e w7 ⟨rfl, rfl⟩
                    rw [Hf4.out]
                    have hO5 := ownsRow_below hown.out hHeld
                    have hz5 := Below.size hHeld
                    have hb5 := hbT hb hHeld
                    clear hown
                    go_wp2_with (at_builtin; refine wpList_append_own _ rfl _ _ 22 rfl w1.heap.size 24 ib (.agg #[.int .i64 0, .int .i64 0, .int .i64 0]) 3 24 Tryz.underlying22 HIB.out HB0.out HB1.out HB2.out rfl (by decide) _ _ _ rfl (World.ownsRow.alloc hO5 _) ⟨Ws.heap.size, 0, none⟩ 1 1 [.int .i64 (k.x + dx), .int .i64 (k.y + dy), .int .i64 k.s] rfl rfl (three_new _ _ _ _ _) ?c2 ?c3 ?c4 ?c5 ?_)
                    case c2 => intro u hu; simp at hu; rcases hu with rfl | rfl | rfl <;> rfl
                    case c3 => unfold maxLen; omega
                    case c4 => omega
                    case c5 => simp; omega
                    intro v' w8 hown8 hgrow8 _
                    have B8 : Below w1.heap.size w1 w8 := (hb5.alloc (by omega) _).grown hgrow8 (by simp; omega) (ownsRow_base hO5)
                    have HO8 := Lib.hid hown8
                    have hal := Lib.hid (show List.all (l.take (j + 1)) (inB dx dy) = true by rw [HALL.out, HIS.out]; simp [inB, Hf1.out, Hf2.out, Hf3.out, Hf4.out])
                    clear hown8 hgrow8 hO5
                    go_wp2
                    go_roundw
                    case rel => exact ⟨j + 1, by omega, by go_num, by rw [hal.out], Lib.hid (by rw [HFY.out, List.length_append, bcellsL_snoc]; exact HO8.out), B8⟩
                    case measure => simp [intOf]; omega
                  case true =>
                    have Hf4 := Lib.hid f4
                    clear f4
                    go_wp2_with fail
                    refine (refFar (k.y + dy + 1) _).mono ?_
                    rintro e w7 ⟨rfl, rfl⟩
                    rw [Hf4.out]
                    have hO5 := ownsRow_below hown.out hHeld
                    have hz5 := Below.size hHeld
                    have hb5 := hbT hb hHeld
                    clear hown
                    go_wp2_with (at_builtin; refine wpList_append_own _ rfl _ _ 22 rfl w1.heap.size 24 ib (.agg #[.int .i64 0, .int .i64 0, .int .i64 0]) 3 24 Tryz.underlying22 HIB.out HB0.out HB1.out HB2.out rfl (by decide) _ _ _ rfl (World.ownsRow.alloc hO5 _) ⟨Ws.heap.size, 0, none⟩ 1 1 [.int .i64 (k.x + dx), .int .i64 (k.y + dy), .int .i64 k.s] rfl rfl (three_new _ _ _ _ _) ?c2 ?c3 ?c4 ?c5 ?_)
                    case c2 => intro u hu; simp at hu; rcases hu with rfl | rfl | rfl <;> rfl
                    case c3 => unfold maxLen; omega
                    case c4 => omega
                    case c5 => simp; omega
                    intro v' w8 hown8 hgrow8 _
                    have B8 : Below w1.heap.size w1 w8 := (hb5.alloc (by omega) _).grown hgrow8 (by simp; omega) (ownsRow_base hO5)
                    have HO8 := Lib.hid hown8
                    have hal := Lib.hid (show List.all (l.take (j + 1)) (inB dx dy) = false by rw [HALL.out, HIS.out]; simp [inB, Hf1.out, Hf2.out, Hf3.out, Hf4.out])
                    clear hown8 hgrow8 hO5
                    go_wp2
                    go_roundw
                    case rel => exact ⟨j + 1, by omega, by go_num, by rw [hal.out], Lib.hid (by rw [HFY.out, List.length_append, bcellsL_snoc]; exact HO8.out), B8⟩
                    case measure => simp [intOf]; omega
                case true =>
                  have Hf3 := Lib.hid f3
                  clear f3
                  go_wp2_with fail
                  refine (refFar (k.x + dx + k.s) _).mono ?_
                  rintro e w7 ⟨rfl, rfl⟩
                  rw [Hf3.out]
                  have hO5 := ownsRow_below hown.out hHeld
                  have hz5 := Below.size hHeld
                  have hb5 := hbT hb hHeld
                  clear hown
                  go_wp2_with (at_builtin; refine wpList_append_own _ rfl _ _ 22 rfl w1.heap.size 24 ib (.agg #[.int .i64 0, .int .i64 0, .int .i64 0]) 3 24 Tryz.underlying22 HIB.out HB0.out HB1.out HB2.out rfl (by decide) _ _ _ rfl (World.ownsRow.alloc hO5 _) ⟨Ws.heap.size, 0, none⟩ 1 1 [.int .i64 (k.x + dx), .int .i64 (k.y + dy), .int .i64 k.s] rfl rfl (three_new _ _ _ _ _) ?c2 ?c3 ?c4 ?c5 ?_)
                  case c2 => intro u hu; simp at hu; rcases hu with rfl | rfl | rfl <;> rfl
                  case c3 => unfold maxLen; omega
                  case c4 => omega
                  case c5 => simp; omega
                  intro v' w8 hown8 hgrow8 _
                  have B8 : Below w1.heap.size w1 w8 := (hb5.alloc (by omega) _).grown hgrow8 (by simp; omega) (ownsRow_base hO5)
                  have HO8 := Lib.hid hown8
                  have hal := Lib.hid (show List.all (l.take (j + 1)) (inB dx dy) = false by rw [HALL.out, HIS.out]; simp [inB, Hf1.out, Hf2.out, Hf3.out])
                  clear hown8 hgrow8 hO5
                  go_wp2
                  go_roundw
                  case rel => exact ⟨j + 1, by omega, by go_num, by rw [hal.out], Lib.hid (by rw [HFY.out, List.length_append, bcellsL_snoc]; exact HO8.out), B8⟩
                  case measure => simp [intOf]; omega
              case true =>
                have Hf2 := Lib.hid f2
                clear f2
                go_wp2_with fail
                refine (refFar (k.y + dy) _).mono ?_
                rintro e w7 ⟨rfl, rfl⟩
                rw [Hf2.out]
                have hO5 := ownsRow_below hown.out hHeld
                have hz5 := Below.size hHeld
                have hb5 := hbT hb hHeld
                clear hown
                go_wp2_with (at_builtin; refine wpList_append_own _ rfl _ _ 22 rfl w1.heap.size 24 ib (.agg #[.int .i64 0, .int .i64 0, .int .i64 0]) 3 24 Tryz.underlying22 HIB.out HB0.out HB1.out HB2.out rfl (by decide) _ _ _ rfl (World.ownsRow.alloc hO5 _) ⟨Ws.heap.size, 0, none⟩ 1 1 [.int .i64 (k.x + dx), .int .i64 (k.y + dy), .int .i64 k.s] rfl rfl (three_new _ _ _ _ _) ?c2 ?c3 ?c4 ?c5 ?_)
                case c2 => intro u hu; simp at hu; rcases hu with rfl | rfl | rfl <;> rfl
                case c3 => unfold maxLen; omega
                case c4 => omega
                case c5 => simp; omega
                intro v' w8 hown8 hgrow8 _
                have B8 : Below w1.heap.size w1 w8 := (hb5.alloc (by omega) _).grown hgrow8 (by simp; omega) (ownsRow_base hO5)
                have HO8 := Lib.hid hown8
                have hal := Lib.hid (show List.all (l.take (j + 1)) (inB dx dy) = false by rw [HALL.out, HIS.out]; simp [inB, Hf1.out, Hf2.out])
                clear hown8 hgrow8 hO5
                go_wp2
                go_roundw
                case rel => exact ⟨j + 1, by omega, by go_num, by rw [hal.out], Lib.hid (by rw [HFY.out, List.length_append, bcellsL_snoc]; exact HO8.out), B8⟩
                case measure => simp [intOf]; omega
            case true =>
              have Hf1 := Lib.hid f1
              clear f1
              go_wp2_with fail
              refine (refFar (k.x + dx) _).mono ?_
              rintro e w7 ⟨rfl, rfl⟩
              rw [Hf1.out]
              have hO5 := ownsRow_below hown.out hHeld
              have hz5 := Below.size hHeld
              have hb5 := hbT hb hHeld
              clear hown
              go_wp2_with (at_builtin; refine wpList_append_own _ rfl _ _ 22 rfl w1.heap.size 24 ib (.agg #[.int .i64 0, .int .i64 0, .int .i64 0]) 3 24 Tryz.underlying22 HIB.out HB0.out HB1.out HB2.out rfl (by decide) _ _ _ rfl (World.ownsRow.alloc hO5 _) ⟨Ws.heap.size, 0, none⟩ 1 1 [.int .i64 (k.x + dx), .int .i64 (k.y + dy), .int .i64 k.s] rfl rfl (three_new _ _ _ _ _) ?c2 ?c3 ?c4 ?c5 ?_)
              case c2 => intro u hu; simp at hu; rcases hu with rfl | rfl | rfl <;> rfl
              case c3 => unfold maxLen; omega
              case c4 => omega
              case c5 => simp; omega
              intro v' w8 hown8 hgrow8 _
              have B8 : Below w1.heap.size w1 w8 := (hb5.alloc (by omega) _).grown hgrow8 (by simp; omega) (ownsRow_base hO5)
              have HO8 := Lib.hid hown8
              have hal := Lib.hid (show List.all (l.take (j + 1)) (inB dx dy) = false by rw [HALL.out, HIS.out]; simp [inB, Hf1.out])
              clear hown8 hgrow8 hO5
              go_wp2
              go_roundw
              case rel => exact ⟨j + 1, by omega, by go_num, by rw [hal.out], Lib.hid (by rw [HFY.out, List.length_append, bcellsL_snoc]; exact HO8.out), B8⟩
              case measure => simp [intOf]; omega
    · obtain rfl : j = l.length := by omega
      have h9 := hown.out
      rw [List.take_length, HU.out] at h9
      rw [List.take_length, HRR.out]
      obtain ⟨a2, c2, rfl, ok2⟩ := own_oks h9
      have HO := Lib.hid ok2
      clear h9 hown ok2 hln
      go_wp2
      go_ret2
      exact ⟨a2, c2, rfl, HO.out, hb1.trans (hb.mono hb1.size)⟩
end Go.Proofs.YtdeplhihcifmeaaGreatDoor

/- The law of NettingMotions. -/
namespace Go.Proofs.YtdeplhihcifmeaaGreatDoor
open Go.RowKit Go.Shelf Ck

theorem lwNetBadV (E : Int) (v : Value) (w : World) (h : E ≠ 0) : Calls Tryz.prog 28 #[.slice none 0 0, .int .i64 E, .int .i64 E, v] w fun e w' => e = .returned (.bool true) ∧ Below w.heap.size w w' := by
  have h1 : (E != 0) = true := by rw [bne_iff_ne]; exact h
  clear h
  go_enter Tryz.func28, Tryz.ntmps28
  go_wp2
  go_ret
  exact ⟨by simp, Below.refl _ _⟩
theorem lwWhenT (E : Int) (w : World) : Calls Tryz.prog 67 #[.bool true, .int .i64 E] w fun e w' => e = .returned (.int .i64 E) ∧ w = w' := by
  go_enter Tryz.func67, Tryz.ntmps67
  go_wp2
  go_ret
  exact ⟨rfl, rfl⟩
theorem lwWhenF (E : Int) (w : World) : Calls Tryz.prog 67 #[.bool false, .int .i64 E] w fun e w' => e = .returned (.int .i64 0) ∧ w = w' := by
  go_enter Tryz.func67, Tryz.ntmps67
  go_wp2
  go_ret
  exact ⟨rfl, rfl⟩
theorem netShiftS (A : Option Addr) (c : Nat) (l u : List Bar) (dx dy : Int) (w : World) (hu : l.map (Bar.shift dx dy) = u) (hl : l.length ≤ 4096) (hN : Net l) (hF : Net u) (hK : knotE dx dy = 0) (h : OKS w A c l) :
    Calls Tryz.prog 63 #[.slice A l.length c, .agg #[.int .i64 dx, .int .i64 dy]] w (PairPost u w) := by
  obtain ⟨k1, k2, k3, k4⟩ := knotE_zero hK
  subst hu
  exact (netShiftG A c l w hl h.1 h.2.1 dx dy hN hF hK (by omega) (by omega) (by omega) (by omega) h.2.2.2).mono fun e w' ⟨v, he, hrow, hb⟩ => by
    obtain ⟨a, c', rfl, hok⟩ := own_oks hrow
    exact ⟨a, c', he, hok, hb⟩
theorem netTurnS (A : Option Addr) (c : Nat) (t r : Int) (l u : List Bar) (q : Nat) (w : World) (hu : turnN q l = u) (hl : l.length ≤ 4096) (hr : t.tmod 4 = r) (hq : (r + 4).tmod 4 = (q : Int)) (hN : Net l) (h : OKS w A c l) :
    Calls Tryz.prog 65 #[.slice A l.length c, .int .i64 t] w (PairPost u w) :=
  (netTurn A c t l w hl h.1 h.2.1 h.2.2.1 hN h.2.2.2).mono fun e w' ⟨v, he, hrow, hb⟩ => by
    rw [hr, hq, Int.toNat_natCast, hu] at hrow
    obtain ⟨a, c', rfl, hok⟩ := own_oks hrow
    exact ⟨a, c', he, hok, hb⟩
set_option maxHeartbeats 8000000 in
set_option maxRecDepth 100000 in
theorem lawMotL (A : Option Addr) (c : Nat) (l : List Bar) (dx dy t : Int) (w : World) (hL : LaidLen w)
    (hS : ∀ W : World, Calls Tryz.prog 16 #[.slice A l.length c, .int .i64 40] W fun e w' => e = .returned (.bool false) ∧ W = w') :
    Calls Tryz.prog 9 #[.slice A l.length c, .agg #[.int .i64 dx, .int .i64 dy], .int .i64 t] w fun e w' => e = .returned (.bool true) ∧ Below w.heap.size w w' := by
  have ex0 : ∀ (a b : Value) (w : World), (Instr.extract (.tuple #[a, b]) 0).run Tryz.prog w = .ok a w := fun _ _ _ => by kernel_rfl
  have ex1 : ∀ (a b : Value) (w : World), (Instr.extract (.tuple #[a, b]) 1).run Tryz.prog w = .ok b w := fun _ _ _ => by kernel_rfl
  obtain ⟨w1, hw1, z0, z1, hb1, hz1⟩ := box2 w (.int .i64 dx) (.int .i64 dy) 26
  have Q : ∀ {W : World}, Below w1.heap.size w1 W → W.cell? ⟨w.heap.size, 0, none⟩ = some (.int .i64 dx) ∧ W.cell? ⟨w.heap.size, 1, none⟩ = some (.int .i64 dy) := fun hb => ⟨(hb.cell (p := ⟨w.heap.size, 0, none⟩) hz1).trans z0, (hb.cell (p := ⟨w.heap.size, 1, none⟩) hz1).trans z1⟩
  have HW1 := Lib.hid hw1
  have HLL := Lib.hid hL
  have HS := Lib.hid hS
  have fin : ∀ {W : World}, Below w1.heap.size w1 W → Below w.heap.size w W := fun hb => hb1.trans (hb.mono hb1.size)
  have BW := Below.refl w1.heap.size w1
  clear hw1 hL hS z0 z1
  go_enter Tryz.func9, Tryz.ntmps9
  go_wp2_with fail
  rw [← HW1.out]
  go_wp2_with fail
  refine (awake1 _ (HLL.out.below (fin BW) HLL.out.lt)).mono ?_
  rintro e w11 ⟨rfl, hb11⟩
  replace BW := hbT BW hb11
  clear hb11
  go_wp2_with fail
  refine (HS.out _).mono ?_
  rintro e w12 ⟨rfl, rfl⟩
  go_wp2_with fail
  refine (awake1 _ (HLL.out.below (fin BW) HLL.out.lt)).mono ?_
  rintro e w13 ⟨rfl, hb13⟩
  replace BW := hbT BW hb13
  clear hb13
  go_wp2
  go_ret
  exact ⟨rfl, fin BW⟩
set_option maxHeartbeats 8000000 in
set_option maxRecDepth 100000 in
theorem lawMotB (A : Option Addr) (c : Nat) (l : List Bar) (dx dy t : Int) (w : World) (hL : LaidLen w) (hO : OKS w A c l)
    (hS : ∀ W : World, Calls Tryz.prog 16 #[.slice A l.length c, .int .i64 40] W fun e w' => e = .returned (.bool true) ∧ W = w') (hl : l.length ≤ 4098) (E : Int) (hE : netE l = E) (hne : E ≠ 0)
    (hE1 : firstE [E, knotE dx dy] = E) :
    Calls Tryz.prog 9 #[.slice A l.length c, .agg #[.int .i64 dx, .int .i64 dy], .int .i64 t] w fun e w' => e = .returned (.bool true) ∧ Below w.heap.size w w' := by
  have ex0 : ∀ (a b : Value) (w : World), (Instr.extract (.tuple #[a, b]) 0).run Tryz.prog w = .ok a w := fun _ _ _ => by kernel_rfl
  have ex1 : ∀ (a b : Value) (w : World), (Instr.extract (.tuple #[a, b]) 1).run Tryz.prog w = .ok b w := fun _ _ _ => by kernel_rfl
  obtain ⟨w1, hw1, z0, z1, hb1, hz1⟩ := box2 w (.int .i64 dx) (.int .i64 dy) 26
  have Q : ∀ {W : World}, Below w1.heap.size w1 W → W.cell? ⟨w.heap.size, 0, none⟩ = some (.int .i64 dx) ∧ W.cell? ⟨w.heap.size, 1, none⟩ = some (.int .i64 dy) := fun hb => ⟨(hb.cell (p := ⟨w.heap.size, 0, none⟩) hz1).trans z0, (hb.cell (p := ⟨w.heap.size, 1, none⟩) hz1).trans z1⟩
  have HW1 := Lib.hid hw1
  have HLL := Lib.hid hL
  have HS := Lib.hid hS
  have fin : ∀ {W : World}, Below w1.heap.size w1 W → Below w.heap.size w W := fun hb => hb1.trans (hb.mono hb1.size)
  have BW := Below.refl w1.heap.size w1
  have HO := Lib.hid hO
  have HE := Lib.hid hE
  have HNE := Lib.hid hne
  have HE1 := Lib.hid hE1
  have hn0 : (E != 0) = true := by rw [bne_iff_ne]; exact hne
  clear hO hE hne hE1
  clear hw1 hL hS z0 z1
  go_enter Tryz.func9, Tryz.ntmps9
  go_wp2_with fail
  rw [← HW1.out]
  go_wp2_with fail
  refine (awake1 _ (HLL.out.below (fin BW) HLL.out.lt)).mono ?_
  rintro e w11 ⟨rfl, hb11⟩
  replace BW := hbT BW hb11
  clear hb11
  go_wp2_with fail
  refine (HS.out _).mono ?_
  rintro e w12 ⟨rfl, rfl⟩
  go_wp2_with fail
  refine wp_region_held_drew (S := (fun w' => Below w1.heap.size w1 w')) (by kernel_rfl) ?_ (fun hHeld => ?_)
  · exact below_drew BW
  refine wpAnyH_take (i := 0) (oi := _) (v := ?va0) rfl (by kernel_rfl) (by kernel_rfl) (by kernel_rfl) (fun _ _ _ h => h) (Or.inl ⟨by rfl, ?hya0⟩) (by assumption) ?resta0
  case hya0 => (intro w hSw; (try dsimp only at hSw); go_simp; first | done | rfl)
  try simp only [List.getElem_toArray, List.getElem_cons_succ, List.getElem_cons_zero, Act.put, List.setIfInBounds_toArray, List.set_cons_zero, List.set_cons_succ]
  refine wpAnyH_take (i := 2) (oi := _) (v := ?va2) rfl (by kernel_rfl) (by kernel_rfl) (by kernel_rfl) (fun _ _ _ h => h) (Or.inl ⟨by rfl, ?hya2⟩) (by assumption) ?resta2
  case hya2 => (intro w hSw; (try dsimp only at hSw); obtain ⟨s0, s1⟩ := Q hSw; go_simp; first | done | rfl)
  try simp only [List.getElem_toArray, List.getElem_cons_succ, List.getElem_cons_zero, Act.put, List.setIfInBounds_toArray, List.set_cons_zero, List.set_cons_succ]
  refine wpAnyH_ready (rs := [1]) (by kernel_rfl) (by simp) ?_
  refine AllReadyH.cons (o := _) rfl (fun K hK => ?_) AllReadyH.nil
  simp only [List.getElem_toArray, List.getElem_cons_succ, List.getElem_cons_zero]
  go_simp
  go_at_call 21
  refine (lwCopied A c l _ (by omega) (HO.out.below (fin (by assumption)))).mono ?_
  rintro e w' ⟨a3, c3, rfl, o3, hbq⟩
  refine hK.out _ _ (hbT (by assumption) hbq) (fun hHeld => ?_)
  clear hK K
  try simp only [List.getElem_toArray, List.getElem_cons_succ, List.getElem_cons_zero, Act.put, List.setIfInBounds_toArray, List.set_cons_zero, List.set_cons_succ]
  refine wpAnyH_ready (rs := [3]) (by kernel_rfl) (by simp) ?_
  refine AllReadyH.cons (o := _) rfl (fun K hK => ?_) AllReadyH.nil
  simp only [List.getElem_toArray, List.getElem_cons_succ, List.getElem_cons_zero]
  go_simp
  go_at_call 63
  refine (netShiftBad a3 c3 l dx dy E _ E _ o3 HE.out rfl HE1.out HNE.out).mono ?_
  rintro e w' ⟨rfl, hbq⟩
  refine hK.out _ _ (hbT (by assumption) hbq) (fun hHeld => ?_)
  clear hK K
  try simp only [List.getElem_toArray, List.getElem_cons_succ, List.getElem_cons_zero, Act.put, List.setIfInBounds_toArray, List.set_cons_zero, List.set_cons_succ]
  refine wpAnyH_take (i := 4) (oi := _) (v := ?va4) rfl (by kernel_rfl) (by kernel_rfl) (by kernel_rfl) (fun _ _ _ h => h) (Or.inl ⟨by rfl, ?hya4⟩) (by assumption) ?resta4
  case hya4 => (intro w hSw; (try dsimp only at hSw); go_simp; first | done | rfl)
  try simp only [List.getElem_toArray, List.getElem_cons_succ, List.getElem_cons_zero, Act.put, List.setIfInBounds_toArray, List.set_cons_zero, List.set_cons_succ]
  refine wpAnyH_take (i := 5) (oi := _) (v := ?va5) rfl (by kernel_rfl) (by kernel_rfl) (by kernel_rfl) (fun _ _ _ h => h) (Or.inl ⟨by rfl, ?hya5⟩) (by assumption) ?resta5
  case hya5 => (intro w hSw; (try dsimp only at hSw); go_simp; first | done | rfl)
  try simp only [List.getElem_toArray, List.getElem_cons_succ, List.getElem_cons_zero, Act.put, List.setIfInBounds_toArray, List.set_cons_zero, List.set_cons_succ]
  refine wpAnyH_take (i := 6) (oi := _) (v := ?va6) rfl (by kernel_rfl) (by kernel_rfl) (by kernel_rfl) (fun _ _ _ h => h) (Or.inl ⟨by rfl, ?hya6⟩) (by assumption) ?resta6
  case hya6 => (intro w hSw; (try dsimp only at hSw); go_simp; first | done | rfl)
  try simp only [List.getElem_toArray, List.getElem_cons_succ, List.getElem_cons_zero, Act.put, List.setIfInBounds_toArray, List.set_cons_zero, List.set_cons_succ]
  refine wpAnyH_take (i := 7) (oi := _) (v := ?va7) rfl (by kernel_rfl) (by kernel_rfl) (by kernel_rfl) (fun _ _ _ h => h) (Or.inl ⟨by rfl, ?hya7⟩) (by assumption) ?resta7
  case hya7 => (intro w hSw; (try dsimp only at hSw); go_simp; first | done | rfl)
  try simp only [List.getElem_toArray, List.getElem_cons_succ, List.getElem_cons_zero, Act.put, List.setIfInBounds_toArray, List.set_cons_zero, List.set_cons_succ]
  refine wpAnyH_take (i := 8) (oi := _) (v := ?va8) rfl (by kernel_rfl) (by kernel_rfl) (by kernel_rfl) (fun _ _ _ h => h) (Or.inl ⟨by rfl, ?hya8⟩) (by assumption) ?resta8
  case hya8 => (intro w hSw; (try dsimp only at hSw); go_simp; first | done | rfl)
  try simp only [List.getElem_toArray, List.getElem_cons_succ, List.getElem_cons_zero, Act.put, List.setIfInBounds_toArray, List.set_cons_zero, List.set_cons_succ]
  refine wpAnyH_done (by kernel_rfl) ?_ _
  replace BW := hHeld
  clear o3
  go_wp2_with fail
  refine (lwCopied A c l _ (by omega) (HO.out.below (fin BW))).mono ?_
  rintro e w13 ⟨a13, c13, rfl, o13, hb13⟩
  replace BW := hbT BW hb13
  have O13 := Lib.hid o13
  clear o13 hb13
  go_wp2_with fail
  refine (netMirrorBad a13 c13 l E _ O13.out HE.out HNE.out).mono ?_
  rintro e w14 ⟨rfl, hb14⟩
  replace BW := hbT BW hb14
  replace O13 := Lib.hid (O13.out.below hb14)
  clear hb14
  clear O13
  go_wp2_with fail
  refine (lwCopied A c l _ (by omega) (HO.out.below (fin BW))).mono ?_
  rintro e w15 ⟨a15, c15, rfl, o15, hb15⟩
  replace BW := hbT BW hb15
  have O15 := Lib.hid o15
  clear o15 hb15
  go_wp2_with fail
  refine (netTurnBad a15 c15 l t E _ O15.out HE.out HNE.out).mono ?_
  rintro e w16 ⟨rfl, hb16⟩
  replace BW := hbT BW hb16
  replace O15 := Lib.hid (O15.out.below hb16)
  clear hb16
  clear O15
  go_wp2_with fail
  refine (refCheckNetA A c l _ (HO.out.below (fin BW))).mono ?_
  rintro e w17 ⟨rfl, hb17⟩
  rw [HE.out]
  replace BW := hbT BW hb17
  clear hb17
  go_wp2_with fail
  refine (lwNetBad E _ HNE.out).mono ?_
  rintro e w18 ⟨rfl, hb18⟩
  replace BW := hbT BW hb18
  clear hb18
  go_wp2_with fail
  refine (lwNetBad E _ HNE.out).mono ?_
  rintro e w19 ⟨rfl, hb19⟩
  replace BW := hbT BW hb19
  clear hb19
  go_wp2_with fail
  refine (lwNetBad E _ HNE.out).mono ?_
  rintro e w20 ⟨rfl, hb20⟩
  replace BW := hbT BW hb20
  clear hb20
  go_wp2
  go_ret
  exact ⟨rfl, fin BW⟩
set_option maxHeartbeats 8000000 in
set_option maxRecDepth 100000 in
theorem lawMotK (A : Option Addr) (c : Nat) (l : List Bar) (dx dy t : Int) (w : World) (hL : LaidLen w) (hO : OKS w A c l)
    (hS : ∀ W : World, Calls Tryz.prog 16 #[.slice A l.length c, .int .i64 40] W fun e w' => e = .returned (.bool true) ∧ W = w') (hl : l.length ≤ 40) (hN : Net l) (M T : List Bar) (r : Int) (q : Nat) (hM1 : sortBars (l.map mirB) = M) (hM2 : srtL (l.map mirB) = M) (hT : turnN q l = T) (hr : t.tmod 4 = r) (hq : (r + 4).tmod 4 = (q : Int)) (hr1 : -4 < r) (hr2 : r < 4) (hq3 : q ≤ 3) (KE : Int) (hK : knotE dx dy = KE) (hKn : KE ≠ 0) (hF : firstE [0, KE] = KE) :
    Calls Tryz.prog 9 #[.slice A l.length c, .agg #[.int .i64 dx, .int .i64 dy], .int .i64 t] w fun e w' => e = .returned (.bool true) ∧ Below w.heap.size w w' := by
  have ex0 : ∀ (a b : Value) (w : World), (Instr.extract (.tuple #[a, b]) 0).run Tryz.prog w = .ok a w := fun _ _ _ => by kernel_rfl
  have ex1 : ∀ (a b : Value) (w : World), (Instr.extract (.tuple #[a, b]) 1).run Tryz.prog w = .ok b w := fun _ _ _ => by kernel_rfl
  obtain ⟨w1, hw1, z0, z1, hb1, hz1⟩ := box2 w (.int .i64 dx) (.int .i64 dy) 26
  have Q : ∀ {W : World}, Below w1.heap.size w1 W → W.cell? ⟨w.heap.size, 0, none⟩ = some (.int .i64 dx) ∧ W.cell? ⟨w.heap.size, 1, none⟩ = some (.int .i64 dy) := fun hb => ⟨(hb.cell (p := ⟨w.heap.size, 0, none⟩) hz1).trans z0, (hb.cell (p := ⟨w.heap.size, 1, none⟩) hz1).trans z1⟩
  have HW1 := Lib.hid hw1
  have HLL := Lib.hid hL
  have HS := Lib.hid hS
  have fin : ∀ {W : World}, Below w1.heap.size w1 W → Below w.heap.size w W := fun hb => hb1.trans (hb.mono hb1.size)
  have BW := Below.refl w1.heap.size w1
  have HO := Lib.hid hO
  have HN := Lib.hid hN
  have HM1 := Lib.hid hM1
  have HM2 := Lib.hid hM2
  have HT := Lib.hid hT
  have HZ := Lib.hid ((netE_zero l).2 ⟨by omega, hN⟩)
  have HML := Lib.hid (show M.length ≤ 4096 by rw [← hM1, (sortBars_perm _).length_eq, List.length_map]; omega)
  have HTL := Lib.hid (show T.length ≤ 4096 by rw [← hT, turnN_length]; omega)
  have w1' : IntKind.i64.wrap r = r := by rw [IntKind.wrap_i64]; omega
  have w2' : IntKind.i64.wrap (r + 4) = r + 4 := by rw [IntKind.wrap_i64]; omega
  have w3' : IntKind.i64.wrap (q : Int) = (q : Int) := by rw [IntKind.wrap_i64]; omega
  have hqi : (q : Int) ≤ 3 := by omega
  clear hO hN hM1 hM2 hT
  have HK := Lib.hid hK
  have HKN := Lib.hid hKn
  have HF := Lib.hid hF
  have k2 : (KE == 0) = false := by rw [beq_eq_false_iff_ne]; exact hKn
  clear hK hKn hF
  clear hw1 hL hS z0 z1
  go_enter Tryz.func9, Tryz.ntmps9
  go_wp2_with fail
  rw [← HW1.out]
  go_wp2_with fail
  refine (awake1 _ (HLL.out.below (fin BW) HLL.out.lt)).mono ?_
  rintro e w11 ⟨rfl, hb11⟩
  replace BW := hbT BW hb11
  clear hb11
  go_wp2_with fail
  refine (HS.out _).mono ?_
  rintro e w12 ⟨rfl, rfl⟩
  go_wp2_with fail
  refine wp_region_held_drew (S := (fun w' => Below w1.heap.size w1 w')) (by kernel_rfl) ?_ (fun hHeld => ?_)
  · exact below_drew BW
  refine wpAnyH_take (i := 0) (oi := _) (v := ?va0) rfl (by kernel_rfl) (by kernel_rfl) (by kernel_rfl) (fun _ _ _ h => h) (Or.inl ⟨by rfl, ?hya0⟩) (by assumption) ?resta0
  case hya0 => (intro w hSw; (try dsimp only at hSw); go_simp; first | done | rfl)
  try simp only [List.getElem_toArray, List.getElem_cons_succ, List.getElem_cons_zero, Act.put, List.setIfInBounds_toArray, List.set_cons_zero, List.set_cons_succ]
  refine wpAnyH_take (i := 2) (oi := _) (v := ?va2) rfl (by kernel_rfl) (by kernel_rfl) (by kernel_rfl) (fun _ _ _ h => h) (Or.inl ⟨by rfl, ?hya2⟩) (by assumption) ?resta2
  case hya2 => (intro w hSw; (try dsimp only at hSw); obtain ⟨s0, s1⟩ := Q hSw; go_simp; first | done | rfl)
  try simp only [List.getElem_toArray, List.getElem_cons_succ, List.getElem_cons_zero, Act.put, List.setIfInBounds_toArray, List.set_cons_zero, List.set_cons_succ]
  refine wpAnyH_ready (rs := [1]) (by kernel_rfl) (by simp) ?_
  refine AllReadyH.cons (o := _) rfl (fun K hK => ?_) AllReadyH.nil
  simp only [List.getElem_toArray, List.getElem_cons_succ, List.getElem_cons_zero]
  go_simp
  go_at_call 21
  refine (lwCopied A c l _ (by omega) (HO.out.below (fin (by assumption)))).mono ?_
  rintro e w' ⟨a3, c3, rfl, o3, hbq⟩
  refine hK.out _ _ (hbT (by assumption) hbq) (fun hHeld => ?_)
  clear hK K
  try simp only [List.getElem_toArray, List.getElem_cons_succ, List.getElem_cons_zero, Act.put, List.setIfInBounds_toArray, List.set_cons_zero, List.set_cons_succ]
  refine wpAnyH_ready (rs := [3]) (by kernel_rfl) (by simp) ?_
  refine AllReadyH.cons (o := _) rfl (fun K hK => ?_) AllReadyH.nil
  simp only [List.getElem_toArray, List.getElem_cons_succ, List.getElem_cons_zero]
  go_simp
  go_at_call 63
  refine (netShiftBad a3 c3 l dx dy 0 KE KE _ o3 HZ.out HK.out HF.out HKN.out).mono ?_
  rintro e w' ⟨rfl, hbq⟩
  refine hK.out _ _ (hbT (by assumption) hbq) (fun hHeld => ?_)
  clear hK K
  try simp only [List.getElem_toArray, List.getElem_cons_succ, List.getElem_cons_zero, Act.put, List.setIfInBounds_toArray, List.set_cons_zero, List.set_cons_succ]
  refine wpAnyH_take (i := 4) (oi := _) (v := ?va4) rfl (by kernel_rfl) (by kernel_rfl) (by kernel_rfl) (fun _ _ _ h => h) (Or.inl ⟨by rfl, ?hya4⟩) (by assumption) ?resta4
  case hya4 => (intro w hSw; (try dsimp only at hSw); go_simp; first | done | rfl)
  try simp only [List.getElem_toArray, List.getElem_cons_succ, List.getElem_cons_zero, Act.put, List.setIfInBounds_toArray, List.set_cons_zero, List.set_cons_succ]
  refine wpAnyH_take (i := 5) (oi := _) (v := ?va5) rfl (by kernel_rfl) (by kernel_rfl) (by kernel_rfl) (fun _ _ _ h => h) (Or.inl ⟨by rfl, ?hya5⟩) (by assumption) ?resta5
  case hya5 => (intro w hSw; (try dsimp only at hSw); go_simp; first | done | rfl)
  try simp only [List.getElem_toArray, List.getElem_cons_succ, List.getElem_cons_zero, Act.put, List.setIfInBounds_toArray, List.set_cons_zero, List.set_cons_succ]
  refine wpAnyH_take (i := 6) (oi := _) (v := ?va6) rfl (by kernel_rfl) (by kernel_rfl) (by kernel_rfl) (fun _ _ _ h => h) (Or.inl ⟨by rfl, ?hya6⟩) (by assumption) ?resta6
  case hya6 => (intro w hSw; (try dsimp only at hSw); go_simp; first | done | rfl)
  try simp only [List.getElem_toArray, List.getElem_cons_succ, List.getElem_cons_zero, Act.put, List.setIfInBounds_toArray, List.set_cons_zero, List.set_cons_succ]
  refine wpAnyH_take (i := 7) (oi := _) (v := ?va7) rfl (by kernel_rfl) (by kernel_rfl) (by kernel_rfl) (fun _ _ _ h => h) (Or.inl ⟨by rfl, ?hya7⟩) (by assumption) ?resta7
  case hya7 => (intro w hSw; (try dsimp only at hSw); go_simp; first | done | rfl)
  try simp only [List.getElem_toArray, List.getElem_cons_succ, List.getElem_cons_zero, Act.put, List.setIfInBounds_toArray, List.set_cons_zero, List.set_cons_succ]
  refine wpAnyH_take (i := 8) (oi := _) (v := ?va8) rfl (by kernel_rfl) (by kernel_rfl) (by kernel_rfl) (fun _ _ _ h => h) (Or.inl ⟨by rfl, ?hya8⟩) (by assumption) ?resta8
  case hya8 => (intro w hSw; (try dsimp only at hSw); go_simp; first | done | rfl)
  try simp only [List.getElem_toArray, List.getElem_cons_succ, List.getElem_cons_zero, Act.put, List.setIfInBounds_toArray, List.set_cons_zero, List.set_cons_succ]
  refine wpAnyH_done (by kernel_rfl) ?_ _
  replace BW := hHeld
  clear o3
  go_wp2_with fail
  refine (lwCopied A c l _ (by omega) (HO.out.below (fin BW))).mono ?_
  rintro e w13 ⟨a13, c13, rfl, o13, hb13⟩
  replace BW := hbT BW hb13
  have O13 := Lib.hid o13
  clear o13 hb13
  go_wp2_with fail
  refine (netMirrorG a13 c13 l M _ HM1.out (by omega) HN.out O13.out).mono ?_
  rintro e w14 ⟨a14, c14, rfl, o14, hb14⟩
  replace BW := hbT BW hb14
  replace O13 := Lib.hid (O13.out.below hb14)
  have O14 := Lib.hid o14
  clear o14 hb14
  clear O13
  go_wp2_with fail
  refine (lwCopied A c l _ (by omega) (HO.out.below (fin BW))).mono ?_
  rintro e w15 ⟨a15, c15, rfl, o15, hb15⟩
  replace BW := hbT BW hb15
  replace O14 := Lib.hid (O14.out.below hb15)
  have O15 := Lib.hid o15
  clear o15 hb15
  go_wp2_with fail
  refine (netTurnS a15 c15 t r l T q _ HT.out (by omega) hr hq HN.out O15.out).mono ?_
  rintro e w16 ⟨a16, c16, rfl, o16, hb16⟩
  replace BW := hbT BW hb16
  replace O14 := Lib.hid (O14.out.below hb16)
  replace O15 := Lib.hid (O15.out.below hb16)
  have O16 := Lib.hid o16
  clear o16 hb16
  clear O15
  go_wp2_with fail
  refine (refCheckNetA A c l _ (HO.out.below (fin BW))).mono ?_
  rintro e w17 ⟨rfl, hb17⟩
  rw [HZ.out]
  replace BW := hbT BW hb17
  replace O14 := Lib.hid (O14.out.below hb17)
  replace O16 := Lib.hid (O16.out.below hb17)
  clear hb17
  have qs := Q BW
  obtain ⟨s0, s1⟩ := qs
  go_wp2_with fail
  refine (refCheckKnot dx dy _).mono ?_
  rintro e w18 ⟨rfl, hb18⟩
  rw [HK.out]
  replace BW := hbT BW hb18
  replace O14 := Lib.hid (O14.out.below hb18)
  replace O16 := Lib.hid (O16.out.below hb18)
  clear hb18
  clear s0 s1
  go_wp2_with fail
  have HOl := Lib.hid (HO.out.below (fin BW))
  go_loopw [17, 84] (fun v i wr => ∃ n : Nat, n ≤ q ∧ i = .int .i64 n ∧ Hid (∃ a c', v = .slice a (turnN n l).length c' ∧ OKS wr a c' (turnN n l)) ∧ Below w18.heap.size w18 wr) (fun _ i _ => q - (intOf i).toNat)
  case atStart => exact ⟨0, Nat.zero_le _, rfl, Lib.hid ⟨A, c, rfl, HOl.out⟩, Below.refl _ _⟩
  case round =>
    obtain ⟨n, hn, rfl, hv, hb⟩ := hrel
    by_cases hlt : n < q
    · have hni : (n : Int) < (q : Int) := by omega
      have hni0 : (0 : Int) ≤ (n : Int) := by omega
      obtain ⟨a, cc, rfl, ok⟩ := hv.out
      have OKX := Lib.hid ok
      have HTS := Lib.hid (turn_srt HN.out n)
      have HTO := Lib.hid (turnN_ok HN.out.1 n)
      have HTN := Lib.hid (turnN_length l n)
      clear ok hv
      generalize hT1 : turnN (n + 1) l = T1 at HTS
      have HT1 := Lib.hid hT1
      clear hT1
      generalize hT0 : turnN n l = T0 at *
      clear hT0
      go_wp2_with fail
      refine (refTurned a cc T0 T1 _ HTS.out (by rw [HTN.out]; omega) HTO.out OKX.out).mono ?_
      rintro e w20 ⟨a20, c20, rfl, o20, hb20⟩
      have O20 := Lib.hid o20
      have hbn := hbT hb hb20
      clear o20 hb20
      go_wp2
      go_roundw
      case rel => exact ⟨n + 1, by omega, by go_num, Lib.hid ⟨a20, c20, by rw [HT1.out], by rw [HT1.out]; exact O20.out⟩, hbn⟩
      case measure => simp [intOf]; omega
    · obtain rfl : n = q := by omega
      obtain ⟨at_, ct, rfl, ok⟩ := hv.out
      rw [HT.out] at ok
      have OT := Lib.hid ok
      rw [HT.out]
      replace BW := hbT BW hb
      replace O14 := Lib.hid (O14.out.below hb)
      replace O16 := Lib.hid (O16.out.below hb)
      clear ok hv hb
      go_wp2_with fail
      refine (lwNetBad KE _ HKN.out).mono ?_
      rintro e w41 ⟨rfl, hb41⟩
      replace BW := hbT BW hb41
      replace O14 := Lib.hid (O14.out.below hb41)
      replace O16 := Lib.hid (O16.out.below hb41)
      replace OT := Lib.hid (OT.out.below hb41)
      clear hb41
      go_wp2_with fail
      refine (refMirror A c l M _ HM2.out (by omega) HN.out.1 (HO.out.below (fin BW))).mono ?_
      rintro e w42 ⟨a42, c42, rfl, o42, hb42⟩
      replace BW := hbT BW hb42
      replace O14 := Lib.hid (O14.out.below hb42)
      replace O16 := Lib.hid (O16.out.below hb42)
      replace OT := Lib.hid (OT.out.below hb42)
      have O42 := Lib.hid o42
      clear o42 hb42
      go_wp2_with fail
      refine (lwNetOk a14 a42 c14 c42 M _ HML.out O14.out O42.out).mono ?_
      rintro e w43 ⟨rfl, hb43⟩
      replace BW := hbT BW hb43
      replace O14 := Lib.hid (O14.out.below hb43)
      replace O16 := Lib.hid (O16.out.below hb43)
      replace OT := Lib.hid (OT.out.below hb43)
      replace O42 := Lib.hid (O42.out.below hb43)
      clear hb43
      go_wp2_with fail
      refine (lwNetOk a16 at_ c16 ct T _ HTL.out O16.out OT.out).mono ?_
      rintro e w44 ⟨rfl, hb44⟩
      replace BW := hbT BW hb44
      replace O14 := Lib.hid (O14.out.below hb44)
      replace O16 := Lib.hid (O16.out.below hb44)
      replace OT := Lib.hid (OT.out.below hb44)
      replace O42 := Lib.hid (O42.out.below hb44)
      clear hb44
      go_wp2
      go_ret
      exact ⟨rfl, fin BW⟩
set_option maxHeartbeats 8000000 in
set_option maxRecDepth 100000 in
theorem lawMotI (A : Option Addr) (c : Nat) (l : List Bar) (dx dy t : Int) (w : World) (hL : LaidLen w) (hO : OKS w A c l)
    (hS : ∀ W : World, Calls Tryz.prog 16 #[.slice A l.length c, .int .i64 40] W fun e w' => e = .returned (.bool true) ∧ W = w') (hl : l.length ≤ 40) (hN : Net l) (M T : List Bar) (r : Int) (q : Nat) (hM1 : sortBars (l.map mirB) = M) (hM2 : srtL (l.map mirB) = M) (hT : turnN q l = T) (hr : t.tmod 4 = r) (hq : (r + 4).tmod 4 = (q : Int)) (hr1 : -4 < r) (hr2 : r < 4) (hq3 : q ≤ 3) (hK : knotE dx dy = 0) (U : List Bar) (hU : l.map (Bar.shift dx dy) = U) (hA : l.all (inB dx dy) = true) (hUN : Net U) :
    Calls Tryz.prog 9 #[.slice A l.length c, .agg #[.int .i64 dx, .int .i64 dy], .int .i64 t] w fun e w' => e = .returned (.bool true) ∧ Below w.heap.size w w' := by
  have ex0 : ∀ (a b : Value) (w : World), (Instr.extract (.tuple #[a, b]) 0).run Tryz.prog w = .ok a w := fun _ _ _ => by kernel_rfl
  have ex1 : ∀ (a b : Value) (w : World), (Instr.extract (.tuple #[a, b]) 1).run Tryz.prog w = .ok b w := fun _ _ _ => by kernel_rfl
  obtain ⟨w1, hw1, z0, z1, hb1, hz1⟩ := box2 w (.int .i64 dx) (.int .i64 dy) 26
  have Q : ∀ {W : World}, Below w1.heap.size w1 W → W.cell? ⟨w.heap.size, 0, none⟩ = some (.int .i64 dx) ∧ W.cell? ⟨w.heap.size, 1, none⟩ = some (.int .i64 dy) := fun hb => ⟨(hb.cell (p := ⟨w.heap.size, 0, none⟩) hz1).trans z0, (hb.cell (p := ⟨w.heap.size, 1, none⟩) hz1).trans z1⟩
  have HW1 := Lib.hid hw1
  have HLL := Lib.hid hL
  have HS := Lib.hid hS
  have fin : ∀ {W : World}, Below w1.heap.size w1 W → Below w.heap.size w W := fun hb => hb1.trans (hb.mono hb1.size)
  have BW := Below.refl w1.heap.size w1
  have HO := Lib.hid hO
  have HN := Lib.hid hN
  have HM1 := Lib.hid hM1
  have HM2 := Lib.hid hM2
  have HT := Lib.hid hT
  have HZ := Lib.hid ((netE_zero l).2 ⟨by omega, hN⟩)
  have HML := Lib.hid (show M.length ≤ 4096 by rw [← hM1, (sortBars_perm _).length_eq, List.length_map]; omega)
  have HTL := Lib.hid (show T.length ≤ 4096 by rw [← hT, turnN_length]; omega)
  have w1' : IntKind.i64.wrap r = r := by rw [IntKind.wrap_i64]; omega
  have w2' : IntKind.i64.wrap (r + 4) = r + 4 := by rw [IntKind.wrap_i64]; omega
  have w3' : IntKind.i64.wrap (q : Int) = (q : Int) := by rw [IntKind.wrap_i64]; omega
  have hqi : (q : Int) ≤ 3 := by omega
  clear hO hN hM1 hM2 hT
  have HK := Lib.hid hK
  have HU := Lib.hid hU
  have HA := Lib.hid hA
  have HUL := Lib.hid (show U.length ≤ 4096 by rw [← hU, List.length_map]; omega)
  clear hK hU hA
  have HUN := Lib.hid hUN
  clear hUN
  clear hw1 hL hS z0 z1
  go_enter Tryz.func9, Tryz.ntmps9
  go_wp2_with fail
  rw [← HW1.out]
  go_wp2_with fail
  refine (awake1 _ (HLL.out.below (fin BW) HLL.out.lt)).mono ?_
  rintro e w11 ⟨rfl, hb11⟩
  replace BW := hbT BW hb11
  clear hb11
  go_wp2_with fail
  refine (HS.out _).mono ?_
  rintro e w12 ⟨rfl, rfl⟩
  go_wp2_with fail
  refine wp_region_held_drew (S := (fun w' => Below w1.heap.size w1 w')) (by kernel_rfl) ?_ (fun hHeld => ?_)
  · exact below_drew BW
  refine wpAnyH_take (i := 0) (oi := _) (v := ?va0) rfl (by kernel_rfl) (by kernel_rfl) (by kernel_rfl) (fun _ _ _ h => h) (Or.inl ⟨by rfl, ?hya0⟩) (by assumption) ?resta0
  case hya0 => (intro w hSw; (try dsimp only at hSw); go_simp; first | done | rfl)
  try simp only [List.getElem_toArray, List.getElem_cons_succ, List.getElem_cons_zero, Act.put, List.setIfInBounds_toArray, List.set_cons_zero, List.set_cons_succ]
  refine wpAnyH_take (i := 2) (oi := _) (v := ?va2) rfl (by kernel_rfl) (by kernel_rfl) (by kernel_rfl) (fun _ _ _ h => h) (Or.inl ⟨by rfl, ?hya2⟩) (by assumption) ?resta2
  case hya2 => (intro w hSw; (try dsimp only at hSw); obtain ⟨s0, s1⟩ := Q hSw; go_simp; first | done | rfl)
  try simp only [List.getElem_toArray, List.getElem_cons_succ, List.getElem_cons_zero, Act.put, List.setIfInBounds_toArray, List.set_cons_zero, List.set_cons_succ]
  refine wpAnyH_ready (rs := [1]) (by kernel_rfl) (by simp) ?_
  refine AllReadyH.cons (o := _) rfl (fun K hK => ?_) AllReadyH.nil
  simp only [List.getElem_toArray, List.getElem_cons_succ, List.getElem_cons_zero]
  go_simp
  go_at_call 21
  refine (lwCopied A c l _ (by omega) (HO.out.below (fin (by assumption)))).mono ?_
  rintro e w' ⟨a3, c3, rfl, o3, hbq⟩
  refine hK.out _ _ (hbT (by assumption) hbq) (fun hHeld => ?_)
  clear hK K
  try simp only [List.getElem_toArray, List.getElem_cons_succ, List.getElem_cons_zero, Act.put, List.setIfInBounds_toArray, List.set_cons_zero, List.set_cons_succ]
  refine wpAnyH_ready (rs := [3]) (by kernel_rfl) (by simp) ?_
  refine AllReadyH.cons (o := _) rfl (fun K hK => ?_) AllReadyH.nil
  simp only [List.getElem_toArray, List.getElem_cons_succ, List.getElem_cons_zero]
  go_simp
  go_at_call 63
  refine (netShiftS a3 c3 l U dx dy _ HU.out (by omega) HN.out HUN.out HK.out o3).mono ?_
  rintro e w' ⟨a4, c4, rfl, o4, hbq⟩
  refine hK.out _ _ (hbT (by assumption) hbq) (fun hHeld => ?_)
  clear hK K
  try simp only [List.getElem_toArray, List.getElem_cons_succ, List.getElem_cons_zero, Act.put, List.setIfInBounds_toArray, List.set_cons_zero, List.set_cons_succ]
  refine wpAnyH_take (i := 4) (oi := _) (v := ?va4) rfl (by kernel_rfl) (by kernel_rfl) (by kernel_rfl) (fun _ _ _ h => h) (Or.inl ⟨by rfl, ?hya4⟩) (by assumption) ?resta4
  case hya4 => (intro w hSw; (try dsimp only at hSw); go_simp; first | done | rfl)
  try simp only [List.getElem_toArray, List.getElem_cons_succ, List.getElem_cons_zero, Act.put, List.setIfInBounds_toArray, List.set_cons_zero, List.set_cons_succ]
  refine wpAnyH_take (i := 5) (oi := _) (v := ?va5) rfl (by kernel_rfl) (by kernel_rfl) (by kernel_rfl) (fun _ _ _ h => h) (Or.inl ⟨by rfl, ?hya5⟩) (by assumption) ?resta5
  case hya5 => (intro w hSw; (try dsimp only at hSw); go_simp; first | done | rfl)
  try simp only [List.getElem_toArray, List.getElem_cons_succ, List.getElem_cons_zero, Act.put, List.setIfInBounds_toArray, List.set_cons_zero, List.set_cons_succ]
  refine wpAnyH_take (i := 6) (oi := _) (v := ?va6) rfl (by kernel_rfl) (by kernel_rfl) (by kernel_rfl) (fun _ _ _ h => h) (Or.inl ⟨by rfl, ?hya6⟩) (by assumption) ?resta6
  case hya6 => (intro w hSw; (try dsimp only at hSw); go_simp; first | done | rfl)
  try simp only [List.getElem_toArray, List.getElem_cons_succ, List.getElem_cons_zero, Act.put, List.setIfInBounds_toArray, List.set_cons_zero, List.set_cons_succ]
  refine wpAnyH_take (i := 7) (oi := _) (v := ?va7) rfl (by kernel_rfl) (by kernel_rfl) (by kernel_rfl) (fun _ _ _ h => h) (Or.inl ⟨by rfl, ?hya7⟩) (by assumption) ?resta7
  case hya7 => (intro w hSw; (try dsimp only at hSw); go_simp; first | done | rfl)
  try simp only [List.getElem_toArray, List.getElem_cons_succ, List.getElem_cons_zero, Act.put, List.setIfInBounds_toArray, List.set_cons_zero, List.set_cons_succ]
  refine wpAnyH_take (i := 8) (oi := _) (v := ?va8) rfl (by kernel_rfl) (by kernel_rfl) (by kernel_rfl) (fun _ _ _ h => h) (Or.inl ⟨by rfl, ?hya8⟩) (by assumption) ?resta8
  case hya8 => (intro w hSw; (try dsimp only at hSw); go_simp; first | done | rfl)
  try simp only [List.getElem_toArray, List.getElem_cons_succ, List.getElem_cons_zero, Act.put, List.setIfInBounds_toArray, List.set_cons_zero, List.set_cons_succ]
  refine wpAnyH_done (by kernel_rfl) ?_ _
  replace BW := hHeld
  have OS := Lib.hid o4
  clear o3 o4
  go_wp2_with fail
  refine (lwCopied A c l _ (by omega) (HO.out.below (fin BW))).mono ?_
  rintro e w13 ⟨a13, c13, rfl, o13, hb13⟩
  replace BW := hbT BW hb13
  replace OS := Lib.hid (OS.out.below hb13)
  have O13 := Lib.hid o13
  clear o13 hb13
  go_wp2_with fail
  refine (netMirrorG a13 c13 l M _ HM1.out (by omega) HN.out O13.out).mono ?_
  rintro e w14 ⟨a14, c14, rfl, o14, hb14⟩
  replace BW := hbT BW hb14
  replace OS := Lib.hid (OS.out.below hb14)
  replace O13 := Lib.hid (O13.out.below hb14)
  have O14 := Lib.hid o14
  clear o14 hb14
  clear O13
  go_wp2_with fail
  refine (lwCopied A c l _ (by omega) (HO.out.below (fin BW))).mono ?_
  rintro e w15 ⟨a15, c15, rfl, o15, hb15⟩
  replace BW := hbT BW hb15
  replace OS := Lib.hid (OS.out.below hb15)
  replace O14 := Lib.hid (O14.out.below hb15)
  have O15 := Lib.hid o15
  clear o15 hb15
  go_wp2_with fail
  refine (netTurnS a15 c15 t r l T q _ HT.out (by omega) hr hq HN.out O15.out).mono ?_
  rintro e w16 ⟨a16, c16, rfl, o16, hb16⟩
  replace BW := hbT BW hb16
  replace OS := Lib.hid (OS.out.below hb16)
  replace O14 := Lib.hid (O14.out.below hb16)
  replace O15 := Lib.hid (O15.out.below hb16)
  have O16 := Lib.hid o16
  clear o16 hb16
  clear O15
  go_wp2_with fail
  refine (refCheckNetA A c l _ (HO.out.below (fin BW))).mono ?_
  rintro e w17 ⟨rfl, hb17⟩
  rw [HZ.out]
  replace BW := hbT BW hb17
  replace OS := Lib.hid (OS.out.below hb17)
  replace O14 := Lib.hid (O14.out.below hb17)
  replace O16 := Lib.hid (O16.out.below hb17)
  clear hb17
  have qs := Q BW
  obtain ⟨s0, s1⟩ := qs
  go_wp2_with fail
  refine (refCheckKnot dx dy _).mono ?_
  rintro e w18 ⟨rfl, hb18⟩
  rw [HK.out]
  replace BW := hbT BW hb18
  replace OS := Lib.hid (OS.out.below hb18)
  replace O14 := Lib.hid (O14.out.below hb18)
  replace O16 := Lib.hid (O16.out.below hb18)
  clear hb18
  clear s0 s1
  have qs := Q BW
  obtain ⟨s0, s1⟩ := qs
  go_wp2_with fail
  refine (refShifted A c l U dx dy true _ HU.out HA.out (by omega) HN.out.1 HK.out (HO.out.below (fin BW))).mono ?_
  rintro e w19 ⟨a19, c19, rfl, o19, hb19⟩
  replace BW := hbT BW hb19
  replace OS := Lib.hid (OS.out.below hb19)
  replace O14 := Lib.hid (O14.out.below hb19)
  replace O16 := Lib.hid (O16.out.below hb19)
  have O19 := Lib.hid o19
  clear o19 hb19
  clear s0 s1
  go_wp2_with fail
  refine (lwWhenF 3 _).mono ?_
  rintro e w20 ⟨rfl, rfl⟩
  go_wp2_with fail
  have HOl := Lib.hid (HO.out.below (fin BW))
  go_loopw [17, 84] (fun v i wr => ∃ n : Nat, n ≤ q ∧ i = .int .i64 n ∧ Hid (∃ a c', v = .slice a (turnN n l).length c' ∧ OKS wr a c' (turnN n l)) ∧ Below w19.heap.size w19 wr) (fun _ i _ => q - (intOf i).toNat)
  case atStart => exact ⟨0, Nat.zero_le _, rfl, Lib.hid ⟨A, c, rfl, HOl.out⟩, Below.refl _ _⟩
  case round =>
    obtain ⟨n, hn, rfl, hv, hb⟩ := hrel
    by_cases hlt : n < q
    · have hni : (n : Int) < (q : Int) := by omega
      have hni0 : (0 : Int) ≤ (n : Int) := by omega
      obtain ⟨a, cc, rfl, ok⟩ := hv.out
      have OKX := Lib.hid ok
      have HTS := Lib.hid (turn_srt HN.out n)
      have HTO := Lib.hid (turnN_ok HN.out.1 n)
      have HTN := Lib.hid (turnN_length l n)
      clear ok hv
      generalize hT1 : turnN (n + 1) l = T1 at HTS
      have HT1 := Lib.hid hT1
      clear hT1
      generalize hT0 : turnN n l = T0 at *
      clear hT0
      go_wp2_with fail
      refine (refTurned a cc T0 T1 _ HTS.out (by rw [HTN.out]; omega) HTO.out OKX.out).mono ?_
      rintro e w20 ⟨a20, c20, rfl, o20, hb20⟩
      have O20 := Lib.hid o20
      have hbn := hbT hb hb20
      clear o20 hb20
      go_wp2
      go_roundw
      case rel => exact ⟨n + 1, by omega, by go_num, Lib.hid ⟨a20, c20, by rw [HT1.out], by rw [HT1.out]; exact O20.out⟩, hbn⟩
      case measure => simp [intOf]; omega
    · obtain rfl : n = q := by omega
      obtain ⟨at_, ct, rfl, ok⟩ := hv.out
      rw [HT.out] at ok
      have OT := Lib.hid ok
      rw [HT.out]
      replace BW := hbT BW hb
      replace OS := Lib.hid (OS.out.below hb)
      replace O14 := Lib.hid (O14.out.below hb)
      replace O16 := Lib.hid (O16.out.below hb)
      replace O19 := Lib.hid (O19.out.below hb)
      clear ok hv hb
      go_wp2_with fail
      refine (lwNetOk a4 a19 c4 c19 U _ HUL.out OS.out O19.out).mono ?_
      rintro e w41 ⟨rfl, hb41⟩
      replace BW := hbT BW hb41
      replace OS := Lib.hid (OS.out.below hb41)
      replace O14 := Lib.hid (O14.out.below hb41)
      replace O16 := Lib.hid (O16.out.below hb41)
      replace O19 := Lib.hid (O19.out.below hb41)
      replace OT := Lib.hid (OT.out.below hb41)
      clear hb41
      go_wp2_with fail
      refine (refMirror A c l M _ HM2.out (by omega) HN.out.1 (HO.out.below (fin BW))).mono ?_
      rintro e w42 ⟨a42, c42, rfl, o42, hb42⟩
      replace BW := hbT BW hb42
      replace OS := Lib.hid (OS.out.below hb42)
      replace O14 := Lib.hid (O14.out.below hb42)
      replace O16 := Lib.hid (O16.out.below hb42)
      replace O19 := Lib.hid (O19.out.below hb42)
      replace OT := Lib.hid (OT.out.below hb42)
      have O42 := Lib.hid o42
      clear o42 hb42
      go_wp2_with fail
      refine (lwNetOk a14 a42 c14 c42 M _ HML.out O14.out O42.out).mono ?_
      rintro e w43 ⟨rfl, hb43⟩
      replace BW := hbT BW hb43
      replace OS := Lib.hid (OS.out.below hb43)
      replace O14 := Lib.hid (O14.out.below hb43)
      replace O16 := Lib.hid (O16.out.below hb43)
      replace O19 := Lib.hid (O19.out.below hb43)
      replace OT := Lib.hid (OT.out.below hb43)
      replace O42 := Lib.hid (O42.out.below hb43)
      clear hb43
      go_wp2_with fail
      refine (lwNetOk a16 at_ c16 ct T _ HTL.out O16.out OT.out).mono ?_
      rintro e w44 ⟨rfl, hb44⟩
      replace BW := hbT BW hb44
      replace OS := Lib.hid (OS.out.below hb44)
      replace O14 := Lib.hid (O14.out.below hb44)
      replace O16 := Lib.hid (O16.out.below hb44)
      replace O19 := Lib.hid (O19.out.below hb44)
      replace OT := Lib.hid (OT.out.below hb44)
      replace O42 := Lib.hid (O42.out.below hb44)
      clear hb44
      go_wp2
      go_ret
      exact ⟨rfl, fin BW⟩
set_option maxHeartbeats 8000000 in
set_option maxRecDepth 100000 in
theorem lawMotO (A : Option Addr) (c : Nat) (l : List Bar) (dx dy t : Int) (w : World) (hL : LaidLen w) (hO : OKS w A c l)
    (hS : ∀ W : World, Calls Tryz.prog 16 #[.slice A l.length c, .int .i64 40] W fun e w' => e = .returned (.bool true) ∧ W = w') (hl : l.length ≤ 40) (hN : Net l) (M T : List Bar) (r : Int) (q : Nat) (hM1 : sortBars (l.map mirB) = M) (hM2 : srtL (l.map mirB) = M) (hT : turnN q l = T) (hr : t.tmod 4 = r) (hq : (r + 4).tmod 4 = (q : Int)) (hr1 : -4 < r) (hr2 : r < 4) (hq3 : q ≤ 3) (hK : knotE dx dy = 0) (U : List Bar) (hU : l.map (Bar.shift dx dy) = U) (hA : l.all (inB dx dy) = false) (hUE : netE U = 3) :
    Calls Tryz.prog 9 #[.slice A l.length c, .agg #[.int .i64 dx, .int .i64 dy], .int .i64 t] w fun e w' => e = .returned (.bool true) ∧ Below w.heap.size w w' := by
  have ex0 : ∀ (a b : Value) (w : World), (Instr.extract (.tuple #[a, b]) 0).run Tryz.prog w = .ok a w := fun _ _ _ => by kernel_rfl
  have ex1 : ∀ (a b : Value) (w : World), (Instr.extract (.tuple #[a, b]) 1).run Tryz.prog w = .ok b w := fun _ _ _ => by kernel_rfl
  obtain ⟨w1, hw1, z0, z1, hb1, hz1⟩ := box2 w (.int .i64 dx) (.int .i64 dy) 26
  have Q : ∀ {W : World}, Below w1.heap.size w1 W → W.cell? ⟨w.heap.size, 0, none⟩ = some (.int .i64 dx) ∧ W.cell? ⟨w.heap.size, 1, none⟩ = some (.int .i64 dy) := fun hb => ⟨(hb.cell (p := ⟨w.heap.size, 0, none⟩) hz1).trans z0, (hb.cell (p := ⟨w.heap.size, 1, none⟩) hz1).trans z1⟩
  have HW1 := Lib.hid hw1
  have HLL := Lib.hid hL
  have HS := Lib.hid hS
  have fin : ∀ {W : World}, Below w1.heap.size w1 W → Below w.heap.size w W := fun hb => hb1.trans (hb.mono hb1.size)
  have BW := Below.refl w1.heap.size w1
  have HO := Lib.hid hO
  have HN := Lib.hid hN
  have HM1 := Lib.hid hM1
  have HM2 := Lib.hid hM2
  have HT := Lib.hid hT
  have HZ := Lib.hid ((netE_zero l).2 ⟨by omega, hN⟩)
  have HML := Lib.hid (show M.length ≤ 4096 by rw [← hM1, (sortBars_perm _).length_eq, List.length_map]; omega)
  have HTL := Lib.hid (show T.length ≤ 4096 by rw [← hT, turnN_length]; omega)
  have w1' : IntKind.i64.wrap r = r := by rw [IntKind.wrap_i64]; omega
  have w2' : IntKind.i64.wrap (r + 4) = r + 4 := by rw [IntKind.wrap_i64]; omega
  have w3' : IntKind.i64.wrap (q : Int) = (q : Int) := by rw [IntKind.wrap_i64]; omega
  have hqi : (q : Int) ≤ 3 := by omega
  clear hO hN hM1 hM2 hT
  have HK := Lib.hid hK
  have HU := Lib.hid hU
  have HA := Lib.hid hA
  have HUL := Lib.hid (show U.length ≤ 4096 by rw [← hU, List.length_map]; omega)
  clear hK hU hA
  have HUE := Lib.hid hUE
  clear hUE
  clear hw1 hL hS z0 z1
  go_enter Tryz.func9, Tryz.ntmps9
  go_wp2_with fail
  rw [← HW1.out]
  go_wp2_with fail
  refine (awake1 _ (HLL.out.below (fin BW) HLL.out.lt)).mono ?_
  rintro e w11 ⟨rfl, hb11⟩
  replace BW := hbT BW hb11
  clear hb11
  go_wp2_with fail
  refine (HS.out _).mono ?_
  rintro e w12 ⟨rfl, rfl⟩
  go_wp2_with fail
  refine wp_region_held_drew (S := (fun w' => Below w1.heap.size w1 w')) (by kernel_rfl) ?_ (fun hHeld => ?_)
  · exact below_drew BW
  refine wpAnyH_take (i := 0) (oi := _) (v := ?va0) rfl (by kernel_rfl) (by kernel_rfl) (by kernel_rfl) (fun _ _ _ h => h) (Or.inl ⟨by rfl, ?hya0⟩) (by assumption) ?resta0
  case hya0 => (intro w hSw; (try dsimp only at hSw); go_simp; first | done | rfl)
  try simp only [List.getElem_toArray, List.getElem_cons_succ, List.getElem_cons_zero, Act.put, List.setIfInBounds_toArray, List.set_cons_zero, List.set_cons_succ]
  refine wpAnyH_take (i := 2) (oi := _) (v := ?va2) rfl (by kernel_rfl) (by kernel_rfl) (by kernel_rfl) (fun _ _ _ h => h) (Or.inl ⟨by rfl, ?hya2⟩) (by assumption) ?resta2
  case hya2 => (intro w hSw; (try dsimp only at hSw); obtain ⟨s0, s1⟩ := Q hSw; go_simp; first | done | rfl)
  try simp only [List.getElem_toArray, List.getElem_cons_succ, List.getElem_cons_zero, Act.put, List.setIfInBounds_toArray, List.set_cons_zero, List.set_cons_succ]
  refine wpAnyH_ready (rs := [1]) (by kernel_rfl) (by simp) ?_
  refine AllReadyH.cons (o := _) rfl (fun K hK => ?_) AllReadyH.nil
  simp only [List.getElem_toArray, List.getElem_cons_succ, List.getElem_cons_zero]
  go_simp
  go_at_call 21
  refine (lwCopied A c l _ (by omega) (HO.out.below (fin (by assumption)))).mono ?_
  rintro e w' ⟨a3, c3, rfl, o3, hbq⟩
  refine hK.out _ _ (hbT (by assumption) hbq) (fun hHeld => ?_)
  clear hK K
  try simp only [List.getElem_toArray, List.getElem_cons_succ, List.getElem_cons_zero, Act.put, List.setIfInBounds_toArray, List.set_cons_zero, List.set_cons_succ]
  refine wpAnyH_ready (rs := [3]) (by kernel_rfl) (by simp) ?_
  refine AllReadyH.cons (o := _) rfl (fun K hK => ?_) AllReadyH.nil
  simp only [List.getElem_toArray, List.getElem_cons_succ, List.getElem_cons_zero]
  go_simp
  go_at_call 63
  refine (netShiftOut a3 c3 l U 3 _ (by omega) dx dy HN.out HU.out HUE.out (by decide) HK.out o3).mono ?_
  rintro e w' ⟨rfl, hbq⟩
  refine hK.out _ _ (hbT (by assumption) hbq) (fun hHeld => ?_)
  clear hK K
  try simp only [List.getElem_toArray, List.getElem_cons_succ, List.getElem_cons_zero, Act.put, List.setIfInBounds_toArray, List.set_cons_zero, List.set_cons_succ]
  refine wpAnyH_take (i := 4) (oi := _) (v := ?va4) rfl (by kernel_rfl) (by kernel_rfl) (by kernel_rfl) (fun _ _ _ h => h) (Or.inl ⟨by rfl, ?hya4⟩) (by assumption) ?resta4
  case hya4 => (intro w hSw; (try dsimp only at hSw); go_simp; first | done | rfl)
  try simp only [List.getElem_toArray, List.getElem_cons_succ, List.getElem_cons_zero, Act.put, List.setIfInBounds_toArray, List.set_cons_zero, List.set_cons_succ]
  refine wpAnyH_take (i := 5) (oi := _) (v := ?va5) rfl (by kernel_rfl) (by kernel_rfl) (by kernel_rfl) (fun _ _ _ h => h) (Or.inl ⟨by rfl, ?hya5⟩) (by assumption) ?resta5
  case hya5 => (intro w hSw; (try dsimp only at hSw); go_simp; first | done | rfl)
  try simp only [List.getElem_toArray, List.getElem_cons_succ, List.getElem_cons_zero, Act.put, List.setIfInBounds_toArray, List.set_cons_zero, List.set_cons_succ]
  refine wpAnyH_take (i := 6) (oi := _) (v := ?va6) rfl (by kernel_rfl) (by kernel_rfl) (by kernel_rfl) (fun _ _ _ h => h) (Or.inl ⟨by rfl, ?hya6⟩) (by assumption) ?resta6
  case hya6 => (intro w hSw; (try dsimp only at hSw); go_simp; first | done | rfl)
  try simp only [List.getElem_toArray, List.getElem_cons_succ, List.getElem_cons_zero, Act.put, List.setIfInBounds_toArray, List.set_cons_zero, List.set_cons_succ]
  refine wpAnyH_take (i := 7) (oi := _) (v := ?va7) rfl (by kernel_rfl) (by kernel_rfl) (by kernel_rfl) (fun _ _ _ h => h) (Or.inl ⟨by rfl, ?hya7⟩) (by assumption) ?resta7
  case hya7 => (intro w hSw; (try dsimp only at hSw); go_simp; first | done | rfl)
  try simp only [List.getElem_toArray, List.getElem_cons_succ, List.getElem_cons_zero, Act.put, List.setIfInBounds_toArray, List.set_cons_zero, List.set_cons_succ]
  refine wpAnyH_take (i := 8) (oi := _) (v := ?va8) rfl (by kernel_rfl) (by kernel_rfl) (by kernel_rfl) (fun _ _ _ h => h) (Or.inl ⟨by rfl, ?hya8⟩) (by assumption) ?resta8
  case hya8 => (intro w hSw; (try dsimp only at hSw); go_simp; first | done | rfl)
  try simp only [List.getElem_toArray, List.getElem_cons_succ, List.getElem_cons_zero, Act.put, List.setIfInBounds_toArray, List.set_cons_zero, List.set_cons_succ]
  refine wpAnyH_done (by kernel_rfl) ?_ _
  replace BW := hHeld
  clear o3
  go_wp2_with fail
  refine (lwCopied A c l _ (by omega) (HO.out.below (fin BW))).mono ?_
  rintro e w13 ⟨a13, c13, rfl, o13, hb13⟩
  replace BW := hbT BW hb13
  have O13 := Lib.hid o13
  clear o13 hb13
  go_wp2_with fail
  refine (netMirrorG a13 c13 l M _ HM1.out (by omega) HN.out O13.out).mono ?_
  rintro e w14 ⟨a14, c14, rfl, o14, hb14⟩
  replace BW := hbT BW hb14
  replace O13 := Lib.hid (O13.out.below hb14)
  have O14 := Lib.hid o14
  clear o14 hb14
  clear O13
  go_wp2_with fail
  refine (lwCopied A c l _ (by omega) (HO.out.below (fin BW))).mono ?_
  rintro e w15 ⟨a15, c15, rfl, o15, hb15⟩
  replace BW := hbT BW hb15
  replace O14 := Lib.hid (O14.out.below hb15)
  have O15 := Lib.hid o15
  clear o15 hb15
  go_wp2_with fail
  refine (netTurnS a15 c15 t r l T q _ HT.out (by omega) hr hq HN.out O15.out).mono ?_
  rintro e w16 ⟨a16, c16, rfl, o16, hb16⟩
  replace BW := hbT BW hb16
  replace O14 := Lib.hid (O14.out.below hb16)
  replace O15 := Lib.hid (O15.out.below hb16)
  have O16 := Lib.hid o16
  clear o16 hb16
  clear O15
  go_wp2_with fail
  refine (refCheckNetA A c l _ (HO.out.below (fin BW))).mono ?_
  rintro e w17 ⟨rfl, hb17⟩
  rw [HZ.out]
  replace BW := hbT BW hb17
  replace O14 := Lib.hid (O14.out.below hb17)
  replace O16 := Lib.hid (O16.out.below hb17)
  clear hb17
  have qs := Q BW
  obtain ⟨s0, s1⟩ := qs
  go_wp2_with fail
  refine (refCheckKnot dx dy _).mono ?_
  rintro e w18 ⟨rfl, hb18⟩
  rw [HK.out]
  replace BW := hbT BW hb18
  replace O14 := Lib.hid (O14.out.below hb18)
  replace O16 := Lib.hid (O16.out.below hb18)
  clear hb18
  clear s0 s1
  have qs := Q BW
  obtain ⟨s0, s1⟩ := qs
  go_wp2_with fail
  refine (refShifted A c l U dx dy false _ HU.out HA.out (by omega) HN.out.1 HK.out (HO.out.below (fin BW))).mono ?_
  rintro e w19 ⟨a19, c19, rfl, o19, hb19⟩
  replace BW := hbT BW hb19
  replace O14 := Lib.hid (O14.out.below hb19)
  replace O16 := Lib.hid (O16.out.below hb19)
  have O19 := Lib.hid o19
  clear o19 hb19
  clear s0 s1
  go_wp2_with fail
  refine (lwWhenT 3 _).mono ?_
  rintro e w20 ⟨rfl, rfl⟩
  go_wp2_with fail
  have HOl := Lib.hid (HO.out.below (fin BW))
  go_loopw [17, 84] (fun v i wr => ∃ n : Nat, n ≤ q ∧ i = .int .i64 n ∧ Hid (∃ a c', v = .slice a (turnN n l).length c' ∧ OKS wr a c' (turnN n l)) ∧ Below w19.heap.size w19 wr) (fun _ i _ => q - (intOf i).toNat)
  case atStart => exact ⟨0, Nat.zero_le _, rfl, Lib.hid ⟨A, c, rfl, HOl.out⟩, Below.refl _ _⟩
  case round =>
    obtain ⟨n, hn, rfl, hv, hb⟩ := hrel
    by_cases hlt : n < q
    · have hni : (n : Int) < (q : Int) := by omega
      have hni0 : (0 : Int) ≤ (n : Int) := by omega
      obtain ⟨a, cc, rfl, ok⟩ := hv.out
      have OKX := Lib.hid ok
      have HTS := Lib.hid (turn_srt HN.out n)
      have HTO := Lib.hid (turnN_ok HN.out.1 n)
      have HTN := Lib.hid (turnN_length l n)
      clear ok hv
      generalize hT1 : turnN (n + 1) l = T1 at HTS
      have HT1 := Lib.hid hT1
      clear hT1
      generalize hT0 : turnN n l = T0 at *
      clear hT0
      go_wp2_with fail
      refine (refTurned a cc T0 T1 _ HTS.out (by rw [HTN.out]; omega) HTO.out OKX.out).mono ?_
      rintro e w20 ⟨a20, c20, rfl, o20, hb20⟩
      have O20 := Lib.hid o20
      have hbn := hbT hb hb20
      clear o20 hb20
      go_wp2
      go_roundw
      case rel => exact ⟨n + 1, by omega, by go_num, Lib.hid ⟨a20, c20, by rw [HT1.out], by rw [HT1.out]; exact O20.out⟩, hbn⟩
      case measure => simp [intOf]; omega
    · obtain rfl : n = q := by omega
      obtain ⟨at_, ct, rfl, ok⟩ := hv.out
      rw [HT.out] at ok
      have OT := Lib.hid ok
      rw [HT.out]
      replace BW := hbT BW hb
      replace O14 := Lib.hid (O14.out.below hb)
      replace O16 := Lib.hid (O16.out.below hb)
      replace O19 := Lib.hid (O19.out.below hb)
      clear ok hv hb
      go_wp2_with fail
      refine (lwNetBadV 3 _ _ (by decide)).mono ?_
      rintro e w41 ⟨rfl, hb41⟩
      replace BW := hbT BW hb41
      replace O14 := Lib.hid (O14.out.below hb41)
      replace O16 := Lib.hid (O16.out.below hb41)
      replace O19 := Lib.hid (O19.out.below hb41)
      replace OT := Lib.hid (OT.out.below hb41)
      clear hb41
      go_wp2_with fail
      refine (refMirror A c l M _ HM2.out (by omega) HN.out.1 (HO.out.below (fin BW))).mono ?_
      rintro e w42 ⟨a42, c42, rfl, o42, hb42⟩
      replace BW := hbT BW hb42
      replace O14 := Lib.hid (O14.out.below hb42)
      replace O16 := Lib.hid (O16.out.below hb42)
      replace O19 := Lib.hid (O19.out.below hb42)
      replace OT := Lib.hid (OT.out.below hb42)
      have O42 := Lib.hid o42
      clear o42 hb42
      go_wp2_with fail
      refine (lwNetOk a14 a42 c14 c42 M _ HML.out O14.out O42.out).mono ?_
      rintro e w43 ⟨rfl, hb43⟩
      replace BW := hbT BW hb43
      replace O14 := Lib.hid (O14.out.below hb43)
      replace O16 := Lib.hid (O16.out.below hb43)
      replace O19 := Lib.hid (O19.out.below hb43)
      replace OT := Lib.hid (OT.out.below hb43)
      replace O42 := Lib.hid (O42.out.below hb43)
      clear hb43
      go_wp2_with fail
      refine (lwNetOk a16 at_ c16 ct T _ HTL.out O16.out OT.out).mono ?_
      rintro e w44 ⟨rfl, hb44⟩
      replace BW := hbT BW hb44
      replace O14 := Lib.hid (O14.out.below hb44)
      replace O16 := Lib.hid (O16.out.below hb44)
      replace O19 := Lib.hid (O19.out.below hb44)
      replace OT := Lib.hid (OT.out.below hb44)
      replace O42 := Lib.hid (O42.out.below hb44)
      clear hb44
      go_wp2
      go_ret
      exact ⟨rfl, fin BW⟩
theorem lawMotions (A : Option Addr) (c : Nat) (l : List Bar) (dx dy t : Int) (w : World) (hL : LaidLen w) (hO : OKS w A c l) :
    Calls Tryz.prog 9 #[.slice A l.length c, .agg #[.int .i64 dx, .int .i64 dy], .int .i64 t] w fun e w' => e = .returned (.bool true) ∧ Below w.heap.size w w' := by
  have hk : l.length ≤ maxLen := Nat.le_trans hO.1 hO.2.1
  by_cases hs : (l.length : Int) ≤ 40 ∨ (4096 < (l.length : Int) ∧ (l.length : Int) ≤ 4098)
  · have hS : ∀ W : World, Calls Tryz.prog 16 #[.slice A l.length c, .int .i64 40] W fun e w' => e = .returned (.bool true) ∧ W = w' := fun W => refShortOk A c _ 40 W hk hs
    by_cases hE : netE l = 0
    · obtain ⟨hl, hN⟩ := (netE_zero l).1 hE
      have h40 : l.length ≤ 40 := by omega
      obtain ⟨r, hr⟩ : ∃ r, t.tmod 4 = r := ⟨_, rfl⟩
      have hr1 : -4 < r ∧ r < 4 := by rw [← hr]; exact ⟨by have := Int.lt_tmod_of_pos t (show (0 : Int) < 4 by decide); omega, Int.tmod_lt_of_pos t (by decide)⟩
      obtain ⟨q, hq⟩ : ∃ q : Nat, (r + 4).tmod 4 = (q : Int) := ⟨((r + 4).tmod 4).toNat, by have := Int.tmod_nonneg (a := r + 4) 4 (by omega); omega⟩
      have hq3 : q ≤ 3 := by have := Int.tmod_lt_of_pos (r + 4) (show (0 : Int) < 4 by decide); omega
      by_cases hK : knotE dx dy = 0
      · have hne := netE_shift hN hl (knot_even hK)
        cases ha : l.all (inB dx dy)
        · rw [ha] at hne
          exact lawMotO A c l dx dy t w hL hO hS h40 hN _ _ r q rfl (mirror_srt hN).symm rfl hr hq hr1.1 hr1.2 hq3 hK _ rfl ha (by rw [hne]; rfl)
        · rw [ha] at hne
          exact lawMotI A c l dx dy t w hL hO hS h40 hN _ _ r q rfl (mirror_srt hN).symm rfl hr hq hr1.1 hr1.2 hq3 hK _ rfl ha ((netE_zero _).1 (by rw [hne]; rfl)).2
      · exact lawMotK A c l dx dy t w hL hO hS h40 hN _ _ r q rfl (mirror_srt hN).symm rfl hr hq hr1.1 hr1.2 hq3 _ rfl hK (by simp only [firstE, if_true]; rw [if_neg hK])
    · exact lawMotB A c l dx dy t w hL hO hS (by omega) _ rfl hE (by simp only [firstE]; rw [if_neg hE])
  · exact lawMotL A c l dx dy t w hL (fun W => refShortNo A c _ 40 W hk hs)
end Go.Proofs.YtdeplhihcifmeaaGreatDoor

/- A knot as an argument. -/
namespace Go.Proofs.YtdeplhihcifmeaaGreatDoor
open Go.ChangeShapes Go.WideShapes Go.ChangeAt Go.WideMaps Go.WideElems Go.RowKit

set_option maxRecDepth 100000 in
theorem open_knot {w : World} {r : Reach} {b0 : Nat} {v : Value} (h : Value.okWide Tryz.prog w r b0 26 v) : ∃ x y, v = .agg #[.int .i64 x, .int .i64 y] := by
  have hS : Tryz.prog.underlying 26 = some (.struct (Tryz.prog.fieldsOf 26)) := by kernel_rfl
  have hC : Tryz.prog.cellsOf 26 = 2 := by kernel_rfl
  simp only [Value.okWide, hS] at h
  obtain ⟨cs, rfl, hsz, hr⟩ := h
  rw [hC] at hsz
  obtain ⟨ts, hts, -, hrow⟩ := hr
  have ht : Tryz.prog.cellTypes Tryz.prog.depth 26 = some [3, 3] := by kernel_rfl
  rw [ht] at hts
  cases hts
  obtain ⟨l⟩ := cs
  match l, hsz with
  | [c0, c1], _ =>
    obtain ⟨u0, hu0, h0⟩ := hrow 0 c0 rfl
    obtain ⟨u1, hu1, h1⟩ := hrow 1 c1 rfl
    simp at hu0 hu1
    subst hu0 hu1
    obtain ⟨a, rfl, -⟩ := cell_intT Tryz.underlying3 h0
    obtain ⟨b, rfl, -⟩ := cell_intT Tryz.underlying3 h1
    exact ⟨a, b, rfl⟩
end Go.Proofs.YtdeplhihcifmeaaGreatDoor

/- An argument that is a list of bars, opened. -/
namespace Go.Proofs.YtdeplhihcifmeaaGreatDoor
open Go.ChangeShapes Go.WideShapes Go.ChangeAt Go.RowKit Go.Deep

variable {H : Type} {enc : TypeId × Value → H} {w : World} {spare : Nat → Bool} {held : Bool}
set_option maxRecDepth 100000 in
theorem bar_cells {n : Nat} {cs : List Value} {x : DataW H × List MemPlace} (h : DataW.trod enc Tryz.prog w 0 spare held n 24 cs = some x) : ∃ b : Ck.Bar, cs = bcells b := by
  obtain ⟨xs, m, _, _, hl, hx, hf⟩ := DataW.trod_struct Tryz.underlying24 h
  have hC : Tryz.prog.cellsOf 24 = 3 := by kernel_rfl
  have c3 : Tryz.prog.cellsOf 3 = 1 := by kernel_rfl
  rw [hC] at hl
  match cs, hl, xs, hx with
  | [c0, c1, c2], _, [x0, x1, x2], _ =>
    have h0 := hf 0 _ rfl
    have h1 := hf 1 _ rfl
    have h2 := hf 2 _ rfl
    simp [c3] at h0 h1 h2
    obtain ⟨n0, e0, _⟩ := DataW.trod_int Tryz.underlying3 h0
    obtain ⟨n1, e1, _⟩ := DataW.trod_int Tryz.underlying3 h1
    obtain ⟨n2, e2, _⟩ := DataW.trod_int Tryz.underlying3 h2
    simp only [List.cons.injEq, and_true] at e0 e1 e2
    exact ⟨⟨n0, n1, n2⟩, by rw [e0, e1, e2]; rfl⟩
set_option maxRecDepth 100000 in
/-- The argument is nil, or a slice that reads as bars. -/
theorem open_bars {v : Value} {d : DataW H} {p : List MemPlace} {r : Reach} {b0 : Nat} (hv : Value.okWide Tryz.prog w r b0 22 v) (h : DataW.Trod enc Tryz.prog w 0 spare held 22 v d p) (_ : ∀ x ∈ p, x.block < w.heap.size) :
    ∃ (A : Option Addr) (c : Nat) (l : List Ck.Bar), v = .slice A l.length c ∧ (A = none → c = 0) ∧ l.length ≤ c ∧ c ≤ maxLen ∧ RB w w.heap.size A l := by
  obtain ⟨a, len, cap, rfl⟩ := okWide_slice Tryz.underlying22 hv
  obtain ⟨fuel, hf⟩ := h
  have hC : Tryz.prog.cellsOf 24 = 3 := by kernel_rfl
  rcases open_slice Tryz.underlying22 hf with ⟨hcs, _⟩ | ⟨a', len', cap', m, n, D, Pl, hcs, hb, hl, hm, hmm, hx, hi⟩
  · simp [Value.cells] at hcs
    obtain ⟨rfl, rfl, rfl⟩ := hcs
    exact ⟨none, 0, [], rfl, fun _ => rfl, Nat.zero_le _, by unfold maxLen; omega, fun h => by simp at h⟩
  · simp [Value.cells] at hcs
    obtain ⟨rfl, rfl, rfl⟩ := hcs
    rw [hC] at hi hx
    have hle : len ≤ m := by rw [hmm]; split <;> omega
    have each : ∀ i, ∃ b : Ck.Bar, i < len → w.cell? (a'.add (i * 3)) = some (.int .i64 b.x) ∧ w.cell? ((a'.add (i * 3)).add 1) = some (.int .i64 b.y) ∧ w.cell? ((a'.add (i * 3)).add 2) = some (.int .i64 b.s) := fun i => by
      by_cases hi' : i < len
      · obtain ⟨cs', h1, h2⟩ := hi i (by omega)
        obtain ⟨b, rfl⟩ := bar_cells h2
        obtain ⟨_, _, h3⟩ := World.cells?_some h1
        exact ⟨b, fun _ => ⟨h3 0 (by omega), h3 1 (by omega), h3 2 (by omega)⟩⟩
      · exact ⟨⟨0, 0, 0⟩, fun h => absurd h hi'⟩
    obtain ⟨f, hf'⟩ := Classical.axiomOfChoice each
    have hlen : ((List.range len).map f).length = len := by simp
    refine ⟨some a', cap, (List.range len).map f, by rw [hlen], (fun h => by cases h), by rw [hlen]; exact hl, hm, fun hpos => ?_⟩
    rw [hlen] at hpos
    obtain ⟨blk, off, spot⟩ := a'
    have h0 := (hf' 0 hpos).1
    have hspot : spot = none := by
      cases spot with
      | none => rfl
      | some s =>
        simp [Addr.add, World.cell?] at h0
        split at h0 <;> simp at h0
    subst hspot
    have hadd : ∀ k, (⟨blk, off, none⟩ : Addr).add k = ⟨blk, off + k, none⟩ := fun k => by
      unfold Addr.add
      split
      · simp
      · rfl
    have hblk : blk < w.heap.size := by
      rw [hadd] at h0
      unfold World.cell? at h0
      cases hh : w.heap[blk]? with
      | none => simp [hh] at h0
      | some o => exact (Array.getElem?_eq_some_iff.1 hh).1
    refine ⟨blk, off, rfl, hblk, fun i hi' => ?_⟩
    rw [hlen] at hi'
    obtain ⟨k0, k1, k2⟩ := hf' i hi'
    rw [hadd] at k0 k1 k2
    have hadd2 : ∀ k j, (⟨blk, k, none⟩ : Addr).add j = ⟨blk, k + j, none⟩ := fun k j => by
      unfold Addr.add
      split
      · simp
      · rfl
    rw [hadd2] at k1 k2
    have hg : ((List.range len).map f)[i]'(by simpa using hi') = f i := by simp
    rw [hg]
    exact ⟨k0, k1, k2⟩
end Go.Proofs.YtdeplhihcifmeaaGreatDoor
