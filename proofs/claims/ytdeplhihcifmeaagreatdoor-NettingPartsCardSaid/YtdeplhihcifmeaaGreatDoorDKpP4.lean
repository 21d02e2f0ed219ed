/- Helpers: DKpP4. -/
import Derived.Test.YtdeplhihcifmeaaGreatDoorDKpP3
import Derived.Deep.RegionHeld3
import Derived.ProofKit
import Derived.Deep.Slices
import Derived.Deep.Fields
/- The reference's Meshes, the law's meshes and sameMeshes, SameKnots. -/
namespace Go.Proofs.YtdeplhihcifmeaaGreatDoor
open Go.RowKit Go.Shelf Ck

theorem st2b {w : World} {g base : Nat} {x0 y0 : Value} {t : TypeId} (x y : Value) (h : w.heap[g]? = some (.cells #[x0, y0] t (0, 0))) (hb : base ≤ g) :
    ∃ w', (w.setCell ⟨g, 0, none⟩ x).setCell ⟨g, 1, none⟩ y = w' ∧ w'.heap[g]? = some (.cells #[x, y] t (0, 0)) ∧ Below base w w' := by
  obtain ⟨s1, _⟩ := setBlockAt h 0 x
  obtain ⟨s2, _⟩ := setBlockAt s1 1 y
  exact ⟨_, rfl, s2, ((Below.refl _ _).setCell hb _).setCell hb _⟩
theorem undRM : Tryz.prog.underlying 78 = some (.slice 143) := by kernel_rfl
theorem infoRM : (Tryz.prog.info? 143).map (fun i => (i.zero, i.size, i.bytes)) = some (some (.agg #[.int .i64 0, .int .i64 0]), 2, 16) := by kernel_rfl
theorem mcells_snoc (l : List Bar) (b : Bar) : meshCells (l ++ [b]) = meshCells l ++ [.int .i64 b.x, .int .i64 (b.y + 1)] := by simp [meshCells]
theorem isM_iff {l : List Bar} {b : Bar} (hb : b ∈ l) : isM l b = true ↔ b.s = -1 ∧ ((kgM4 b.x (b.y + 1)).all fun x => decide (x ∈ l)) = true := by
  unfold isM
  rw [Bool.and_eq_true, decide_eq_true_eq]
  constructor
  · rintro ⟨h1, h2⟩
    refine ⟨h1, ?_⟩
    simpa [allIn, meshBars4, kgM4] using h2
  · rintro ⟨h1, h2⟩
    refine ⟨h1, ?_⟩
    simpa [allIn, meshBars4, kgM4] using h2
set_option maxHeartbeats 1600000 in
set_option maxRecDepth 100000 in
theorem refMeshes (A : Option Addr) (c : Nat) (l u : List Ck.Bar) (w : World) (hu : meshL l l = u) (hl : l.length ≤ 4096) (hok : ∀ x ∈ l, okBar x) (h : OKS w A c l) :
    Calls Tryz.prog 51 #[.slice A l.length c] w fun e w' => ∃ v, e = .returned v ∧ w'.ownsRow w.heap.size 143 2 v u.length (meshCells u) ∧ Below w.heap.size w w' := by
  obtain ⟨ib, hib, hb0, hb01, hb02⟩ := info_parts infoRM
  have HIB := Lib.hid hib
  have HB0 := Lib.hid hb0
  have HB1 := Lib.hid hb01
  have HB2 := Lib.hid hb02
  have HR := Lib.hid h
  have HU := Lib.hid hu
  have HOK := Lib.hid hok
  have hl' : (l.length : Int) ≤ 4096 := by omega
  clear hib hb0 hb01 hb02 h hu hok
  go_enter Tryz.func51, Tryz.ntmps51
  go_wp2_with fail
  go_loopw [3, 4] (fun v i wr => ∃ j : Nat, j ≤ l.length ∧ i = .int .i64 j ∧ Hid (wr.ownsRow w.heap.size 143 2 v (meshL l (l.take j)).length (meshCells (meshL l (l.take j)))) ∧ Below w.heap.size w wr) (fun _ i _ => l.length - (intOf i).toNat)
  case atStart => exact ⟨0, Nat.zero_le _, rfl, Lib.hid ⟨rfl, .inl ⟨rfl, rfl⟩⟩, Below.refl _ _⟩
  case round =>
    obtain ⟨j, hj, rfl, hown, hb⟩ := hrel
    have hbz := hb.size
    have hln : (meshL l (l.take j)).length ≤ 4096 := by
      have h1 := List.length_filter_le (isM l) (l.take j)
      have h2 : (l.take j).length ≤ 4096 := by rw [List.length_take]; omega
      unfold meshL
      omega
    by_cases hlt : j < l.length
    · obtain ⟨b, off, rfl, hB, hc⟩ := ((HR.out.below hb).2.2.2) (by omega)
      obtain ⟨d0, d1, d2⟩ := hc j hlt
      have hj1 : (j : Int) < (l.length : Int) := by omega
      have hj0 : (0 : Int) ≤ (j : Int) := by omega
      clear hc
      obtain ⟨k, hk⟩ : ∃ k, l[j] = k := ⟨_, rfl⟩
      have hmem : k ∈ l := by rw [← hk]; exact List.getElem_mem hlt
      have HKO := Lib.hid (HOK.out k hmem)
      have hyes : k.s = -1 → ((kgM4 k.x (k.y + 1)).all fun x => decide (x ∈ l)) = true → meshL l (l.take (j + 1)) = meshL l (l.take j) ++ [k] := fun h1 h2 => by
        rw [meshL_yes hlt (by rw [hk]; exact (isM_iff hmem).2 ⟨h1, h2⟩), hk]
      have hno : (k.s = -1 → ((kgM4 k.x (k.y + 1)).all fun x => decide (x ∈ l)) = false) → meshL l (l.take (j + 1)) = meshL l (l.take j) := fun h1 => by
        rw [meshL_no hlt]
        rw [hk]
        cases hm : isM l k
        · rfl
        · obtain ⟨h2, h3⟩ := (isM_iff hmem).1 hm
          rw [h1 h2] at h3
          cases h3
      have hcase : (k.s = -1 ∧ ((kgM4 k.x (k.y + 1)).all fun x => decide (x ∈ l)) = true) ∨ (k.s = -1 ∧ ((kgM4 k.x (k.y + 1)).all fun x => decide (x ∈ l)) = false) ∨ ¬ k.s = -1 := by
        by_cases h1 : k.s = -1
        · cases h2 : (kgM4 k.x (k.y + 1)).all fun x => decide (x ∈ l)
          · exact .inr (.inl ⟨h1, rfl⟩)
          · exact .inl ⟨h1, rfl⟩
        · exact .inr (.inr h1)
      rw [hk] at d0 d1 d2
      obtain ⟨⟨⟨x1, x2⟩, ⟨y1, y2⟩, -⟩, ks, -, -⟩ := HKO.out
      simp only [Bar.lo] at x1 x2 y1 y2
      have ks1 : k.s = -1 ∨ k.s = 1 := ks
      have CR : ∀ {W : World}, Below wr.heap.size wr W → W.cell? ⟨b, off + j * 3, none⟩ = some (.int .i64 k.x) ∧ W.cell? ⟨b, off + j * 3 + 1, none⟩ = some (.int .i64 k.y) ∧ W.cell? ⟨b, off + j * 3 + 2, none⟩ = some (.int .i64 k.s) :=
        fun hq => ⟨(hq.cell (p := ⟨b, off + j * 3, none⟩) hB).trans d0, (hq.cell (p := ⟨b, off + j * 3 + 1, none⟩) hB).trans d1, (hq.cell (p := ⟨b, off + j * 3 + 2, none⟩) hB).trans d2⟩
      have m1 : IntKind.i64.wrap (k.y + 1) = k.y + 1 := by rw [IntKind.wrap_i64]; omega
      clear hk ks d0 d1 d2 hmem
      have ks1' := Lib.hid ks1
      clear ks1
      generalize meshL l (l.take j) = F at *
      go_wp2_with fail
      refine wp_region_held_drew (S := (fun w' => Below wr.heap.size wr w')) (by kernel_rfl) ?_ (fun hHeld => ?_)
      · exact below_drew (Below.refl _ _)
      refine wpAnyH_take (i := 0) (oi := _) (v := ?vs0_1) rfl (by kernel_rfl) (by kernel_rfl) (by kernel_rfl) (fun _ _ _ h => h) (Or.inl ⟨by rfl, ?hys0_1⟩) (by assumption) ?rests0_1
      case hys0_1 => (intro w hSw; (try dsimp only at hSw); go_simp; first | done | rfl)
      try simp only [List.getElem_toArray, List.getElem_cons_succ, List.getElem_cons_zero, Act.put, List.setIfInBounds_toArray, List.set_cons_zero, List.set_cons_succ]
      refine wpAnyH_take (i := 1) (oi := _) (v := ?vs1_2) rfl (by kernel_rfl) (by kernel_rfl) (by kernel_rfl) (fun _ _ _ h => h) (Or.inl ⟨by rfl, ?hys1_2⟩) (by assumption) ?rests1_2
      case hys1_2 => (intro w hSw; (try dsimp only at hSw); go_simp; first | done | rfl)
      try simp only [List.getElem_toArray, List.getElem_cons_succ, List.getElem_cons_zero, Act.put, List.setIfInBounds_toArray, List.set_cons_zero, List.set_cons_succ]
      refine wpAnyH_take (i := 2) (oi := _) (v := ?vs2_3) rfl (by kernel_rfl) (by kernel_rfl) (by kernel_rfl) (fun _ _ _ h => h) (Or.inl ⟨by rfl, ?hys2_3⟩) (by assumption) ?rests2_3
      case hys2_3 => (intro w hSw; (try dsimp only at hSw); go_simp; first | done | rfl)
      try simp only [List.getElem_toArray, List.getElem_cons_succ, List.getElem_cons_zero, Act.put, List.setIfInBounds_toArray, List.set_cons_zero, List.set_cons_succ]
      refine wpAnyH_take (i := 3) (oi := _) (v := ?vs3_4) rfl (by kernel_rfl) (by kernel_rfl) (by kernel_rfl) (fun _ _ _ h => h) (Or.inl ⟨by rfl, ?hys3_4⟩) (by assumption) ?rests3_4
      case hys3_4 => (intro w hSw; (try dsimp only at hSw); go_simp; first | done | rfl)
      try simp only [List.getElem_toArray, List.getElem_cons_succ, List.getElem_cons_zero, Act.put, List.setIfInBounds_toArray, List.set_cons_zero, List.set_cons_succ]
      refine wpAnyH_take (i := 4) (oi := _) (v := ?vs4_5) rfl (by kernel_rfl) (by kernel_rfl) (by kernel_rfl) (fun _ _ _ h => h) (Or.inl ⟨by rfl, ?hys4_5⟩) (by assumption) ?rests4_5
      case hys4_5 => (intro w hSw; (try dsimp only at hSw); obtain ⟨e0, e1, e2⟩ := CR hSw; go_simp; first | done | rfl)
      try simp only [List.getElem_toArray, List.getElem_cons_succ, List.getElem_cons_zero, Act.put, List.setIfInBounds_toArray, List.set_cons_zero, List.set_cons_succ]
      refine wpAnyH_take (i := 5) (oi := _) (v := ?vs5_6) rfl (by kernel_rfl) (by kernel_rfl) (by kernel_rfl) (fun _ _ _ h => h) (Or.inl ⟨by rfl, ?hys5_6⟩) (by assumption) ?rests5_6
      case hys5_6 => (intro w hSw; (try dsimp only at hSw); go_simp; first | done | rfl)
      try simp only [List.getElem_toArray, List.getElem_cons_succ, List.getElem_cons_zero, Act.put, List.setIfInBounds_toArray, List.set_cons_zero, List.set_cons_succ]
      refine wpAnyH_take (i := 6) (oi := _) (v := ?vs6_7) rfl (by kernel_rfl) (by kernel_rfl) (by kernel_rfl) (fun _ _ _ h => h) (Or.inl ⟨by rfl, ?hys6_7⟩) (by assumption) ?rests6_7
      case hys6_7 => (intro w hSw; (try dsimp only at hSw); go_simp; first | done | rfl)
      try simp only [List.getElem_toArray, List.getElem_cons_succ, List.getElem_cons_zero, Act.put, List.setIfInBounds_toArray, List.set_cons_zero, List.set_cons_succ]
      refine wpAnyH_take (i := 7) (oi := _) (v := ?vs7_8) rfl (by kernel_rfl) (by kernel_rfl) (by kernel_rfl) (fun _ _ _ h => h) (Or.inl ⟨by rfl, ?hys7_8⟩) (by assumption) ?rests7_8
      case hys7_8 => (intro w hSw; (try dsimp only at hSw); go_simp; first | done | rfl)
      try simp only [List.getElem_toArray, List.getElem_cons_succ, List.getElem_cons_zero, Act.put, List.setIfInBounds_toArray, List.set_cons_zero, List.set_cons_succ]
      refine wpAnyH_take (i := 8) (oi := _) (v := ?vs8_9) rfl (by kernel_rfl) (by kernel_rfl) (by kernel_rfl) (fun _ _ _ h => h) (Or.inl ⟨by rfl, ?hys8_9⟩) (by assumption) ?rests8_9
      case hys8_9 => (intro w hSw; (try dsimp only at hSw); go_simp; first | done | rfl)
      try simp only [List.getElem_toArray, List.getElem_cons_succ, List.getElem_cons_zero, Act.put, List.setIfInBounds_toArray, List.set_cons_zero, List.set_cons_succ]
      refine wpAnyH_take (i := 9) (oi := _) (v := ?vs9_10) rfl (by kernel_rfl) (by kernel_rfl) (by kernel_rfl) (fun _ _ _ h => h) (Or.inl ⟨by rfl, ?hys9_10⟩) (by assumption) ?rests9_10
      case hys9_10 => (intro w hSw; (try dsimp only at hSw); obtain ⟨e0, e1, e2⟩ := CR hSw; go_simp; first | done | rfl)
      try simp only [List.getElem_toArray, List.getElem_cons_succ, List.getElem_cons_zero, Act.put, List.setIfInBounds_toArray, List.set_cons_zero, List.set_cons_succ]
      refine wpAnyH_take (i := 10) (oi := _) (v := ?vs10_11) rfl (by kernel_rfl) (by kernel_rfl) (by kernel_rfl) (fun _ _ _ h => h) (Or.inl ⟨by rfl, ?hys10_11⟩) (by assumption) ?rests10_11
      case hys10_11 => (intro w hSw; (try dsimp only at hSw); go_simp; first | done | rfl)
      try simp only [List.getElem_toArray, List.getElem_cons_succ, List.getElem_cons_zero, Act.put, List.setIfInBounds_toArray, List.set_cons_zero, List.set_cons_succ]
      refine wpAnyH_take (i := 11) (oi := _) (v := ?vs11_12) rfl (by kernel_rfl) (by kernel_rfl) (by kernel_rfl) (fun _ _ _ h => h) (Or.inl ⟨by rfl, ?hys11_12⟩) (by assumption) ?rests11_12
      case hys11_12 => (intro w hSw; (try dsimp only at hSw); go_simp; first | done | rfl)
      try simp only [List.getElem_toArray, List.getElem_cons_succ, List.getElem_cons_zero, Act.put, List.setIfInBounds_toArray, List.set_cons_zero, List.set_cons_succ]
      refine wpAnyH_ready (rs := [12]) (by kernel_rfl) (by simp) ?_
      refine (AllReadyH.cons (o := _) rfl (fun K hK => ?rs12_13) AllReadyH.nil)
      case rs12_13 =>
        simp only [List.getElem_toArray, List.getElem_cons_succ, List.getElem_cons_zero]
        go_simp
        obtain ⟨Wa, hWa⟩ : ∃ W, wr.drew.alloc (.cells #[.int .i64 0, .int .i64 0] 143) = W := ⟨_, rfl⟩
        have hP := Lib.hid (show Wa.heap[wr.heap.size]? = some (.cells #[.int .i64 0, .int .i64 0] 143 (0, 0)) by rw [← hWa]; exact heap_alloc_new _ _)
        have hal : Below wr.heap.size wr.drew Wa := by rw [← hWa]; exact (Below.refl wr.heap.size wr.drew).alloc (Nat.le_refl wr.heap.size) _
        rw [show (wr.alloc (.cells #[.int .i64 0, .int .i64 0] 143)).drew = Wa from hWa]
        refine hK.out _ _ (Below.trans hHeld hal) (fun hHeld => ?_)
        clear hWa hal
        obtain ⟨p0, p1, pf⟩ := two_at hP.out
        clear hK K
        try simp only [List.getElem_toArray, List.getElem_cons_succ, List.getElem_cons_zero, Act.put, List.setIfInBounds_toArray, List.set_cons_zero, List.set_cons_succ]
        refine wpAnyH_ready (rs := [13]) (by kernel_rfl) (by simp) ?_
        refine (AllReadyH.cons (o := _) rfl (fun K hK => ?rs13_14) AllReadyH.nil)
        case rs13_14 =>
          simp only [List.getElem_toArray, List.getElem_cons_succ, List.getElem_cons_zero]
          go_simp
          obtain ⟨Ws, hWs, hQ, hQb⟩ := st2b (.int .i64 k.x) (.int .i64 (k.y + 1)) hP.out (Nat.le_refl wr.heap.size)
          rw [hWs]
          refine hK.out _ _ (Below.trans hHeld hQb) (fun hHeld => ?_)
          replace hP := Lib.hid hQ
          clear hWs hQ hQb p0 p1 pf
          obtain ⟨p0, p1, pf⟩ := two_at hP.out
          clear hK K
          try simp only [List.getElem_toArray, List.getElem_cons_succ, List.getElem_cons_zero, Act.put, List.setIfInBounds_toArray, List.set_cons_zero, List.set_cons_succ]
          refine wpAnyH_done (by kernel_rfl) ?_ _
          have B5 := Lib.hid hHeld
          obtain ⟨e0, e1, e2⟩ := CR hHeld
          rcases hcase with ⟨hs, hall⟩ | ⟨hs, hall⟩ | hs
          · have HYE := Lib.hid (hyes hs hall)
            have g1 : k.s < 0 := by omega
            go_wp2_with fail
            refine (refHasMesh _ c l _ k.x (k.y + 1) _ rfl (by omega) (by omega) (by omega) (by omega) (by omega) (HR.out.below (hbT hb B5.out))).mono ?_
            rintro e w7 ⟨rfl, hb7⟩
            rw [hall]
            replace B5 := hbT B5.out hb7
            obtain ⟨p0, p1, pf⟩ := two_at ((hb7.block _ (Array.getElem?_eq_some_iff.1 hP.out).1).trans hP.out)
            clear hb7 hP e0 e1 e2 hyes hno
            have hO5 := ownsRow_below hown.out B5
            have hz5 := Below.size B5
            have hb5 := hbT hb B5
            clear hown
            go_wp2_with (at_builtin; refine wpList_append_own _ rfl _ _ 78 rfl w.heap.size 143 ib (.agg #[.int .i64 0, .int .i64 0]) 2 16 undRM HIB.out HB0.out HB1.out HB2.out rfl (by decide) _ _ _ rfl (World.ownsRow.alloc hO5 _) ⟨w7.heap.size, 0, none⟩ 1 1 [.int .i64 k.x, .int .i64 (k.y + 1)] rfl rfl (two_new _ _ _ _) ?c2 ?c3 ?c4 ?c5 ?_)
            case c2 => intro u hu; simp at hu; rcases hu with rfl | rfl <;> rfl
            case c3 => unfold maxLen; omega
            case c4 => omega
            case c5 => simp; omega
            intro v' w8 hown8 hgrow8 _
            have B8 : Below w.heap.size w w8 := (hb5.alloc (by omega) _).grown hgrow8 (by simp; omega) (ownsRow_base hO5)
            have HO8 := Lib.hid hown8
            clear hown8 hgrow8 hO5
            go_wp2
            go_roundw
            case rel => exact ⟨j + 1, by omega, by go_num, Lib.hid (by rw [HYE.out, List.length_append, mcells_snoc]; exact HO8.out), B8⟩
            case measure => simp [intOf]; omega
          · have HNO := Lib.hid (hno (fun _ => hall))
            have g1 : k.s < 0 := by omega
            go_wp2_with fail
            refine (refHasMesh _ c l _ k.x (k.y + 1) _ rfl (by omega) (by omega) (by omega) (by omega) (by omega) (HR.out.below (hbT hb B5.out))).mono ?_
            rintro e w7 ⟨rfl, hb7⟩
            rw [hall]
            replace B5 := hbT B5.out hb7
            obtain ⟨p0, p1, pf⟩ := two_at ((hb7.block _ (Array.getElem?_eq_some_iff.1 hP.out).1).trans hP.out)
            clear hb7 hP e0 e1 e2 hyes hno
            have hO5 := Lib.hid (ownsRow_below hown.out B5)
            have BB := Lib.hid (hbT hb B5)
            clear hown
            go_wp2
            go_roundw
            case rel => exact ⟨j + 1, by omega, by go_num, Lib.hid (by rw [HNO.out]; exact hO5.out), BB.out⟩
            case measure => simp [intOf]; omega
          · have HNO := Lib.hid (hno (fun h => absurd h hs))
            have g1 : ¬ k.s < 0 := by have := ks1'.out; omega
            replace B5 := B5.out
            clear hP hyes hno
            have hO5 := Lib.hid (ownsRow_below hown.out B5)
            have BB := Lib.hid (hbT hb B5)
            clear hown
            go_wp2
            go_roundw
            case rel => exact ⟨j + 1, by omega, by go_num, Lib.hid (by rw [HNO.out]; exact hO5.out), BB.out⟩
            case measure => simp [intOf]; omega
    · obtain rfl : j = l.length := by omega
      have h9 := hown.out
      rw [List.take_length, HU.out] at h9
      have HO := Lib.hid h9
      clear h9 hown hln
      go_wp2
      go_ret
      exact ⟨_, rfl, HO.out, hb⟩
end Go.Proofs.YtdeplhihcifmeaaGreatDoor

/- Degree of the program with an error; the lists of pairs as slices of the way. -/
namespace Go.Proofs.YtdeplhihcifmeaaGreatDoor
open Go.RowKit Go.Shelf Ck

def KPair (ks : List Knot) (w : World) (e : Ending) (w' : World) : Prop := ∃ a c, e = .returned (.tuple #[.slice a ks.length c, .int .i64 0]) ∧ OKP w' a c ks ∧ Below w.heap.size w w'
def KSlice (ks : List Knot) (w : World) (e : Ending) (w' : World) : Prop := ∃ a c, e = .returned (.slice a ks.length c) ∧ OKP w' a c ks ∧ Below w.heap.size w w'
theorem KPair.of {ks : List Knot} {w : World} {t : TypeId} {e : Ending} {w' : World} (h : ∃ v, e = .returned (.tuple #[v, .int .i64 0]) ∧ w'.ownsRow w.heap.size t 2 v ks.length (kcellsL ks) ∧ Below w.heap.size w w') : KPair ks w e w' := by
  obtain ⟨v, rfl, h, hb⟩ := h
  obtain ⟨a, c, rfl, ok⟩ := own_okp h
  exact ⟨a, c, rfl, ok, hb⟩
theorem KSlice.of {ks : List Knot} {w : World} {t : TypeId} {e : Ending} {w' : World} (h : ∃ v, e = .returned v ∧ w'.ownsRow w.heap.size t 2 v ks.length (kcellsL ks) ∧ Below w.heap.size w w') : KSlice ks w e w' := by
  obtain ⟨v, rfl, h, hb⟩ := h
  obtain ⟨a, c, rfl, ok⟩ := own_okp h
  exact ⟨a, c, rfl, ok, hb⟩
theorem knotsR (A : Option Addr) (c : Nat) (l : List Bar) (u : List Knot) (w : World) (hu : knotsL l = u) (hl : l.length ≤ 4096) (hN : Net l) (h : OKS w A c l) : Calls Tryz.prog 47 #[.slice A l.length c] w (KSlice u w) :=
  (refKnots A c l u w hu hl hN.1 h).mono fun _ _ h => KSlice.of h
theorem meshesR (A : Option Addr) (c : Nat) (l : List Bar) (u : List Knot) (w : World) (hu : meshK (meshL l l) = u) (hl : l.length ≤ 4096) (hN : Net l) (h : OKS w A c l) : Calls Tryz.prog 51 #[.slice A l.length c] w (KSlice u w) :=
  (refMeshes A c l _ w rfl hl hN.1 h).mono fun _ _ h => by
    obtain ⟨v, he, h, hb⟩ := h
    rw [meshK_cells, ← meshK_length, hu] at h
    exact KSlice.of ⟨v, he, h, hb⟩
end Go.Proofs.YtdeplhihcifmeaaGreatDoor

/- The parts of a net are counted; Parts and Count of the program with and without an error; Count of the reference. -/
namespace Go.Proofs.YtdeplhihcifmeaaGreatDoor
open Go.RowKit Go.Shelf Ck

open Classical in
theorem PartsAre.exist {l : List Bar} (hs : l.Pairwise Blt) : ∃ G, PartsAre l G ∧ PartsIs l G.length := by
  have key : ∀ i, i ≤ l.length → ∃ G, PartsTo l i G ∧ ∀ n, CntIs l ((l.take i).map Bar.lo).reverse (l.drop i) n → CntIs l [] l (G.length + n) := by
    intro i
    induction i with
    | zero => exact fun _ => ⟨[], PartsTo.start l, fun n hn => by simpa using hn⟩
    | succ i ih =>
      intro hi
      have hi' : i < l.length := by omega
      obtain ⟨G, h, hc⟩ := ih (by omega)
      by_cases hf : ∃ g ∈ G, l[i] ∈ g
      · refine ⟨G, h.old hi' hf, fun n hn => hc n ?_⟩
        rw [List.drop_eq_getElem_cons hi']
        obtain ⟨g, hg, hb⟩ := hf
        obtain ⟨a, ha, ha2⟩ := h.hd g hg
        have hag : a ∈ g := List.mem_of_head? ha
        exact .old (seen_iff.2 ⟨a, ha2, (h.cls g hg a hag _ (List.getElem_mem hi')).1 hb⟩) (by rw [seen_succ hi'] at hn; exact hn)
      · refine ⟨G ++ [l.filter fun c => decide (Conn l l[i].lo c.lo)], h.fresh hs hi' hf (hs.filter _) (fun y => by simp [List.mem_filter]), fun n hn => ?_⟩
        rw [List.length_append, show G.length + [l.filter fun c => decide (Conn l l[i].lo c.lo)].length + n = G.length + (n + 1) by simp; omega]
        refine hc (n + 1) ?_
        rw [List.drop_eq_getElem_cons hi']
        refine .fresh (fun hx => ?_) (by rw [seen_succ hi'] at hn; exact hn)
        obtain ⟨b, hb, hbc⟩ := seen_iff.1 hx
        obtain ⟨g, hg, hbg⟩ := h.all b hb
        exact hf ⟨g, hg, (h.cls g hg b hbg _ (List.getElem_mem hi')).2 hbc⟩
  obtain ⟨G, h, hc⟩ := key l.length (Nat.le_refl _)
  exact ⟨G, h.done, hc 0 (by rw [List.drop_length]; exact .nil _)⟩
theorem PartsAre.is {l : List Bar} {G : List (List Bar)} (hs : l.Pairwise Blt) (h : PartsAre l G) : PartsIs l G.length := by
  obtain ⟨G', h', hc⟩ := PartsAre.exist hs
  rw [h.unique h']
  exact hc
def NPair (G : List (List Bar)) (w : World) (e : Ending) (w' : World) : Prop := ∃ a c, e = .returned (.tuple #[.slice a G.length c, .int .i64 0]) ∧ OKN w' a c G ∧ Below w.heap.size w w'
def NSlice (G : List (List Bar)) (w : World) (e : Ending) (w' : World) : Prop := ∃ a c, e = .returned (.slice a G.length c) ∧ OKN w' a c G ∧ Below w.heap.size w w'
theorem partsR (A : Option Addr) (c : Nat) (l : List Bar) (G : List (List Bar)) (w : World) (hG : PartsAre l G) (hl : l.length ≤ 4096) (hN : Net l) (h : OKS w A c l) : Calls Tryz.prog 55 #[.slice A l.length c] w (NSlice G w) :=
  (refParts A c l w hl hN h).mono fun _ _ ⟨v, G', he, hP, _, hF, hb⟩ => by
    rw [hP.unique hG] at hF
    obtain ⟨a, c', rfl, ok⟩ := hF.okn
    exact ⟨a, c', he, ok, hb⟩
set_option maxHeartbeats 1000000 in
set_option maxRecDepth 100000 in
theorem partsP (A : Option Addr) (c : Nat) (l : List Bar) (G : List (List Bar)) (w : World) (hG : PartsAre l G) (hl : l.length ≤ 4096) (hN : Net l) (h : OKS w A c l) :
    Calls Tryz.prog 52 #[.slice A l.length c] w (NPair G w) := by
  have HO := Lib.hid h
  have HN := Lib.hid hN
  have HG := Lib.hid hG
  have HE := Lib.hid ((netE_zero l).2 ⟨hl, hN⟩)
  clear h hN hG
  go_enter Tryz.func52, Tryz.ntmps52
  go_wp2_with fail
  refine (netCheckNetA A c l _ HO.out).mono ?_
  rintro e w1 ⟨rfl, hb1⟩
  rw [HE.out]
  go_wp2_with fail
  refine (netPartsOfX A c l _ hl HN.out.2 HN.out.1 (HO.out.below hb1).2.2.2).mono ?_
  rintro e w2 ⟨v, G', rfl, hP, -, hF, hb2⟩
  rw [hP.unique HG.out] at hF
  obtain ⟨a, c', rfl, ok⟩ := hF.okn
  have HK := Lib.hid ok
  clear hP hF ok
  go_wp2
  go_ret2
  exact ⟨a, c', rfl, HK.out, hb1.trans (hb2.mono hb1.size)⟩
set_option maxHeartbeats 1000000 in
set_option maxRecDepth 100000 in
theorem netPartsBad (A : Option Addr) (c : Nat) (l : List Ck.Bar) (E : Int) (w : World) (h : OKS w A c l) (hE : netE l = E) (hne : E ≠ 0) :
    Calls Tryz.prog 52 #[.slice A l.length c] w fun e w' => e = .returned (.tuple #[.slice none 0 0, .int .i64 E]) ∧ Below w.heap.size w w' := by
  have HO := Lib.hid h
  have HE := Lib.hid hE
  have hn0 : (E != 0) = true := by rw [bne_iff_ne]; exact hne
  clear h hE hne
  go_enter Tryz.func52, Tryz.ntmps52
  go_wp2_with fail
  refine (netCheckNetA A c l _ HO.out).mono ?_
  rintro e w1 ⟨rfl, hb1⟩
  rw [HE.out]
  go_wp2
  go_ret2
  exact ⟨rfl, hb1⟩
set_option maxHeartbeats 1000000 in
set_option maxRecDepth 100000 in
theorem netCountBad (A : Option Addr) (c : Nat) (l : List Ck.Bar) (E : Int) (w : World) (h : OKS w A c l) (hE : netE l = E) (hne : E ≠ 0) :
    Calls Tryz.prog 53 #[.slice A l.length c] w fun e w' => e = .returned (.tuple #[.agg #[.int .i64 0, .int .i64 0, .int .i64 0, .int .i64 0, .int .i64 0], .int .i64 E]) ∧ Below w.heap.size w w' := by
  have HO := Lib.hid h
  have HE := Lib.hid hE
  have hn0 : (E != 0) = true := by rw [bne_iff_ne]; exact hne
  clear h hE hne
  obtain ⟨w0, hw0, h0, hb0, hz0⟩ := box5H w (.int .i64 0) (.int .i64 0) (.int .i64 0) (.int .i64 0) (.int .i64 0) 86
  have HW0 := Lib.hid hw0
  have HH0 := Lib.hid h0
  have HZ0 := Lib.hid hz0
  clear hw0 h0 hz0
  go_enter Tryz.func53, Tryz.ntmps53
  go_wp2_with fail
  rw [← HW0.out]
  refine (netCheckNetA A c l _ (HO.out.below hb0)).mono ?_
  rintro e w1 ⟨rfl, hb1⟩
  rw [HE.out]
  have h0 := (hb1.block _ (by rw [HZ0.out]; omega)).trans HH0.out
  obtain ⟨d0, d1, d2, d3, d4, -⟩ := five_of_block h0
  have f0 := fiveF h0 0
  have f1 := fiveF h0 1
  have f2 := fiveF h0 2
  have f3 := fiveF h0 3
  have f4 := fiveF h0 4
  obtain ⟨s0, g0⟩ := setBlockAt h0 0 (.int .i64 0)
  obtain ⟨s1, g1⟩ := setBlockAt s0 1 (.int .i64 0)
  obtain ⟨s2, g2⟩ := setBlockAt s1 2 (.int .i64 0)
  obtain ⟨s3, g3⟩ := setBlockAt s2 3 (.int .i64 0)
  obtain ⟨s4, g4⟩ := setBlockAt s3 4 (.int .i64 0)
  have bq : Below w.heap.size w w1 := hb0.trans (hb1.mono hb0.size)
  have t0 := bq.grown g0 bq.size (fun j e => by cases e; exact Nat.le_refl _)
  have t1 := t0.grown g1 t0.size (fun j e => by cases e; exact Nat.le_refl _)
  have t2 := t1.grown g2 t1.size (fun j e => by cases e; exact Nat.le_refl _)
  have t3 := t2.grown g3 t2.size (fun j e => by cases e; exact Nat.le_refl _)
  have HT := Lib.hid (t3.grown g4 t3.size (fun j e => by cases e; exact Nat.le_refl _))
  have HS4 := Lib.hid (show _ = some (Obj.cells #[.int .i64 0, .int .i64 0, .int .i64 0, .int .i64 0, .int .i64 0] 86 (0, 0)) from s4)
  clear s0 s1 s2 s3 s4 g0 g1 g2 g3 g4 t0 t1 t2 t3 bq h0 hb1
  go_wp2
  obtain ⟨r0, r1, r2, r3, r4, -⟩ := five_of_block HS4.out
  refine bodyPost_ret (v := .tuple #[.agg #[.int .i64 0, .int .i64 0, .int .i64 0, .int .i64 0, .int .i64 0], .int .i64 E]) (by simp [results, Tryz.results53, go_sem, r0, r1, r2, r3, r4]) rfl ⟨rfl, HT.out⟩
theorem countP' (A : Option Addr) (c : Nat) (l : List Bar) (G : List (List Bar)) (w : World) (k m p h5 : Int) (hk : k = (nK l : Nat)) (hm : m = (nM l : Nat)) (hp : p = (G.length : Nat)) (h5e : h5 = (l.length : Int) - k + p - m) (hG : PartsAre l G) (hl : l.length ≤ 4096) (hN : Net l) (h : OKS w A c l) :
    Calls Tryz.prog 53 #[.slice A l.length c] w fun e w' => e = .returned (.tuple #[.agg #[.int .i64 k, .int .i64 (l.length : Int), .int .i64 m, .int .i64 p, .int .i64 h5], .int .i64 0]) ∧ Below w.heap.size w w' :=
  (netCount A c l w hl h.1 h.2.1 hN h.2.2.2).mono fun _ _ ⟨q, hq, he, hb⟩ => by
    have : q = G.length := hq.det (hG.is hN.2)
    subst this
    refine ⟨?_, hb⟩
    rw [he, h5e, hk, hm, hp]
theorem eqCountsR (a b c d e : Int) (w : World) : (Op.equalIn 10000 91 (.agg #[.int .i64 a, .int .i64 b, .int .i64 c, .int .i64 d, .int .i64 e]) (.agg #[.int .i64 a, .int .i64 b, .int .i64 c, .int .i64 d, .int .i64 e])).run Tryz.prog w = .ok true w := by
  have u3 := Tryz.underlying3
  have a3 := Tryz.isAgg3
  have z3 := Tryz.sizeOf3
  have hS : Tryz.prog.underlying 91 = some (.struct (Tryz.prog.fieldsOf 91)) := by kernel_rfl
  have hp : Tryz.prog.stoodInHeld 91 = false := by kernel_rfl
  rw [show (10000 : Nat) = 9999 + 1 from rfl, run_equalIn_struct w 9999 91 _ _ hS hp]
  simp only [Program.fieldsOf, Tryz.underlying91]
  go_simp
theorem guardCountsR : Tryz.prog.eqGuardType Tryz.prog.depth 91 = false := by kernel_rfl
set_option maxHeartbeats 4000000 in
set_option maxRecDepth 100000 in
theorem refCount (A : Option Addr) (c : Nat) (l : List Bar) (G : List (List Bar)) (w : World) (k m p h5 : Int) (hk : k = (nK l : Nat)) (hm : m = (nM l : Nat)) (hp : p = (G.length : Nat)) (h5e : h5 = (l.length : Int) - k + p - m) (hG : PartsAre l G) (hl : l.length ≤ 4096) (hgl : G.length ≤ l.length) (hN : Net l) (h : OKS w A c l) :
    Calls Tryz.prog 56 #[.slice A l.length c] w fun e w' => e = .returned (.agg #[.int .i64 k, .int .i64 (l.length : Int), .int .i64 m, .int .i64 p, .int .i64 h5]) ∧ Below w.heap.size w w' := by
  have hkl : (knotsL l).length = nK l := nK_eq (knotsL_nodup l) (knotsL_mem l)
  have hml : (meshK (meshL l l)).length = nM l := by rw [meshK_length, meshL_nM]
  have hk2 : 0 ≤ k ∧ k ≤ 8192 := by have := nK_le l; omega
  have hm2 : 0 ≤ m ∧ m ≤ 4096 := by have := meshL_le l l.length; rw [List.take_length] at this; rw [meshL_nM] at this; omega
  have hp2 : 0 ≤ p ∧ p ≤ 4096 := by omega
  have hll : (0 : Int) ≤ (l.length : Int) ∧ (l.length : Int) ≤ 4096 := by omega
  obtain ⟨ks, hks⟩ : ∃ ks, knotsL l = ks := ⟨_, rfl⟩
  obtain ⟨ms, hms⟩ : ∃ ms, meshK (meshL l l) = ms := ⟨_, rfl⟩
  rw [hks] at hkl
  rw [hms] at hml
  have KL : (ks.length : Int) = k := by rw [hk, hkl]
  have ML : (ms.length : Int) = m := by rw [hm, hml]
  have PL : (G.length : Int) = p := hp.symm
  have HKS := Lib.hid hks
  have HMS := Lib.hid hms
  obtain ⟨w0, hw0, h0, hb0, hz0⟩ := box5H w (.int .i64 0) (.int .i64 0) (.int .i64 0) (.int .i64 0) (.int .i64 0) 91
  have HW0 := Lib.hid hw0
  have HH0 := Lib.hid h0
  have HZ0 := Lib.hid hz0
  have HO := Lib.hid h
  have HN := Lib.hid hN
  have HG := Lib.hid hG
  have H5 := Lib.hid h5e
  have n1 : IntKind.i64.wrap ((l.length : Int) - k) = (l.length : Int) - k := by rw [IntKind.wrap_i64]; omega
  have n2 : IntKind.i64.wrap ((l.length : Int) - k + p) = (l.length : Int) - k + p := by rw [IntKind.wrap_i64]; omega
  have n3 : IntKind.i64.wrap ((l.length : Int) - k + p - m) = (l.length : Int) - k + p - m := by rw [IntKind.wrap_i64]; omega
  clear h hN hG hw0 h0 hz0 hk hm hp h5e hkl hml hks hms
  go_enter Tryz.func56, Tryz.ntmps56
  go_wp2_with fail
  rw [← HW0.out]
  refine (knotsR A c l ks _ HKS.out hl HN.out (HO.out.below hb0)).mono ?_
  rintro e w1 ⟨a1, c1, rfl, -, hb1⟩
  have B1 := hb0.trans (hb1.mono hb0.size)
  go_wp2_with fail
  refine (meshesR A c l ms _ HMS.out hl HN.out (HO.out.below B1)).mono ?_
  rintro e w2 ⟨a2, c2, rfl, -, hb2⟩
  have B2 := B1.trans (hb2.mono B1.size)
  go_wp2_with fail
  refine (partsR A c l G _ HG.out hl HN.out (HO.out.below B2)).mono ?_
  rintro e w3 ⟨a3, c3, rfl, -, hb3⟩
  have B3 := B2.trans (hb3.mono B2.size)
  have z1 := hb1.size
  have z2 := hb2.size
  have z3 := hb3.size
  have z0 := HZ0.out
  have h3 := (hb3.block _ (by omega)).trans ((hb2.block _ (by omega)).trans ((hb1.block _ (by omega)).trans HH0.out))
  obtain ⟨r0, r1, r2, r3, r4, rf⟩ := five_of_block h3
  have HR3 := Lib.hid h3
  have hz3 : w.heap.size < w3.heap.size := by omega
  clear h3 hb1 hb2 hb3 B1 B2 z1 z2 z3 z0
  go_wp2
  exact bodyPost_ret (v := .agg #[.int .i64 k, .int .i64 (l.length : Int), .int .i64 m, .int .i64 p, .int .i64 ((l.length : Int) - k + p - m)]) (by simp [results, Tryz.results56, go_sem, r0, r1, r2, r3, r4, hz3]) rfl
    ⟨by rw [H5.out], (((((B3.setCell (Nat.le_refl _) _).setCell (Nat.le_refl _) _).setCell (Nat.le_refl _) _).setCell (Nat.le_refl _) _).setCell (Nat.le_refl _) _).alloc (by simp; omega) _⟩
end Go.Proofs.YtdeplhihcifmeaaGreatDoor

/- The law of NettingParts. -/
namespace Go.Proofs.YtdeplhihcifmeaaGreatDoor
open Go.RowKit Go.Shelf Ck

/-- A box of the numbers of a net. -/
def FiveC (w : World) (b : Nat) (cs : Array Value) : Prop := b < w.heap.size ∧ w.heap[b]? = some (.cells cs 86 (0, 0))
theorem cntLe {l : List Bar} : ∀ {r : List Bar} {seen : List Knot} {n : Nat}, CntIs l seen r n → n ≤ r.length
  | [], _, _, .nil _ => Nat.le_refl _
  | _ :: _, _, _, .old _ h => Nat.le_succ_of_le (cntLe h)
  | _ :: _, _, _, .fresh _ h => Nat.succ_le_succ (cntLe h)
theorem FiveC.below {w w' : World} {b : Nat} {cs : Array Value} (h : FiveC w b cs) (hb : Below w.heap.size w w') : FiveC w' b cs := ⟨Nat.lt_of_lt_of_le h.1 hb.size, (hb.block _ h.1).trans h.2⟩
theorem FiveC.at5 {w : World} {g : Nat} {a b c d e : Value} (h : FiveC w g #[a, b, c, d, e]) : w.cell? ⟨g, 0, none⟩ = some a ∧ w.cell? ⟨g, 1, none⟩ = some b ∧ w.cell? ⟨g, 2, none⟩ = some c ∧ w.cell? ⟨g, 3, none⟩ = some d ∧ w.cell? ⟨g, 4, none⟩ = some e := by
  obtain ⟨c0, c1, c2, c3, c4, -⟩ := five_of_block h.2
  exact ⟨c0, c1, c2, c3, c4⟩
set_option maxHeartbeats 16000000 in
set_option maxRecDepth 100000 in
theorem lawPtL (A : Option Addr) (c : Nat) (l : List Bar) (w : World) (hL : LaidLen w) (hO : OKS w A c l) (hS : ∀ W : World, Calls Tryz.prog 16 #[.slice A l.length c, .int .i64 40] W fun e w' => e = .returned (.bool false) ∧ W = w') :
    Calls Tryz.prog 7 #[.slice A l.length c] w fun e w' => e = .returned (.bool true) ∧ Below w.heap.size w w' := by
  have ex0 : ∀ (a b : Value) (w : World), (Instr.extract (.tuple #[a, b]) 0).run Tryz.prog w = .ok a w := fun _ _ _ => by kernel_rfl
  have ex1 : ∀ (a b : Value) (w : World), (Instr.extract (.tuple #[a, b]) 1).run Tryz.prog w = .ok b w := fun _ _ _ => by kernel_rfl
  have HLL := Lib.hid hL
  have HO := Lib.hid hO
  have fin : ∀ {W : World}, Below w.heap.size w W → Below w.heap.size w W := fun hb => hb
  have BW := Below.refl w.heap.size w
  clear hL hO
  go_enter Tryz.func7, Tryz.ntmps7
  go_wp2_with fail
  refine (awake1 _ (HLL.out.below (fin BW) HLL.out.lt)).mono ?_
  rintro e w11 ⟨rfl, hb11⟩
  replace BW := hbT BW hb11
  clear hb11
  go_wp2_with fail
  refine (hS _).mono ?_
  rintro e w12 ⟨rfl, rfl⟩
  go_wp2_with fail
  refine (awake1 _ (HLL.out.below (fin BW) HLL.out.lt)).mono ?_
  rintro e w13 ⟨rfl, hb13⟩
  replace BW := hbT BW hb13
  clear hb13
  go_wp2
  go_ret
  exact ⟨rfl, fin BW⟩
set_option maxHeartbeats 16000000 in
set_option maxRecDepth 100000 in
theorem lawPtB (A : Option Addr) (c : Nat) (l : List Bar) (w : World) (hL : LaidLen w) (hO : OKS w A c l) (hS : ∀ W : World, Calls Tryz.prog 16 #[.slice A l.length c, .int .i64 40] W fun e w' => e = .returned (.bool true) ∧ W = w') (hlm : l.length ≤ 4098) (E : Int) (hE : netE l = E) (hne : E ≠ 0) :
    Calls Tryz.prog 7 #[.slice A l.length c] w fun e w' => e = .returned (.bool true) ∧ Below w.heap.size w w' := by
  have ex0 : ∀ (a b : Value) (w : World), (Instr.extract (.tuple #[a, b]) 0).run Tryz.prog w = .ok a w := fun _ _ _ => by kernel_rfl
  have ex1 : ∀ (a b : Value) (w : World), (Instr.extract (.tuple #[a, b]) 1).run Tryz.prog w = .ok b w := fun _ _ _ => by kernel_rfl
  have HLL := Lib.hid hL
  have HO := Lib.hid hO
  have fin : ∀ {W : World}, Below w.heap.size w W → Below w.heap.size w W := fun hb => hb
  have BW := Below.refl w.heap.size w
  have HS := Lib.hid hS
  have HE := Lib.hid hE
  have HNE := Lib.hid hne
  have en0 : (E != 0) = true := by rw [bne_iff_ne]; exact hne
  have q5 := eqCountsSame 0 0 0 0 0
  have qg := guardCounts
  clear hS hE hne
  clear hL hO
  go_enter Tryz.func7, Tryz.ntmps7
  go_wp2_with fail
  refine (awake1 _ (HLL.out.below (fin BW) HLL.out.lt)).mono ?_
  rintro e w11 ⟨rfl, hb11⟩
  replace BW := hbT BW hb11
  clear hb11
  go_wp2_with fail
  refine (HS.out _).mono ?_
  rintro e w12 ⟨rfl, rfl⟩
  go_wp2_with fail
  refine (lwCopied A c l _ hlm (HO.out.below (fin BW))).mono ?_
  rintro e w13 ⟨a13, c13, rfl, o13, hb13⟩
  replace BW := hbT BW hb13
  have O13 := Lib.hid o13
  clear o13 hb13
  go_wp2_with fail
  refine (netPartsBad a13 c13 l E _ O13.out HE.out HNE.out).mono ?_
  rintro e w14 ⟨rfl, hb14⟩
  replace BW := hbT BW hb14
  replace O13 := Lib.hid (O13.out.below hb14)
  clear hb14
  clear O13
  go_wp2_with fail
  refine (lwCopied A c l _ hlm (HO.out.below (fin BW))).mono ?_
  rintro e w15 ⟨a15, c15, rfl, o15, hb15⟩
  replace BW := hbT BW hb15
  have O15 := Lib.hid o15
  clear o15 hb15
  go_wp2_with fail
  refine (netCountBad a15 c15 l E _ O15.out HE.out HNE.out).mono ?_
  rintro e w16 ⟨rfl, hb16⟩
  replace BW := hbT BW hb16
  replace O15 := Lib.hid (O15.out.below hb16)
  clear hb16
  clear O15
  go_wp2_with fail
  obtain ⟨w17, hw, LG, hbq, LZ⟩ := box5H w16 (.int .i64 0) (.int .i64 0) (.int .i64 0) (.int .i64 0) (.int .i64 0) 86
  rw [← hw]
  have LF := Lib.hid (show FiveC w17 w16.heap.size #[.int .i64 0, .int .i64 0, .int .i64 0, .int .i64 0, .int .i64 0] from ⟨by omega, LG⟩)
  replace BW := hbT BW hbq
  clear hw LZ LG hbq
  generalize w16.heap.size = BL at *
  go_wp2_with fail
  refine (refCheckNetA A c l _ (HO.out.below (fin BW))).mono ?_
  rintro e w18 ⟨rfl, hb18⟩
  rw [HE.out]
  replace BW := hbT BW hb18
  replace LF := Lib.hid (LF.out.below hb18)
  clear hb18
  obtain ⟨t0, t1, t2, t3, t4⟩ := LF.out.at5
  go_wp2
  go_ret
  exact ⟨rfl, fin BW⟩
set_option maxHeartbeats 16000000 in
set_option maxRecDepth 100000 in
theorem lawPtO (A : Option Addr) (c : Nat) (l : List Bar) (w : World) (hL : LaidLen w) (hO : OKS w A c l) (hS : ∀ W : World, Calls Tryz.prog 16 #[.slice A l.length c, .int .i64 40] W fun e w' => e = .returned (.bool true) ∧ W = w') (hl : l.length ≤ 40) (hN : Net l) (G : List (List Bar)) (hG : PartsAre l G) (hgl : G.length ≤ l.length) (k m p h5 : Int) (hk : k = (nK l : Nat)) (hm : m = (nM l : Nat)) (hp : p = (G.length : Nat)) (h5e : h5 = (l.length : Int) - k + p - m) :
    Calls Tryz.prog 7 #[.slice A l.length c] w fun e w' => e = .returned (.bool true) ∧ Below w.heap.size w w' := by
  have ex0 : ∀ (a b : Value) (w : World), (Instr.extract (.tuple #[a, b]) 0).run Tryz.prog w = .ok a w := fun _ _ _ => by kernel_rfl
  have ex1 : ∀ (a b : Value) (w : World), (Instr.extract (.tuple #[a, b]) 1).run Tryz.prog w = .ok b w := fun _ _ _ => by kernel_rfl
  have HLL := Lib.hid hL
  have HO := Lib.hid hO
  have fin : ∀ {W : World}, Below w.heap.size w W → Below w.heap.size w W := fun hb => hb
  have BW := Below.refl w.heap.size w
  have HN := Lib.hid hN
  have HG := Lib.hid hG
  have HK := Lib.hid hk
  have HM := Lib.hid hm
  have HP := Lib.hid hp
  have H5 := Lib.hid h5e
  have HS := Lib.hid hS
  have hlm : l.length ≤ 4098 := by omega
  have HE := Lib.hid ((netE_zero l).2 ⟨by omega, hN⟩)
  have q5 := eqCountsR k (l.length : Int) m p h5
  have qg := guardCountsR
  clear hN hG hk hm hp h5e hS
  clear hL hO
  go_enter Tryz.func7, Tryz.ntmps7
  go_wp2_with fail
  refine (awake1 _ (HLL.out.below (fin BW) HLL.out.lt)).mono ?_
  rintro e w11 ⟨rfl, hb11⟩
  replace BW := hbT BW hb11
  clear hb11
  go_wp2_with fail
  refine (HS.out _).mono ?_
  rintro e w12 ⟨rfl, rfl⟩
  go_wp2_with fail
  refine (lwCopied A c l _ hlm (HO.out.below (fin BW))).mono ?_
  rintro e w13 ⟨a13, c13, rfl, o13, hb13⟩
  replace BW := hbT BW hb13
  have O13 := Lib.hid o13
  clear o13 hb13
  go_wp2_with fail
  refine (partsP a13 c13 l G _ HG.out (by omega) HN.out O13.out).mono ?_
  rintro e w14 ⟨a14, c14, rfl, o14, hb14⟩
  replace BW := hbT BW hb14
  replace O13 := Lib.hid (O13.out.below hb14)
  have O14 := Lib.hid o14
  clear o14 hb14
  clear O13
  go_wp2_with fail
  refine (lwCopied A c l _ hlm (HO.out.below (fin BW))).mono ?_
  rintro e w15 ⟨a15, c15, rfl, o15, hb15⟩
  replace BW := hbT BW hb15
  replace O14 := Lib.hid (O14.out.below hb15)
  have O15 := Lib.hid o15
  clear o15 hb15
  go_wp2_with fail
  refine (countP' a15 c15 l G _ k m p h5 HK.out HM.out HP.out H5.out HG.out (by omega) HN.out O15.out).mono ?_
  rintro e w16 ⟨rfl, hb16⟩
  replace BW := hbT BW hb16
  replace O14 := Lib.hid (O14.out.below hb16)
  replace O15 := Lib.hid (O15.out.below hb16)
  clear hb16
  clear O15
  go_wp2_with fail
  obtain ⟨w17, hw, LG, hbq, LZ⟩ := box5H w16 (.int .i64 k) (.int .i64 (l.length : Int)) (.int .i64 m) (.int .i64 p) (.int .i64 h5) 86
  rw [← hw]
  have LF := Lib.hid (show FiveC w17 w16.heap.size #[.int .i64 k, .int .i64 (l.length : Int), .int .i64 m, .int .i64 p, .int .i64 h5] from ⟨by omega, LG⟩)
  replace BW := hbT BW hbq
  replace O14 := Lib.hid (O14.out.below hbq)
  clear hw LZ LG hbq
  generalize w16.heap.size = BL at *
  go_wp2_with fail
  refine (refCheckNetA A c l _ (HO.out.below (fin BW))).mono ?_
  rintro e w18 ⟨rfl, hb18⟩
  rw [HE.out]
  replace BW := hbT BW hb18
  replace O14 := Lib.hid (O14.out.below hb18)
  replace LF := Lib.hid (LF.out.below hb18)
  clear hb18
  go_wp2_with fail
  refine wp_region_held_drew (S := (fun w' => Below w18.heap.size w18 w')) (by kernel_rfl) ?_ (fun hHeld => ?_)
  · exact below_drew (Below.refl _ _)
  refine wpAnyH_take (i := 0) (oi := _) (v := ?ve0) rfl (by kernel_rfl) (by kernel_rfl) (by kernel_rfl) (fun _ _ _ h => h) (Or.inl ⟨by rfl, ?hye0⟩) (by assumption) ?reste0
  case hye0 => (intro w hSw; (try dsimp only at hSw); go_simp; first | done | rfl)
  try simp only [layA]
  refine wpAnyH_take (i := 1) (oi := _) (v := ?ve1) rfl (by kernel_rfl) (by kernel_rfl) (by kernel_rfl) (fun _ _ _ h => h) (Or.inl ⟨by rfl, ?hye1⟩) (by assumption) ?reste1
  case hye1 => (intro w hSw; (try dsimp only at hSw); go_simp; first | done | rfl)
  try simp only [layA]
  refine wpAnyH_take (i := 2) (oi := _) (v := ?ve2) rfl (by kernel_rfl) (by kernel_rfl) (by kernel_rfl) (fun _ _ _ h => h) (Or.inl ⟨by rfl, ?hye2⟩) (by assumption) ?reste2
  case hye2 => (intro w hSw; (try dsimp only at hSw); go_simp; first | done | rfl)
  try simp only [layA]
  refine wpAnyH_take (i := 3) (oi := _) (v := ?ve3) rfl (by kernel_rfl) (by kernel_rfl) (by kernel_rfl) (fun _ _ _ h => h) (Or.inl ⟨by rfl, ?hye3⟩) (by assumption) ?reste3
  case hye3 => (intro w hSw; (try dsimp only at hSw); go_simp; first | done | rfl)
  try simp only [layA]
  refine wpAnyH_take (i := 4) (oi := _) (v := ?ve4) rfl (by kernel_rfl) (by kernel_rfl) (by kernel_rfl) (fun _ _ _ h => h) (Or.inl ⟨by rfl, ?hye4⟩) (by assumption) ?reste4
  case hye4 => (intro w hSw; (try dsimp only at hSw); go_simp; first | done | rfl)
  try simp only [layA]
  refine wpAnyH_take (i := 5) (oi := _) (v := ?ve5) rfl (by kernel_rfl) (by kernel_rfl) (by kernel_rfl) (fun _ _ _ h => h) (Or.inl ⟨by rfl, ?hye5⟩) (by assumption) ?reste5
  case hye5 => (intro w hSw; (try dsimp only at hSw); go_simp; first | done | rfl)
  try simp only [layA]
  refine wpAnyH_take (i := 6) (oi := _) (v := ?ve6) rfl (by kernel_rfl) (by kernel_rfl) (by kernel_rfl) (fun _ _ _ h => h) (Or.inl ⟨by rfl, ?hye6⟩) (by assumption) ?reste6
  case hye6 => (intro w hSw; (try dsimp only at hSw); go_simp; first | done | rfl)
  try simp only [layA]
  refine wpAnyH_ready (rs := [7]) (by kernel_rfl) (by simp) ?_
  refine AllReadyH.cons (o := _) rfl (fun K hK => ?_) AllReadyH.nil
  simp only [layG]
  rw [if_pos (by rfl)]
  go_simp
  go_at_call 55
  refine (partsR A c l G _ HG.out (by omega) HN.out (HO.out.below (fin (hbT BW (by assumption))))).mono ?_
  rintro e wa ⟨ak, ck, rfl, ok, hbq⟩
  refine hK.out _ _ (hbT (by assumption) hbq) (fun hHeld => ?_)
  clear hK K
  try simp only [layA]
  refine wpAnyH_ready (rs := [8]) (by kernel_rfl) (by simp) ?_
  refine AllReadyH.cons (o := _) rfl (fun K hK => ?_) AllReadyH.nil
  simp only [layG]
  rw [if_pos (by rfl)]
  go_simp
  go_at_call 54
  refine (refSameNets a14 ak c14 ck G _ (by omega) (O14.out.below hHeld) ok).mono ?_
  clear ok
  rintro e wb ⟨rfl, hbq⟩
  refine hK.out _ _ (hbT (by assumption) hbq) (fun hHeld => ?_)
  clear hK K
  try simp only [layA]
  refine wpAnyH_take (i := 9) (oi := _) (v := ?ve9) rfl (by kernel_rfl) (by kernel_rfl) (by kernel_rfl) (fun _ _ _ h => h) (Or.inl ⟨by rfl, ?hye9⟩) (by assumption) ?reste9
  case hye9 => (intro w hSw; (try dsimp only at hSw); go_simp; first | done | rfl)
  try simp only [layA]
  refine wpAnyH_take (i := 10) (oi := _) (v := ?ve10) rfl (by kernel_rfl) (by kernel_rfl) (by kernel_rfl) (fun _ _ _ h => h) (Or.inl ⟨by rfl, ?hye10⟩) (by assumption) ?reste10
  case hye10 => (intro w hSw; (try dsimp only at hSw); go_simp; first | done | rfl)
  try simp only [layA]
  refine wpAnyH_take (i := 11) (oi := _) (v := ?ve11) rfl (by kernel_rfl) (by kernel_rfl) (by kernel_rfl) (fun _ _ _ h => h) (Or.inl ⟨by rfl, ?hye11⟩) (by assumption) ?reste11
  case hye11 => (intro w hSw; (try dsimp only at hSw); obtain ⟨t0, t1, t2, t3, t4⟩ := (LF.out.below hSw).at5; go_simp; first | done | rfl)
  try simp only [layA]
  refine wpAnyH_take (i := 12) (oi := _) (v := ?ve12) rfl (by kernel_rfl) (by kernel_rfl) (by kernel_rfl) (fun _ _ _ h => h) (Or.inl ⟨by rfl, ?hye12⟩) (by assumption) ?reste12
  case hye12 => (intro w hSw; (try dsimp only at hSw); go_simp; first | done | rfl)
  try simp only [layA]
  refine wpAnyH_ready (rs := [13]) (by kernel_rfl) (by simp) ?_
  refine AllReadyH.cons (o := _) rfl (fun K hK => ?_) AllReadyH.nil
  simp only [layG]
  rw [if_pos (by rfl)]
  go_simp
  go_at_call 56
  refine (refCount A c l G _ k m p h5 HK.out HM.out HP.out H5.out HG.out (by omega) hgl HN.out (HO.out.below (fin (hbT BW (by assumption))))).mono ?_
  rintro e wc ⟨rfl, hbq⟩
  refine hK.out _ _ (hbT (by assumption) hbq) (fun hHeld => ?_)
  clear hK K
  try simp only [layA]
  refine wpAnyH_take (i := 14) (oi := _) (v := ?ve14) rfl (by kernel_rfl) (by kernel_rfl) (by kernel_rfl) (fun _ _ _ h => h) (Or.inl ⟨by rfl, ?hye14⟩) (by assumption) ?reste14
  case hye14 => (intro w hSw; (try dsimp only at hSw); go_simp; first | done | rfl)
  try simp only [layA]
  refine wpAnyH_take (i := 15) (oi := _) (v := ?ve15) rfl (by kernel_rfl) (by kernel_rfl) (by kernel_rfl) (fun _ _ _ h => h) (Or.inl ⟨by rfl, ?hye15⟩) (by assumption) ?reste15
  case hye15 => (intro w hSw; (try dsimp only at hSw); go_simp; first | done | rfl)
  try simp only [layA]
  refine wpAnyH_take (i := 16) (oi := _) (v := ?ve16) rfl (by kernel_rfl) (by kernel_rfl) (by kernel_rfl) (fun _ _ _ h => h) (Or.inl ⟨by rfl, ?hye16⟩) (by assumption) ?reste16
  case hye16 => (intro w hSw; (try dsimp only at hSw); go_simp; first | done | rfl)
  try simp only [layA]
  refine wpAnyH_done (by kernel_rfl) ?_ _
  go_wp2
  go_ret
  exact ⟨rfl, fin (hbT BW hHeld)⟩
theorem lawParts (A : Option Addr) (c : Nat) (l : List Bar) (w : World) (hL : LaidLen w) (hO : OKS w A c l) :
    Calls Tryz.prog 7 #[.slice A l.length c] w fun e w' => e = .returned (.bool true) ∧ Below w.heap.size w w' := by
  have hk : l.length ≤ maxLen := Nat.le_trans hO.1 hO.2.1
  by_cases hs : (l.length : Int) ≤ 40 ∨ (4096 < (l.length : Int) ∧ (l.length : Int) ≤ 4098)
  · have hS : ∀ W : World, Calls Tryz.prog 16 #[.slice A l.length c, .int .i64 40] W fun e w' => e = .returned (.bool true) ∧ W = w' := fun W => refShortOk A c _ 40 W hk hs
    by_cases hE : netE l = 0
    · obtain ⟨hl, hN⟩ := (netE_zero l).1 hE
      obtain ⟨G, hG, hP⟩ := PartsAre.exist hN.2
      have hgl : G.length ≤ l.length := cntLe hP
      exact lawPtO A c l w hL hO hS (by omega) hN G hG hgl _ _ _ _ rfl rfl rfl rfl
    · exact lawPtB A c l w hL hO hS (by omega) _ rfl hE
  · exact lawPtL A c l w hL hO (fun W => refShortNo A c _ 40 W hk hs)
end Go.Proofs.YtdeplhihcifmeaaGreatDoor

/- An argument that is a list of bars, opened. -/
namespace Go.Proofs.YtdeplhihcifmeaaGreatDoor
open Go.ChangeShapes Go.WideShapes Go.ChangeAt Go.RowKit Go.Deep

variable {H : Type} {enc : TypeId × Value → H} {w : World} {spare : Nat → Bool} {held : Bool}
set_option maxRecDepth 100000 in
theorem bar_cells {n : Nat} {cs : List Value} {x : DataW H × List MemPlace} (h : DataW.trod enc Tryz.prog w 0 spare held n 24 cs = some x) : ∃ b : Ck.Bar, cs = bcells b := by
  obtain ⟨xs, m, _, _, hl, hx, hf⟩ := DataW.trod_struct Tryz.underlying24 h
  have hC : Tryz.prog.cellsOf 24 = 3 := by kernel_rfl
  have c3 : Tryz.prog.cellsOf 3 = 1 := by kernel_rfl
  rw [hC] at hl
  match cs, hl, xs, hx with
  | [c0, c1, c2], _, [x0, x1, x2], _ =>
    have h0 := hf 0 _ rfl
    have h1 := hf 1 _ rfl
    have h2 := hf 2 _ rfl
    simp [c3] at h0 h1 h2
    obtain ⟨n0, e0, _⟩ := DataW.trod_int Tryz.underlying3 h0
    obtain ⟨n1, e1, _⟩ := DataW.trod_int Tryz.underlying3 h1
    obtain ⟨n2, e2, _⟩ := DataW.trod_int Tryz.underlying3 h2
    simp only [List.cons.injEq, and_true] at e0 e1 e2
    exact ⟨⟨n0, n1, n2⟩, by rw [e0, e1, e2]; rfl⟩
set_option maxRecDepth 100000 in
/-- The argument is nil, or a slice that reads as bars. -/
theorem open_bars {v : Value} {d : DataW H} {p : List MemPlace} {r : Reach} {b0 : Nat} (hv : Value.okWide Tryz.prog w r b0 22 v) (h : DataW.Trod enc Tryz.prog w 0 spare held 22 v d p) (_ : ∀ x ∈ p, x.block < w.heap.size) :
    ∃ (A : Option Addr) (c : Nat) (l : List Ck.Bar), v = .slice A l.length c ∧ (A = none → c = 0) ∧ l.length ≤ c ∧ c ≤ maxLen ∧ RB w w.heap.size A l := by
  obtain ⟨a, len, cap, rfl⟩ := okWide_slice Tryz.underlying22 hv
  obtain ⟨fuel, hf⟩ := h
  have hC : Tryz.prog.cellsOf 24 = 3 := by kernel_rfl
  rcases open_slice Tryz.underlying22 hf with ⟨hcs, _⟩ | ⟨a', len', cap', m, n, D, Pl, hcs, hb, hl, hm, hmm, hx, hi⟩
  · simp [Value.cells] at hcs
    obtain ⟨rfl, rfl, rfl⟩ := hcs
    exact ⟨none, 0, [], rfl, fun _ => rfl, Nat.zero_le _, by unfold maxLen; omega, fun h => by simp at h⟩
  · simp [Value.cells] at hcs
    obtain ⟨rfl, rfl, rfl⟩ := hcs
    rw [hC] at hi hx
    have hle : len ≤ m := by rw [hmm]; split <;> omega
    have each : ∀ i, ∃ b : Ck.Bar, i < len → w.cell? (a'.add (i * 3)) = some (.int .i64 b.x) ∧ w.cell? ((a'.add (i * 3)).add 1) = some (.int .i64 b.y) ∧ w.cell? ((a'.add (i * 3)).add 2) = some (.int .i64 b.s) := fun i => by
      by_cases hi' : i < len
      · obtain ⟨cs', h1, h2⟩ := hi i (by omega)
        obtain ⟨b, rfl⟩ := bar_cells h2
        obtain ⟨_, _, h3⟩ := World.cells?_some h1
        exact ⟨b, fun _ => ⟨h3 0 (by omega), h3 1 (by omega), h3 2 (by omega)⟩⟩
      · exact ⟨⟨0, 0, 0⟩, fun h => absurd h hi'⟩
    obtain ⟨f, hf'⟩ := Classical.axiomOfChoice each
    have hlen : ((List.range len).map f).length = len := by simp
    refine ⟨some a', cap, (List.range len).map f, by rw [hlen], (fun h => by cases h), by rw [hlen]; exact hl, hm, fun hpos => ?_⟩
    rw [hlen] at hpos
    obtain ⟨blk, off, spot⟩ := a'
    have h0 := (hf' 0 hpos).1
    have hspot : spot = none := by
      cases spot with
      | none => rfl
      | some s =>
        simp [Addr.add, World.cell?] at h0
        split at h0 <;> simp at h0
    subst hspot
    have hadd : ∀ k, (⟨blk, off, none⟩ : Addr).add k = ⟨blk, off + k, none⟩ := fun k => by
      unfold Addr.add
      split
      · simp
      · rfl
    have hblk : blk < w.heap.size := by
      rw [hadd] at h0
      unfold World.cell? at h0
      cases hh : w.heap[blk]? with
      | none => simp [hh] at h0
      | some o => exact (Array.getElem?_eq_some_iff.1 hh).1
    refine ⟨blk, off, rfl, hblk, fun i hi' => ?_⟩
    rw [hlen] at hi'
    obtain ⟨k0, k1, k2⟩ := hf' i hi'
    rw [hadd] at k0 k1 k2
    have hadd2 : ∀ k j, (⟨blk, k, none⟩ : Addr).add j = ⟨blk, k + j, none⟩ := fun k j => by
      unfold Addr.add
      split
      · simp
      · rfl
    rw [hadd2] at k1 k2
    have hg : ((List.range len).map f)[i]'(by simpa using hi') = f i := by simp
    rw [hg]
    exact ⟨k0, k1, k2⟩
end Go.Proofs.YtdeplhihcifmeaaGreatDoor
