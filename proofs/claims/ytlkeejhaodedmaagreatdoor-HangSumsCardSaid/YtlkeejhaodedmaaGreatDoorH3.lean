/- Helpers: H3. -/
import Derived.Test.YtlkeejhaodedmaaGreatDoorH2
import Derived.MapKept
import Derived.Laws.StructEq
import Derived.ChangeMaps5
/- hang: numerators, the walk. -/
namespace Go.Proofs.YtlkeejhaodedmaaGreatDoor
open Go.RowKit Go.Shelf
attribute [local go_sem] Oper.semAt_some

theorem numF_nil (N : Nat) (h : 1 ≤ N) : numF N [] = (madeCells #[Value.int .i64 0] N) := by
  apply Array.toList_inj.1
  rw [toList_madeCells_one]
  obtain ⟨k, rfl⟩ : ∃ k, N = k + 1 := ⟨N - 1, by omega⟩
  simp [numF, marksN, numsL, cntW, List.replicate_succ]
theorem numF_ints (N : Nat) (pre : List (Nat × Nat)) : (numF N pre).toList = (marksN pre ++ List.replicate (N - (cntW pre + 1)) 0).flatMap icN := by
  rw [numF, List.map_eq_flatMap]
  rfl
theorem rowOf {W : World} {g N : Nat} {pre : List (Nat × Nat)} {t : TypeId} (h : W.heap[g]? = some (.cells (numF N pre) t (0, 0))) {i : Nat} {u : Value} (hu : (numF N pre).toList[i]? = some u) : W.cell? ⟨g, i, none⟩ = some u := by
  simp [World.cell?, h]
  simpa using hu
theorem fcells_own {β : Type} (B : Nat) (t : TypeId) (f : β → Array Value) : Own (fun (s : β) W => W.heap[B]? = some (.cells (f s) t (0, 0))) := fun s X Y row hs hg hrow =>
  (hg.block B (blkSz hs) (fun e' => by obtain ⟨o', ho', hc⟩ := hrow B e'.symm; rw [hs] at ho'; cases ho'; cases hc)).trans hs
set_option maxHeartbeats 4000000 in
set_option maxRecDepth 100000 in
theorem hgNumerators (A : Option Addr) (c B : Nat) (l : List Sec) (w : World) (l1 : 1 ≤ l.length) (l2 : l.length ≤ 32) (hv : SecOk l) (hB : B ≤ 100) (hA : OKV Sec.c 3 w A c l) :
    Calls Tryz.prog 95 #[.slice A l.length c, .int .i64 B] w (SliP icN 1 (marksN (widL B l)) w) := by
  obtain ⟨i0, hi, hz0, hz1, hz2⟩ := info_parts infoHI
  have hS := sumW_wid hB hv l2
  have hwl := widL_le hB hv
  have hcn := cntW_wid B l
  have hM := fun w h => hgMeshesOf A c l w l2 (fun i hi => by obtain ⟨M, P, D, e1, -, -, v1, v2, -⟩ := hv i hi; rw [e1]; omega) h
  have hT : totM l ≤ 9600 := by
    have := totM_le (l := l) fun i hi => by obtain ⟨M, P, D, e1, -, -, v1, v2, -⟩ := hv i hi; rw [e1]; omega
    omega
  obtain ⟨T, hTd⟩ : ∃ T, totM l = T := ⟨_, rfl⟩
  rw [hTd] at hM hT hcn
  have hmk : ∀ W : World, (Instr.makeSlice 45 (.int .i64 ((T : Int) + 1)) (.int .i64 ((T : Int) + 1))).run Tryz.prog W = .ok (.slice (some ⟨W.heap.size, 0, none⟩) (T + 1) (T + 1)) (W.alloc (.cells (madeCells #[Value.int .i64 0] (T + 1)) 3)) := fun W => by
    have := run_make (P := Tryz.prog) W 45 3 i0 _ Tryz.underlying45 hi hz0 .i64 .i64 ((T + 1 : Nat) : Int) ((T + 1 : Nat) : Int) (by omega) (by omega) (by rw [hz2]; omega) (by omega)
    rw [hz1, Int.toNat_natCast, Nat.mul_one] at this
    exact this
  have hsz : (Tryz.prog.info? 3).map (·.size) = some 1 := by rw [hi, Option.map_some, hz1]
  have HSZ := Lib.hid hsz
  have HS := Lib.hid hS
  have HWL := Lib.hid hwl
  have HCN := Lib.hid hcn
  have HV := Lib.hid hv
  have HRV := Lib.hid hA.2.2.2
  have HA := Lib.hid hA
  clear hi hz0 hz1 hz2 hS hwl hcn hv hsz hTd hA
  refine (callsIn_wide (n := 5)).1 (callsIn_of_wp_marks Tryz.func95 rfl trivial (wpIn_wide.2 ?_) rfl)
  simp only [Tryz.ntmps95, List.size_toArray, List.length_cons, List.length_nil, Nat.reduceAdd, Nat.reduceSub, Array.replicate_succ, Array.replicate_zero, List.push_toArray, List.append_toArray, List.nil_append, List.cons_append]
  go_wp2_with fail
  refine (hM _ HA.out).mono ?_
  rintro e w1 ⟨rfl, hb1⟩
  clear hM HA
  go_wp2_with fail
  obtain ⟨wa, hwa, ka, hba, hza⟩ := boxS w1 (.cells (madeCells #[Value.int .i64 0] (T + 1)) 3)
  obtain ⟨wb, hwb, kb, hbb, hzb⟩ := boxS wa (.cells #[.slice (some ⟨w1.heap.size, 0, none⟩) (T + 1) (T + 1)] 45)
  obtain ⟨wc, hwc, kc, hbc, hzc⟩ := boxS wb (.cells #[.int .i64 1] 3)
  have za : wa.heap.size = w1.heap.size + 1 := by rw [← hwa]; simp
  have zb : wb.heap.size = w1.heap.size + 1 + 1 := by rw [← hwb]; simp; omega
  have zc : wc.heap.size = w1.heap.size + 1 + 1 + 1 := by rw [← hwc]; simp; omega
  rw [hwa, hwb, hwc]
  have ka2 := blkT (blkT ka hbb) hbc
  have kb2 : wc.heap[w1.heap.size + 1]? = some (.cells #[.slice (some ⟨w1.heap.size, 0, none⟩) (T + 1) (T + 1)] 45 (0, 0)) := by rw [← za]; exact blkT kb hbc
  have kc2 : wc.heap[w1.heap.size + 1 + 1]? = some (.cells #[.int .i64 1] 3 (0, 0)) := by rw [← zb]; exact kc
  have Bc := tw (tw (tw hb1 hba) hbb) hbc
  refine (hgWidths A l.length c B _).mono ?_
  rintro e w9 ⟨rfl, hw9⟩
  obtain ⟨w4, hw4, k4, hb4, hz4⟩ := boxS wc (.cells #[.slice A l.length c] 63)
  rw [hw4] at hw9
  obtain ⟨w5, hw5, k5, hb5, hz5⟩ := boxS w4 (.cells #[.int .i64 (B : Int)] 3)
  rw [hw5] at hw9
  have z4 : w4.heap.size = wc.heap.size + 1 := by rw [← hw4]; simp
  have z5 : w5.heap.size = wc.heap.size + 2 := by rw [← hw5]; simp; omega
  obtain rfl : w5 = w9 := hw9.symm
  have ka5 := blkT (blkT ka2 hb4) hb5
  have kb5 := blkT (blkT kb2 hb4) hb5
  have kc5 := blkT (blkT kc2 hb4) hb5
  rw [← numF_nil (T + 1) (by omega)] at ka5
  have m0 := (cel1 (blkT k4 hb5)).1
  have m1 : w5.cell? ⟨wc.heap.size + 1, 0, none⟩ = some (.int .i64 (B : Int)) := by rw [← z4]; exact (cel1 k5).1
  have B5 := tw (tw Bc hb4) hb5
  have bw5 := B5.size
  have bw1 := hb1.size
  have HZC := Lib.hid zc
  have HZ5 := Lib.hid z5
  have hrv : RV Sec.c 3 w5 w.heap.size A l := HRV.out.below B5
  have hvis := widths_visits 4 (by omega) A c B l wc.heap.size (wc.heap.size + 1) w.heap.size wc.heap.size (wc.heap.size + 2) l2 HV.out hB w5 (by omega) (by omega) (by omega) (by omega) (by omega) (by omega) m0 m1 hrv
  clear k4 k5 hw4 hw5 hb4 hb5 m0 m1 ka kb kc ka2 kb2 kc2 hwa hwb hwc hba hbb hbc za zb zc z4 z5 hrv hmk hw9
  go_wp2_with fail
  refine (wpIn_wide (n := 5)).1 ?_
  generalize hA0 : (Act.mk _ _) = A0
  refine wpIn_visitsH (n := 5) (by omega) (gf := 127) (lb := #[.pointer (some ⟨wc.heap.size, 0, none⟩), .pointer (some ⟨wc.heap.size + 1, 0, none⟩)]) (by rw [← hA0]; rfl) ?eg hvis KQ.trans (KQ.put (w := w5) (by omega) (by rw [HZ5.out]; omega)) (fun _ => rfl)
    (fun pre W => Below w.heap.size w W ∧ ((W.heap[w1.heap.size]? = some (.cells (numF (T + 1) pre) 3 (0, 0)) ∧ (W.heap[w1.heap.size + 1]? = some (.cells #[.slice (some ⟨w1.heap.size, 0, none⟩) (T + 1) (T + 1)] 45 (0, 0)) ∧ W.heap[w1.heap.size + 1 + 1]? = some (.cells #[.int .i64 (cntW pre + 1 : Nat)] 3 (0, 0)))) ∧ w5.heap.size ≤ W.heap.size))
    (OwnFrom.and (ownFrom_below (Nat.le_refl _) bw5) (OwnFrom.and (OwnFrom.and (fun s X Y row hs hg hr => (fcells_own w1.heap.size 3 (numF (T + 1))) s X Y row hs hg (fun r e => (hr r e).2)) (OwnFrom.and (Own.from (cells_own _ _ rfl) _) (fun s X Y row hs hg hr => (boxed_own (w1.heap.size + 1 + 1) 3 (fun pre : List (Nat × Nat) => .int .i64 (cntW pre + 1 : Nat))) s X Y row hs hg (fun r e => (hr r e).2)))) (Own.from (size_own _) _))) ⟨B5, ⟨ka5, kb5, kc5⟩, Nat.le_refl _⟩ ?round ?done
  case eg => exact fun _ _ => by kernel_rfl
  case round =>
    rintro lp pre x W hz ⟨hbW, ⟨haW, hsW, htW⟩, hzW⟩ ⟨r, hr⟩
    have hx := HWL.out x (by rw [hr]; simp)
    have hle : sumW pre ≤ 4500000000000000000 := by
      have h1 := HS.out
      rw [hr, sumW_app] at h1
      omega
    have hx1 : 1 ≤ x.1 := by
      have hm : x ∈ widL B l := by rw [hr]; simp
      obtain ⟨s, hs, rfl⟩ := List.mem_map.1 hm
      obtain ⟨i, hi, rfl⟩ := List.mem_iff_getElem.1 hs
      obtain ⟨M, P, D, e1, e2, e3, v1, -⟩ := HV.out i hi
      simp only [widE, e1, Int.toNat_natCast]
      exact v1
    have hcnt : cntW pre + 1 + x.1 ≤ T + 1 := by
      have h1 := HCN.out
      rw [hr, cntW_app, cntW] at h1
      omega
    obtain ⟨hx2, hx3⟩ := hx
    clear hr
    subst hA0
    dsimp only [pairV]
    gi_wp2
    refine ⟨⟨rfl, rfl, Nat.le_refl _⟩, KQ.refl _ _ _ _, fun Wb hg hobj _ => ?_⟩
    have z5 := HZ5.out
    have zc := HZC.out
    have hab : Wb.heap[w1.heap.size]? = some (.cells (numF (T + 1) pre) 3 (0, 0)) := (hg.block _ (by omega) (fun e => by injection e; omega)).trans haW
    have hsb : Wb.heap[w1.heap.size + 1]? = some (.cells #[.slice (some ⟨w1.heap.size, 0, none⟩) (T + 1) (T + 1)] 45 (0, 0)) := (hg.block _ (by omega) (fun e => by injection e; omega)).trans hsW
    have htb : Wb.heap[w1.heap.size + 1 + 1]? = some (.cells #[.int .i64 (cntW pre + 1 : Nat)] 3 (0, 0)) := (hg.block _ (by omega) (fun e => by injection e; omega)).trans htW
    have hbb : Below w.heap.size w Wb := hbW.grown hg (by have := hbW.size; omega) (fun k e => by cases e; omega)
    have hzb : w5.heap.size + 2 ≤ Wb.heap.size := by have := hg.size; omega
    have cA := rowOf hab numF_at
    obtain ⟨y0, y1⟩ := cel1 hsb
    obtain ⟨x0, x1⟩ := cel1 htb
    have HAB := Lib.hid hab
    have HSB := Lib.hid hsb
    have HTB := Lib.hid htb
    clear haW hsW htW hobj hab hsb htb
    have HSUM := Lib.hid (show ∀ q, cntW pre = q → (numF (T + 1) pre).toList = (numF (T + 1) pre).toList from fun _ _ => rfl)
    obtain ⟨cn, hcn⟩ : ∃ cn, cntW pre = cn := ⟨_, rfl⟩
    have HCNT := Lib.hid hcn
    rw [hcn] at x0 cA hcnt
    clear hcn HSUM
    obtain ⟨sp, hsp⟩ : ∃ sp, sumW pre = sp := ⟨_, rfl⟩
    have HSP := Lib.hid hsp
    rw [hsp] at cA hle
    clear hsp
    have hi1 : (0 : Int) ≤ (cn : Int) := by omega
    have hi2 : (cn : Int) < ((T : Int) + 1) := by omega
    have hi3 : ((cn + 1 : Nat) : Int) = (cn : Int) + 1 := by push_cast; rfl
    have hi4 : ¬ T + 1 = cn + 1 := by omega
    have hi5 : ((cn : Int) + 1) ≤ (T : Int) + 1 := by omega
    have hi6 : ¬ T = cn := by omega
    clear z5 zc
    have wa' : IntKind.i64.wrap ((cn : Int) + 1 - 1) = (cn : Int) := by rw [Int.add_sub_cancel]; exact wr64 (by omega) (by omega)
    have wb' : IntKind.i64.wrap (cn : Int) = (cn : Int) := wr64 (by omega) (by omega)
    rw [hi3] at x0
    have hS0 : Wb.drew.cell? ⟨w1.heap.size + 1 + 1, 0, none⟩ = some (.int .i64 ((cn : Int) + 1)) ∧ Wb.drew.cell? ⟨w1.heap.size + 1, 0, none⟩ = some (.slice (some ⟨w1.heap.size, 0, none⟩) (T + 1) (T + 1)) ∧ Wb.drew.cell? ⟨w1.heap.size, cn, none⟩ = some (.int .i64 (sp : Int)) := ⟨x0, y0, cA⟩
    gi_wp2
    refine wpIn_region_K (S := fun w' => w'.cell? ⟨w1.heap.size + 1 + 1, 0, none⟩ = some (.int .i64 ((cn : Int) + 1)) ∧ w'.cell? ⟨w1.heap.size + 1, 0, none⟩ = some (.slice (some ⟨w1.heap.size, 0, none⟩) (T + 1) (T + 1)) ∧ w'.cell? ⟨w1.heap.size, cn, none⟩ = some (.int .i64 (sp : Int))) (by kernel_rfl) ?_
    refine wpAnyK_take (.inRound _) (by kernel_rfl) (i := 0) (oi := _) (v := ?v0) rfl (by kernel_rfl) (by kernel_rfl) (by kernel_rfl) (fun _ _ _ h => h) (Or.inl ⟨by rfl, ?hy0⟩) hS0 ?rest0
    case hy0 => (intro w hSw; (try dsimp only at hSw); obtain ⟨s0, s1, s2⟩ := hSw; go_simp; first | done | rfl)
    try simp only [layAH]
    refine wpAnyK_take (.inRound _) (by kernel_rfl) (i := 1) (oi := _) (v := ?v1) rfl (by kernel_rfl) (by kernel_rfl) (by kernel_rfl) (fun _ _ _ h => h) (Or.inl ⟨by rfl, ?hy1⟩) hS0 ?rest1
    case hy1 => (intro w hSw; (try dsimp only at hSw); obtain ⟨s0, s1, s2⟩ := hSw; go_simp; first | done | rfl)
    try simp only [layAH]
    refine wpAnyK_take (.inRound _) (by kernel_rfl) (i := 2) (oi := _) (v := ?v2) rfl (by kernel_rfl) (by kernel_rfl) (by kernel_rfl) (fun _ _ _ h => h) (Or.inl ⟨by rfl, ?hy2⟩) hS0 ?rest2
    case hy2 => (intro w hSw; (try dsimp only at hSw); obtain ⟨s0, s1, s2⟩ := hSw; go_simp; first | done | rfl)
    try simp only [layAH]
    refine wpAnyK_take (.inRound _) (by kernel_rfl) (i := 3) (oi := _) (v := ?v3) rfl (by kernel_rfl) (by kernel_rfl) (by kernel_rfl) (fun _ _ _ h => h) (Or.inl ⟨by rfl, ?hy3⟩) hS0 ?rest3
    case hy3 => (intro w hSw; (try dsimp only at hSw); obtain ⟨s0, s1, s2⟩ := hSw; go_simp; first | done | rfl)
    try simp only [layAH]
    refine wpAnyK_take (.inRound _) (by kernel_rfl) (i := 4) (oi := _) (v := ?v4) rfl (by kernel_rfl) (by kernel_rfl) (by kernel_rfl) (fun _ _ _ h => h) (Or.inl ⟨by rfl, ?hy4⟩) hS0 ?rest4
    case hy4 => (intro w hSw; (try dsimp only at hSw); obtain ⟨s0, s1, s2⟩ := hSw; go_simp; first | done | rfl)
    try simp only [layAH]
    refine wpAnyK_take (.inRound _) (by kernel_rfl) (i := 5) (oi := _) (v := ?v5) rfl (by kernel_rfl) (by kernel_rfl) (by kernel_rfl) (fun _ _ _ h => h) (Or.inl ⟨by rfl, ?hy5⟩) hS0 ?rest5
    case hy5 => (intro w hSw; (try dsimp only at hSw); obtain ⟨s0, s1, s2⟩ := hSw; go_simp; first | done | rfl)
    try simp only [layAH]
    refine wpAnyK_take (.inRound _) (by kernel_rfl) (i := 6) (oi := _) (v := ?v6) rfl (by kernel_rfl) (by kernel_rfl) (by kernel_rfl) (fun _ _ _ h => h) (Or.inl ⟨by rfl, ?hy6⟩) hS0 ?rest6
    case hy6 => (intro w hSw; (try dsimp only at hSw); obtain ⟨s0, s1, s2⟩ := hSw; go_simp; first | done | rfl)
    try simp only [layAH]
    refine wpAnyK_take (.inRound _) (by kernel_rfl) (i := 7) (oi := _) (v := ?v7) rfl (by kernel_rfl) (by kernel_rfl) (by kernel_rfl) (fun _ _ _ h => h) (Or.inl ⟨by rfl, ?hy7⟩) hS0 ?rest7
    case hy7 => (intro w hSw; (try dsimp only at hSw); obtain ⟨s0, s1, s2⟩ := hSw; go_simp; first | done | rfl)
    try simp only [layAH]
    refine wpAnyK_take (.inRound _) (by kernel_rfl) (i := 8) (oi := _) (v := ?v8) rfl (by kernel_rfl) (by kernel_rfl) (by kernel_rfl) (fun _ _ _ h => h) (Or.inl ⟨by rfl, ?hy8⟩) hS0 ?rest8
    case hy8 => (intro w hSw; (try dsimp only at hSw); obtain ⟨s0, s1, s2⟩ := hSw; go_simp; first | done | rfl)
    try simp only [layAH]
    refine wpAnyK_take (.inRound _) (by kernel_rfl) (i := 9) (oi := _) (v := ?v9) rfl (by kernel_rfl) (by kernel_rfl) (by kernel_rfl) (fun _ _ _ h => h) (Or.inl ⟨by rfl, ?hy9⟩) hS0 ?rest9
    case hy9 => (intro w hSw; (try dsimp only at hSw); obtain ⟨s0, s1, s2⟩ := hSw; go_simp; first | done | rfl)
    try simp only [layAH]
    refine wpAnyK_take (.inRound _) (by kernel_rfl) (i := 10) (oi := _) (v := ?v10) rfl (by kernel_rfl) (by kernel_rfl) (by kernel_rfl) (fun _ _ _ h => h) (Or.inl ⟨by rfl, ?hy10⟩) hS0 ?rest10
    case hy10 => (intro w hSw; (try dsimp only at hSw); obtain ⟨s0, s1, s2⟩ := hSw; go_simp; first | done | rfl)
    try simp only [layAH]
    refine wpAnyK_one (i := 11) (by kernel_rfl) rfl (by rfl) (fun K hK => ?_)
    simp only [layGH]
    go_simp
    refine ⟨trivial, ?_⟩
    refine (CallsIn.inRound lp (callsIn_wide.2 (hgSteps sp x.2 x.1 _ hx2 hle (by omega)))).mono ?_
    rintro e W2 ⟨v2, rfl, hrow, hb2⟩
    rw [stepsL_length] at hrow
    obtain ⟨gs, cap, rfl⟩ : ∃ gs cap, v2 = .slice (some ⟨gs, 0, none⟩) x.1 cap := by
      rcases hrow.2 with ⟨_, h0⟩ | ⟨g, cap, cur, hv, -⟩
      · omega
      · exact ⟨g, cap, hv⟩
    have zW : w1.heap.size + 1 + 1 < Wb.heap.size := by have := HZC.out; have := HZ5.out; omega
    have hS2 : W2.cell? ⟨w1.heap.size + 1 + 1, 0, none⟩ = some (.int .i64 ((cn : Int) + 1)) ∧ W2.cell? ⟨w1.heap.size + 1, 0, none⟩ = some (.slice (some ⟨w1.heap.size, 0, none⟩) (T + 1) (T + 1)) ∧ W2.cell? ⟨w1.heap.size, cn, none⟩ = some (.int .i64 (sp : Int)) :=
      ⟨(hb2.cell (p := ⟨_, _, none⟩) zW).trans x0, (hb2.cell (p := ⟨w1.heap.size + 1, _, none⟩) (by show w1.heap.size + 1 < Wb.heap.size; omega)).trans y0, (hb2.cell (p := ⟨w1.heap.size, _, none⟩) (by show w1.heap.size < Wb.heap.size; omega)).trans cA⟩
    refine hK.out _ _ (fun _ => hS2) ?_
    clear hK K
    try simp only [layAH]
    have hA2 : W2.heap[w1.heap.size]? = some (.cells (numF (T + 1) pre) 3 (0, 0)) := (hb2.block _ (by show w1.heap.size < Wb.heap.size; omega)).trans HAB.out
    have hlen : ((stepsL sp x.2 x.1).flatMap ic).length = x.1 := by rw [flatMap_len ic1, stepsL_length]; omega
    have hcp := run_copy_row (P := Tryz.prog) W2 45 45 3 3 w1.heap.size (cn + 1) (T - cn) (T - cn) ⟨gs, 0, none⟩ x.1 cap (numF (T + 1) pre) 3 ((stepsL sp x.2 x.1).flatMap ic) Tryz.underlying45 HSZ.out hA2
      (by rw [hlen]; show x.1 = min x.1 (T - cn); omega) (hrow.cells (g := gs) rfl) (by rw [hlen, numF_size (by rw [HCNT.out]; omega)]; omega) (by intro v hv; obtain ⟨a, -, ha⟩ := List.mem_flatMap.1 hv; simp [ic] at ha; subst ha; rfl)
    rw [hlen, ← HCNT.out, ← HSP.out, numF_snoc (by rw [HCNT.out]; exact hcnt), HCNT.out] at hcp
    have e1 : goInt x.1 = .int .i64 (x.1 : Int) := rfl
    rw [e1] at hcp
    obtain ⟨W3, hW3⟩ : ∃ W3, W2.setRow w1.heap.size (numF (T + 1) (pre ++ [x])) = W3 := ⟨_, rfl⟩
    rw [hW3] at hcp
    have hA3 : W3.heap[w1.heap.size]? = some (.cells (numF (T + 1) (pre ++ [x])) 3 (0, 0)) := by rw [← hW3]; exact setRow_heap _ _ _ _ _ _ hA2
    have hO3 : ∀ b, b ≠ w1.heap.size → W3.heap[b]? = W2.heap[b]? := fun b hb => by rw [← hW3]; exact setRow_other _ _ _ _ hb
    have hB3 : Below w.heap.size w W3 := by rw [← hW3]; exact below_setRow (tw (below_drew hbb) hb2) bw1 _
    have hZ3 : W3.heap.size = W2.heap.size := by rw [← hW3]; simp [World.setRow]
    clear hW3 e1
    refine wpAnyK_one (i := 12) (by kernel_rfl) rfl (by rfl) (fun K hK => ?_)
    simp only [layGH]
    go_simp
    have zW2 : w1.heap.size + 1 + 1 < W2.heap.size := Nat.lt_of_lt_of_le zW hb2.size
    have hS3 : W3.cell? ⟨w1.heap.size + 1 + 1, 0, none⟩ = some (.int .i64 ((cn : Int) + 1)) ∧ W3.cell? ⟨w1.heap.size + 1, 0, none⟩ = some (.slice (some ⟨w1.heap.size, 0, none⟩) (T + 1) (T + 1)) ∧ W3.cell? ⟨w1.heap.size, cn, none⟩ = some (.int .i64 (sp : Int)) := by
      refine ⟨(World.cell?_of_block (hO3 _ (by show w1.heap.size + 1 + 1 ≠ w1.heap.size; omega))).trans hS2.1, (World.cell?_of_block (hO3 _ (by show w1.heap.size + 1 ≠ w1.heap.size; omega))).trans hS2.2.1, rowOf hA3 ?_⟩
      have hl : cntW pre < (marksN pre).length := by rw [marksN_len]; omega
      rw [← HCNT.out, ← HSP.out]
      simp only [numF, marksN_snoc, List.getElem?_map, List.append_assoc]
      rw [List.getElem?_append_left hl, marksN_last]
      rfl
    have hf3 : W3.frozen? ⟨w1.heap.size + 1 + 1, 0, none⟩ = false := (World.frozen?_of_block (hO3 _ (by show w1.heap.size + 1 + 1 ≠ w1.heap.size; omega))).trans ((hb2.frozen (p := ⟨w1.heap.size + 1 + 1, 0, none⟩) zW).trans x1)
    refine hK.out _ _ (fun _ => hS3) ?_
    clear hK K
    try simp only [layAH]
    have wsum : IntKind.i64.wrap ((cn : Int) + 1 + (x.1 : Int)) = (cn : Int) + 1 + (x.1 : Int) := wr64 (by omega) (by omega)
    refine wpAnyK_take (.inRound _) (by kernel_rfl) (i := 13) (oi := _) (v := ?v13) rfl (by kernel_rfl) (by kernel_rfl) (by kernel_rfl) (fun _ _ _ h => h) (Or.inl ⟨by rfl, ?hy13⟩) hS3 ?rest13
    case hy13 => (intro w hSw; go_simp; first | done | rfl)
    try simp only [layAH]
    have y3 := hS3.1
    refine wpAnyK_one (i := 14) (by kernel_rfl) rfl (by rfl) (fun K hK => ?_)
    simp only [layGH]
    go_simp
    refine hK.out _ _ (fun h => absurd h (by decide +kernel)) ?_
    clear hK K
    try simp only [layAH]
    refine wpAnyK_done (by kernel_rfl) ?_ _
    have hsb := HSB.out
    have htb := HTB.out
    have zb := hzb
    have z5 := HZ5.out
    have zc := HZC.out
    have k2 : (W2.heap[w1.heap.size + 1]? = some (.cells #[.slice (some ⟨w1.heap.size, 0, none⟩) (T + 1) (T + 1)] 45 (0, 0))) := (hb2.block _ (by show w1.heap.size + 1 < Wb.heap.size; omega)).trans hsb
    have k3 : (W2.heap[w1.heap.size + 1 + 1]? = some (.cells #[.int .i64 (cntW pre + 1 : Nat)] 3 (0, 0))) := (hb2.block _ zW).trans htb
    have hbz := hb2.size
    have hbz' : Wb.heap.size ≤ W2.heap.size := hbz
    have hg3 := grownBy_setCell' W3 (w1.heap.size + 1 + 1) (.int .i64 ((cn : Int) + 1 + (x.1 : Int)))
    have hgs := hg3.size
    refine ⟨⟨?_, ?_, ?_⟩, ⟨?_, fun b hb => ?_⟩, hB3.setCell (by show w.heap.size ≤ w1.heap.size + 1 + 1; omega) _, ⟨?_, ?_, ?_⟩, ?_⟩
    · exact (Below.heap_setCell _ _ _ _ (by show w5.heap.size ≠ w1.heap.size + 1 + 1; omega)).trans ((hO3 _ (by omega)).trans (hb2.block _ (by show w5.heap.size < Wb.heap.size; omega)))
    · exact (Below.heap_setCell _ _ _ _ (by show w5.heap.size + 1 ≠ w1.heap.size + 1 + 1; omega)).trans ((hO3 _ (by omega)).trans (hb2.block _ (by show w5.heap.size + 1 < Wb.heap.size; omega)))
    · omega
    · omega
    · exact (Below.heap_setCell _ _ _ _ (by show b ≠ w1.heap.size + 1 + 1; omega)).trans ((hO3 _ (by omega)).trans (hb2.block _ (by show b < Wb.heap.size; omega)))
    · exact (Below.heap_setCell _ _ _ _ (by show w1.heap.size ≠ w1.heap.size + 1 + 1; omega)).trans hA3
    · exact (Below.heap_setCell _ _ _ _ (by show w1.heap.size + 1 ≠ w1.heap.size + 1 + 1; omega)).trans ((hO3 _ (by omega)).trans k2)
    · have := set1 ((hO3 _ (by omega)).trans k3) (.int .i64 ((cn : Int) + 1 + (x.1 : Int)))
      have e : (cn : Int) + 1 + (x.1 : Int) = ((cntW (pre ++ [x]) + 1 : Nat) : Int) := by rw [cntW_app, HCNT.out]; simp [cntW]; omega
      rw [e] at this ⊢
      exact this
    · omega
  case done =>
    rintro D ys W hD hS ⟨hbW, ⟨haW, hsW, htW⟩, hzW⟩ hK
    subst hA0
    obtain ⟨y0, y1⟩ := cel1 hsW
    have hfull : (numF (T + 1) ys).toList = (marksN (widL B l)).flatMap icN := by
      rw [numF_ints, hS, HCN.out, Nat.sub_self]
      simp
    have hml : (marksN (widL B l)).length = T + 1 := by rw [marksN_len, HCN.out]
    have z5 := HZ5.out
    have zc := HZC.out
    have HML := Lib.hid hml
    clear hml
    go_wp2
    refine ⟨by simp, .inl ⟨_, _, rfl, run_takeDeferred hK, ?_⟩⟩
    have haf : (W.putObj D (.deferred none)).heap[w1.heap.size]? = some (.cells (numF (T + 1) ys) 3 (0, 0)) := (World.putObj_heap_other (by omega)).trans haW
    have hok := OKV.blk (enc := icN) icN1 haf hfull
    refine ⟨.slice (some ⟨w1.heap.size, 0, none⟩) (T + 1) (T + 1), ?_, some ⟨w1.heap.size, 0, none⟩, T + 1, by rw [HML.out], ?_, hbW.trans (belowK_b (w := w5) (n₀ := w.heap.size) bw5 _ D _ _ hD hK rfl rfl)⟩
    · simp [results, Tryz.results95, go_sem]
    · rw [HML.out] at hok
      exact hok (by omega)
end Go.Proofs.YtlkeejhaodedmaaGreatDoor

/- hang: Marks. -/
namespace Go.Proofs.YtlkeejhaodedmaaGreatDoor
open Go.RowKit

theorem infoHQ : (Tryz.prog.info? 25).map (fun i => (i.zero, i.size, i.bytes)) = some (some (.agg #[.int .i64 0, .int .i64 0]), 2, 16) := by kernel_rfl
/-- The mark with a numerator. -/
def markR (n : Nat) : Rt := ⟨(qn n 2329089562800 : Nat), (qd n 2329089562800 : Nat)⟩
/-- The square of the fullness of a ratio. -/
def fulR (r : Rt) : Rt := ⟨(qn (fuN r.n.toNat r.d.toNat) (r.d.toNat * r.d.toNat * (r.d.toNat * r.d.toNat)) : Nat), (qd (fuN r.n.toNat r.d.toNat) (r.d.toNat * r.d.toNat * (r.d.toNat * r.d.toNat)) : Nat)⟩
theorem atN {w : World} {A : Option Addr} {l : List Nat} (h : RV icN 1 w w.heap.size A l) {i : Nat} (hi : i < l.length) : ∃ b off, A = some ⟨b, off, none⟩ ∧ b < w.heap.size ∧ w.cell? ⟨b, off + i, none⟩ = some (.int .i64 (l[i] : Nat)) := by
  obtain ⟨b, off, rfl, hB, hc⟩ := h (by omega)
  exact ⟨b, off, rfl, hB, by simpa using hc i hi 0 _ rfl⟩
theorem map_take_snoc {α β γ : Type} (f : α → β) (g : β → List γ) (l : List α) {k : Nat} (h : k < l.length) : ((l.map f).take (k + 1)).flatMap g = ((l.map f).take k).flatMap g ++ g (f l[k]) := by
  rw [List.take_succ_eq_append_getElem (by rw [List.length_map]; exact h)]
  simp only [List.flatMap_append, List.flatMap_cons, List.flatMap_nil, List.append_nil, List.getElem_map]
set_option maxHeartbeats 2000000 in
set_option maxRecDepth 100000 in
theorem hgTransMark (A : Option Addr) (c : Nat) (L : List Nat) (w : World) (hL : L.length ≤ 100000) (hn : ∀ n ∈ L, n ≤ 9000000000000000000) (hA : OKV icN 1 w A c L) :
    Calls Tryz.prog 94 #[.slice A L.length c, .func (.func 92) #[] #[]] w (RowP Rt.c 2 23 (L.map markR) w) := by
  unfold RowP
  rw [List.length_map]
  obtain ⟨i0, hi, hz0, hz1, hz2⟩ := info_parts infoHR
  have HI := Lib.hid hi
  have HZ0 := Lib.hid hz0
  have HZ1 := Lib.hid hz1
  have HZ2 := Lib.hid hz2
  have HR := Lib.hid hA.2.2.2
  have HN := Lib.hid hn
  clear hn
  clear hi hz0 hz1 hz2 hA
  go_enter Tryz.func94, Tryz.ntmps94
  go_wp2_with (at_make; refine wpList_make_own _ rfl _ _ 65 rfl w.heap.size 23 i0 (.agg #[.int .i64 0, .int .i64 0]) 2 Tryz.underlying65 HI.out HZ0.out HZ1.out .i64 .i64 (L.length : Int) L.length rfl rfl rfl (by rw [HZ2.out]; omega) (by unfold maxLen; omega) (Nat.le_refl _) ?_; intro w1 hown1 hgrow1)
  have hb1 : Below w.heap.size w w1 := (Below.refl _ _).grown hgrow1 (Nat.le_refl _) (fun _ e => by cases e)
  have HO1 := Lib.hid hown1
  clear hown1 hgrow1
  go_loopw [5, 13] (fun v i wr => ∃ k : Nat, k ≤ L.length ∧ i = .int .i64 k ∧ Hid (wr.ownsRow w.heap.size 23 2 v k (((L.map markR).take k).flatMap Rt.c)) ∧ Below w.heap.size w wr) (fun _ i _ => L.length - (intOf i).toNat)
  case atStart => exact ⟨0, Nat.zero_le _, rfl, HO1, hb1⟩
  case round =>
    obtain ⟨k, hk, rfl, hown, hb⟩ := hrel
    by_cases hlt : k < L.length
    · have hki : (k : Int) < (L.length : Int) := by omega
      have hk0 : (0 : Int) ≤ (k : Int) := by omega
      have hbz := hb.size
      have hrv := HR.out.to hb
      obtain ⟨b, off, rfl, hB, c0⟩ := atN hrv hlt
      clear hrv
      have HMS := Lib.hid (map_take_snoc markR Rt.c L hlt)
      have hn9 := HN.out _ (List.getElem_mem hlt)
      generalize L[k] = n at c0 HMS hn9
      have HM := fun w => hgMarkAt n w hn9
      rw [show markR n = (⟨(qn n 2329089562800 : Nat), (qd n 2329089562800 : Nat)⟩ : Rt) from rfl] at HMS
      generalize qn n 2329089562800 = u at HM HMS
      generalize qd n 2329089562800 = v at HM HMS
      go_wp2_with fail
      refine (HM _).mono ?_
      rintro e w3 ⟨rfl, hb3⟩
      have hown3 := ownTo (ownTo hown.out (Below.refl _ _)) hb3
      have B3 := tw (tw hb (Below.refl _ _)) hb3
      have hz3 := B3.size
      clear hown
      go_wp2_with (at_builtin; refine wpList_append_own _ rfl _ _ 65 rfl w.heap.size 23 i0 (.agg #[.int .i64 0, .int .i64 0]) 2 16 Tryz.underlying65 HI.out HZ0.out HZ1.out HZ2.out rfl (by decide) _ _ _ rfl (hown3.alloc _) ⟨w3.heap.size, 0, none⟩ 1 1 [.int .i64 (u : Int), .int .i64 (v : Int)] rfl rfl (newsH _ _ _) ?c2 ?c3 ?c4 ?c5 ?_)
      case c2 => intro u hu; simp at hu; rcases hu with rfl | rfl <;> rfl
      case c3 => unfold maxLen; omega
      case c4 => omega
      case c5 => simp; omega
      intro v' w4 hown4 hgrow4 _
      have hq4 : Below w.heap.size w w4 := (B3.alloc hz3 _).grown hgrow4 (by simp; omega) (baseOf hown3)
      have HO4 := Lib.hid (show w4.ownsRow w.heap.size 23 2 v' (k + 1) (((L.map markR).take (k + 1)).flatMap Rt.c) by rw [HMS.out]; exact hown4)
      clear hown4 hgrow4 hown3
      go_wp2
      go_roundw
      case rel => exact ⟨k + 1, by omega, by go_num, HO4, hq4⟩
      case measure => simp [intOf]; omega
    · obtain rfl : k = L.length := by omega
      have hf := hown.out
      rw [List.take_of_length_le (by rw [List.length_map]; omega)] at hf
      have HF := Lib.hid hf
      clear hf hown
      go_wp2
      go_ret
      exact ⟨_, rfl, HF.out, hb⟩
set_option maxHeartbeats 2000000 in
set_option maxRecDepth 100000 in
theorem hgTransFull (A : Option Addr) (c : Nat) (L : List Rt) (w : World) (hL : L.length ≤ 100000) (hn : ∀ r ∈ L, ∃ P D : Nat, r.n = P ∧ r.d = D ∧ 1 ≤ P ∧ P ≤ D ∧ D ≤ 30) (hA : OKV Rt.c 2 w A c L) :
    Calls Tryz.prog 85 #[.slice A L.length c, .func (.func 70) #[] #[]] w (RowP Rt.c 2 25 (L.map fulR) w) := by
  unfold RowP
  rw [List.length_map]
  obtain ⟨i0, hi, hz0, hz1, hz2⟩ := info_parts infoHQ
  have HI := Lib.hid hi
  have HZ0 := Lib.hid hz0
  have HZ1 := Lib.hid hz1
  have HZ2 := Lib.hid hz2
  have HR := Lib.hid hA.2.2.2
  have HN := Lib.hid hn
  clear hn
  clear hi hz0 hz1 hz2 hA
  go_enter Tryz.func85, Tryz.ntmps85
  go_wp2_with (at_make; refine wpList_make_own _ rfl _ _ 140 rfl w.heap.size 25 i0 (.agg #[.int .i64 0, .int .i64 0]) 2 Tryz.underlying140 HI.out HZ0.out HZ1.out .i64 .i64 (L.length : Int) L.length rfl rfl rfl (by rw [HZ2.out]; omega) (by unfold maxLen; omega) (Nat.le_refl _) ?_; intro w1 hown1 hgrow1)
  have hb1 : Below w.heap.size w w1 := (Below.refl _ _).grown hgrow1 (Nat.le_refl _) (fun _ e => by cases e)
  have HO1 := Lib.hid hown1
  clear hown1 hgrow1
  go_loopw [5, 13] (fun v i wr => ∃ k : Nat, k ≤ L.length ∧ i = .int .i64 k ∧ Hid (wr.ownsRow w.heap.size 25 2 v k (((L.map fulR).take k).flatMap Rt.c)) ∧ Below w.heap.size w wr) (fun _ i _ => L.length - (intOf i).toNat)
  case atStart => exact ⟨0, Nat.zero_le _, rfl, HO1, hb1⟩
  case round =>
    obtain ⟨k, hk, rfl, hown, hb⟩ := hrel
    by_cases hlt : k < L.length
    · have hki : (k : Int) < (L.length : Int) := by omega
      have hk0 : (0 : Int) ≤ (k : Int) := by omega
      have hbz := hb.size
      have hrv := HR.out.to hb
      obtain ⟨b, off, rfl, hB, c0, c1⟩ := at2 hrv hlt
      clear hrv
      have HMS := Lib.hid (map_take_snoc fulR Rt.c L hlt)
      obtain ⟨P, D, e1, e2, p1, p2, p3⟩ := HN.out _ (List.getElem_mem hlt)
      generalize L[k] = n at c0 c1 HMS e1 e2
      rw [e1] at c0
      rw [e2] at c1
      have HM := fun w => hgFullnessN P D w p1 p2 p3
      rw [show fulR n = (⟨(qn (fuN P D) (D * D * (D * D)) : Nat), (qd (fuN P D) (D * D * (D * D)) : Nat)⟩ : Rt) by simp only [fulR, e1, e2, Int.toNat_natCast]] at HMS
      generalize qn (fuN P D) (D * D * (D * D)) = u at HM HMS
      generalize qd (fuN P D) (D * D * (D * D)) = v at HM HMS
      obtain ⟨wx, hwx, kx, hbx, hzx⟩ := boxS wr (.cells #[.int .i64 (P : Int), .int .i64 (D : Int)] 23)
      obtain ⟨x0, x1, -, -⟩ := cel2 kx
      clear e1 e2 kx
      go_wp2_with fail
      refine (HM _).mono ?_
      rintro e w3 ⟨rfl, hb3⟩
      have hown3 := ownTo (ownTo hown.out hbx) hb3
      have B3 := tw (tw hb hbx) hb3
      have hz3 := B3.size
      clear hown
      go_wp2_with (at_builtin; refine wpList_append_own _ rfl _ _ 140 rfl w.heap.size 25 i0 (.agg #[.int .i64 0, .int .i64 0]) 2 16 Tryz.underlying140 HI.out HZ0.out HZ1.out HZ2.out rfl (by decide) _ _ _ rfl (hown3.alloc _) ⟨w3.heap.size, 0, none⟩ 1 1 [.int .i64 (u : Int), .int .i64 (v : Int)] rfl rfl (newsH _ _ _) ?c2 ?c3 ?c4 ?c5 ?_)
      case c2 => intro u hu; simp at hu; rcases hu with rfl | rfl <;> rfl
      case c3 => unfold maxLen; omega
      case c4 => omega
      case c5 => simp; omega
      intro v' w4 hown4 hgrow4 _
      have hq4 : Below w.heap.size w w4 := (B3.alloc hz3 _).grown hgrow4 (by simp; omega) (baseOf hown3)
      have HO4 := Lib.hid (show w4.ownsRow w.heap.size 25 2 v' (k + 1) (((L.map fulR).take (k + 1)).flatMap Rt.c) by rw [HMS.out]; exact hown4)
      clear hown4 hgrow4 hown3
      go_wp2
      go_roundw
      case rel => exact ⟨k + 1, by omega, by go_num, HO4, hq4⟩
      case measure => simp [intOf]; omega
    · obtain rfl : k = L.length := by omega
      have hf := hown.out
      rw [List.take_of_length_le (by rw [List.length_map]; omega)] at hf
      have HF := Lib.hid hf
      clear hf hown
      go_wp2
      go_ret
      exact ⟨_, rfl, HF.out, hb⟩
/-- Where the first element with a property stands. -/
def IdxP {α : Type} (p : α → Bool) (l : List α) (w : World) (e : Ending) (w' : World) : Prop := ∃ j : Int, e = .returned (.int .i64 j) ∧ decide (0 ≤ j) = l.any p ∧ (∀ h : 0 ≤ j, ∃ i, j = (i : Nat) ∧ l.findIdx? p = some i) ∧ Below w.heap.size w w'
theorem any_step {α : Type} (p : α → Bool) (l : List α) {k : Nat} (h : k < l.length) (hn : ∀ i (hi : i < k), p (l[i]'(by omega)) = false) (hp : p l[k] = true) : l.any p = true ∧ l.findIdx? p = some k := by
  refine ⟨List.any_eq_true.2 ⟨_, List.getElem_mem h, hp⟩, ?_⟩
  rw [List.findIdx?_eq_some_iff_getElem]
  exact ⟨h, hp, fun j hj => by rw [hn j hj]; simp⟩
theorem any_none {α : Type} (p : α → Bool) (l : List α) (hn : ∀ i (hi : i < l.length), p l[i] = false) : l.any p = false := by
  rw [List.any_eq_false]
  intro x hx
  obtain ⟨i, hi, rfl⟩ := List.mem_iff_getElem.1 hx
  rw [hn i hi]
  simp
def larR (r : Rt) : Bool := larB r.n r.d
set_option maxHeartbeats 2000000 in
set_option maxRecDepth 100000 in
theorem hgIndexR (A : Option Addr) (c : Nat) (L : List Rt) (w : World) (hL : L.length ≤ 100000) (hA : OKV Rt.c 2 w A c L) :
    Calls Tryz.prog 130 #[.slice A L.length c, .func (.func 93) #[] #[]] w (IdxP larR L w) := by
  have HR := Lib.hid hA.2.2.2
  clear hA
  go_enter Tryz.func130, Tryz.ntmps130
  go_wp2_with fail
  go_loopw [5, 8] (fun _ i wr => ∃ k : Nat, k ≤ L.length ∧ i = .int .i64 k ∧ Hid (∀ i (hi : i < L.length), i < k → larR L[i] = false) ∧ Below w.heap.size w wr) (fun _ i _ => L.length - (intOf i).toNat)
  case atStart => exact ⟨0, Nat.zero_le _, rfl, Lib.hid (fun _ _ h => by omega), Below.refl _ _⟩
  case round =>
    obtain ⟨k, hk, rfl, HN, hb⟩ := hrel
    by_cases hlt : k < L.length
    · have hki : (k : Int) < (L.length : Int) := by omega
      have hk0 : (0 : Int) ≤ (k : Int) := by omega
      have hrv := HR.out.to hb
      obtain ⟨b, off, rfl, hB, c0, c1⟩ := at2 hrv hlt
      obtain ⟨p, hp⟩ : ∃ p, larR L[k] = p := ⟨_, rfl⟩
      have HP := Lib.hid hp
      have HM := fun w => hgIsLarge L[k].n L[k].d w
      rw [show larB L[k].n L[k].d = p from hp] at HM
      clear hrv hp
      go_wp2_with fail
      refine (HM _).mono ?_
      rintro e w3 ⟨rfl, hb3⟩
      cases p
      · go_wp2
        go_roundw
        case rel => exact ⟨k + 1, by omega, by go_num, Lib.hid (fun i hi hik => (Nat.lt_or_ge i k).elim (HN.out i hi) (fun h => by
          obtain rfl : i = k := by omega
          exact HP.out)), tw hb hb3⟩
        case measure => simp [intOf]; omega
      · go_wp2
        go_ret
        obtain ⟨q1, q2⟩ := any_step larR L hlt (fun i hi => HN.out i (by omega) hi) HP.out
        exact ⟨(k : Int), rfl, by rw [q1]; simp, fun _ => ⟨k, rfl, q2⟩, tw hb hb3⟩
    · obtain rfl : k = L.length := by omega
      have HF := Lib.hid (any_none larR L (fun i hi => HN.out i hi hi))
      go_wp2
      go_ret
      exact ⟨-1, rfl, by rw [HF.out]; rfl, fun h => absurd h (by decide), hb⟩
set_option maxHeartbeats 1000000 in
set_option maxRecDepth 100000 in
theorem hgContainsR (A : Option Addr) (c : Nat) (L : List Rt) (w : World) (hL : L.length ≤ 100000) (hA : OKV Rt.c 2 w A c L) :
    Calls Tryz.prog 96 #[.slice A L.length c, .func (.func 93) #[] #[]] w fun e w' => e = .returned (.bool (L.any larR)) ∧ Below w.heap.size w w' := by
  go_enter Tryz.func96, Tryz.ntmps96
  go_wp2_with fail
  refine (hgIndexR A c L _ hL hA).mono ?_
  rintro e w3 ⟨j, rfl, hj, -, hb3⟩
  have HJ := Lib.hid hj
  clear hj
  go_wp2
  go_ret
  exact ⟨ret_b (by rw [← HJ.out]), hb3⟩
/-- The error of Marks, and the marks. -/
def marL (l : List Sec) (b : Int) : List Rt := (marksN (widL b.toNat l)).map markR
def marE (l : List Sec) (b : Int) : Int := if ropE l b = 0 then (if (marL l b).any larR = true then 4 else 0) else ropE l b
theorem marksN_le {b : Nat} {l : List Sec} (hb : b ≤ 100) (hv : SecOk l) (hl : l.length ≤ 32) : ∀ n ∈ marksN (widL b l), n ≤ 4500000000000000000 := by
  have key : ∀ (m : List (Nat × Nat)) (s B : Nat), s + sumW m ≤ B → ∀ n ∈ numsL s m, n ≤ B := by
    intro m
    induction m with
    | nil => intro s B _ n hn; simp [numsL] at hn
    | cons a r ih =>
      intro s B h n hn
      simp only [numsL, List.mem_append, List.mem_map, List.mem_range] at hn
      simp only [sumW] at h
      rcases hn with ⟨i, hi, rfl⟩ | hn
      · have : (i + 1) * a.2 ≤ a.1 * a.2 := Nat.mul_le_mul (by omega) (Nat.le_refl _)
        omega
      · exact ih _ _ (by omega) n hn
  intro n hn
  rcases List.mem_cons.1 hn with rfl | hn
  · omega
  · exact key _ 0 _ (by rw [Nat.zero_add]; exact sumW_wid hb hv hl) n hn
set_option maxHeartbeats 2000000 in
set_option maxRecDepth 100000 in
theorem hgMarks (A : Option Addr) (c : Nat) (l : List Sec) (b : Int) (w : World) (hl : l.length ≤ 1000) (hA : OKV Sec.c 3 w A c l) :
    Calls Tryz.prog 41 #[.slice A l.length c, .int .i64 b] w (ListP Rt.c 2 (ozL (marE l b) (marL l b)) (marE l b) w) := by
  have HC := fun w h => hgCheckRope A c l b w hl h
  have HA := Lib.hid hA
  by_cases hz : ropE l b = 0
  · obtain ⟨r1, r2⟩ := fst2_zero hz
    obtain ⟨l1, l2, hv⟩ := secsE_zero r1
    obtain ⟨g1, g2⟩ := rngH_zero r2
    rw [hz] at HC
    have hE : marE l b = if (marL l b).any larR = true then 4 else 0 := by rw [marE, if_pos hz]
    obtain ⟨B, rfl⟩ : ∃ B : Nat, b = (B : Int) := ⟨b.toNat, by omega⟩
    have hM : marL l (B : Int) = (marksN (widL B l)).map markR := by rw [marL, Int.toNat_natCast]
    have hle := marksN_le (b := B) (by omega) hv l2
    have hlen : (marksN (widL B l)).length ≤ 100000 := by
      rw [marksN_len, cntW_wid]
      have := totM_le (l := l) fun i hi => by obtain ⟨M, P, D, e1, -, -, v1, v2, -⟩ := hv i hi; rw [e1]; omega
      omega
    have HNu := fun w h => hgNumerators A c B l w l1 l2 hv (by omega) h
    rw [hM] at hE ⊢
    generalize marksN (widL B l) = N at hE hle hlen HNu ⊢
    have HT := fun A c w h => hgTransMark A c N w hlen (fun n hn => Nat.le_trans (hle n hn) (by decide)) h
    have hlm : (N.map markR).length ≤ 100000 := by rw [List.length_map]; exact hlen
    have HLN := Lib.hid (show (N.map markR).length = N.length from List.length_map ..)
    generalize N.map markR = L at hE HT hlm HLN ⊢
    obtain ⟨p, hp⟩ : ∃ p, L.any larR = p := ⟨_, rfl⟩
    have HCo := fun A c w h => hgContainsR A c L w hlm h
    rw [hp] at HCo hE
    have HE0 := Lib.hid hE
    clear hz r1 r2 hv hA hM hle hp hE
    go_enter Tryz.func41, Tryz.ntmps41
    go_wp2_with fail
    refine (HC _ HA.out).mono ?_
    rintro e w2 ⟨rfl, hb2⟩
    go_wp2_with fail
    refine (HNu _ (HA.out.below hb2)).mono ?_
    rintro e w3 ⟨a3, c3, rfl, h3, hb3⟩
    have H3 := Lib.hid h3
    clear h3
    go_wp2_with fail
    refine (HT _ _ _ H3.out).mono ?_
    rintro e w4 ⟨v4, rfl, h4, hb4⟩
    obtain ⟨a4, c4, rfl, h4'⟩ := OKV.own Rt.c2 h4
    have H4 := Lib.hid h4'
    clear h4 h4'
    go_wp2_with fail
    refine (HCo _ _ _ H4.out).mono ?_
    rintro e w5 ⟨rfl, hb5⟩
    have B5 := tw (tw (tw hb2 hb3) hb4) hb5
    have H5 := Lib.hid (H4.out.below hb5)
    cases p
    · have HE := Lib.hid (show marE l (B : Int) = 0 by rw [HE0.out]; rfl)
      clear HE0
      go_wp2
      go_ret2
      exact ⟨a4, c4, by rw [HE.out, ozL0]; rfl, by rw [HE.out, ozL0]; exact H5.out, B5⟩
    · have HE := Lib.hid (show marE l (B : Int) = 4 by rw [HE0.out]; rfl)
      clear HE0
      go_wp2
      go_ret2
      exact ⟨none, 0, by rw [HE.out, ozLE (by decide)]; rfl, by rw [HE.out, ozLE (by decide)]; exact OKV.none _ _ _, B5⟩
  · have hE : marE l b = ropE l b := by rw [marE, if_neg hz]
    rw [hE, ozLE hz]
    generalize ropE l b = E at HC hz ⊢
    have hne := nzH hz
    clear hz hE hA
    go_enter Tryz.func41, Tryz.ntmps41
    go_wp2_with fail
    refine (HC _ HA.out).mono ?_
    rintro e w3 ⟨rfl, hb3⟩
    go_wp2
    go_ret2
    exact ⟨none, 0, rfl, OKV.none _ _ _, hb3⟩
end Go.Proofs.YtlkeejhaodedmaaGreatDoor

/- hang: names of twines, what is new, what is known. -/
namespace Go.Proofs.YtlkeejhaodedmaaGreatDoor
open Go.RowKit

def nmE (a b : ByteArray) : Bool := a.toList == b.toList
theorem nmE_iff (a b : ByteArray) : nmE a b = true ↔ a = b := by
  unfold nmE
  rw [beq_iff_eq, Lib.toList_data, Lib.toList_data]
  constructor
  · intro h
    cases a; cases b
    congr 1
    exact Array.toList_inj.1 h
  · rintro rfl; rfl
def nmK (s : ByteArray) (t : Twn) : Bool := nmE s t.s
def nmN (s : ByteArray) (t : Twn) : Bool := nmE t.s s
def namE (s : ByteArray) : Int := if nameB s = true then 0 else 8
set_option maxHeartbeats 400000 in
theorem hgCheckName (s : ByteArray) (w : World) :
    Calls Tryz.prog 109 #[.string s] w fun e w' => e = .returned (.int .i64 (namE s)) ∧ Below w.heap.size w w' := by
  have HM := fun w => netIsName s w
  have HB := Lib.hid (show (if nameB s = true then 0 else 8) = namE s from rfl)
  generalize nameB s = p at HM HB
  generalize namE s = E at HB ⊢
  cases p
  · have HB2 := Lib.hid (show (8 : Int) = E by rw [← HB.out]; rfl)
    go_enter Tryz.func109, Tryz.ntmps109
    go_wp2_with fail
    refine (HM _).mono ?_
    rintro e w1 ⟨rfl, hb1⟩
    go_wp2
    go_ret
    exact ⟨ret_i HB2.out, hb1⟩
  · have HB2 := Lib.hid (show (0 : Int) = E by rw [← HB.out]; rfl)
    go_enter Tryz.func109, Tryz.ntmps109
    go_wp2_with fail
    refine (HM _).mono ?_
    rintro e w1 ⟨rfl, hb1⟩
    go_wp2
    go_ret
    exact ⟨ret_i HB2.out, hb1⟩
set_option maxHeartbeats 1000000 in
set_option maxRecDepth 100000 in
theorem hgHasName (a b : Twn) (w : World) :
    Calls Tryz.prog 111 #[.agg #[.string a.s, .int .i64 a.x, .int .i64 a.h], .agg #[.string b.s, .int .i64 b.x, .int .i64 b.h]] w fun e w' => e = .returned (.bool (nmE a.s b.s)) ∧ Below w.heap.size w w' := by
  obtain ⟨w1, hw1, k1, hb1, hz1⟩ := boxS w (.cells #[.string a.s, .int .i64 a.x, .int .i64 a.h] 132)
  obtain ⟨w2, hw2, k2, hb2, hz2⟩ := boxS w1 (.cells #[.string b.s, .int .i64 b.x, .int .i64 b.h] 132)
  obtain ⟨c0, c1, c2, -, -, -⟩ := cel3 (blkT k1 hb2)
  obtain ⟨d0, d1, d2, -, -, -⟩ := cel3 k2
  go_enter Tryz.func111, Tryz.ntmps111
  go_wp2
  go_ret
  exact ⟨ret_b (by unfold nmE; first | rfl | simp), tw hb1 hb2⟩
set_option maxHeartbeats 1000000 in
set_option maxRecDepth 100000 in
theorem hgNew1 (f g : Nat) (a t : Twn) (w : World) (hf : w.cell? ⟨f, 0, none⟩ = some (.func (.func 111) #[] #[])) (h0 : w.cell? ⟨g, 0, none⟩ = some (.string t.s)) (h1 : w.cell? ⟨g, 1, none⟩ = some (.int .i64 t.x)) (h2 : w.cell? ⟨g, 2, none⟩ = some (.int .i64 t.h)) (hfB : f < w.heap.size) (hgB : g < w.heap.size) :
    Calls Tryz.prog 134 #[.agg #[.string a.s, .int .i64 a.x, .int .i64 a.h], .pointer (some ⟨f, 0, none⟩), .pointer (some ⟨g, 0, none⟩)] w fun e w' => e = .returned (.bool (nmE a.s t.s)) ∧ Below w.heap.size w w' := by
  obtain ⟨w1, hw1, k1, hb1, hz1⟩ := boxS w (.cells #[.string a.s, .int .i64 a.x, .int .i64 a.h] 132)
  obtain ⟨c0, c1, c2, -, -, -⟩ := cel3 k1
  have f0 := (hb1.cell (p := ⟨f, 0, none⟩) hfB).trans hf
  have g0 := (hb1.cell (p := ⟨g, 0, none⟩) hgB).trans h0
  have g1 := (hb1.cell (p := ⟨g, 1, none⟩) hgB).trans h1
  have g2 := (hb1.cell (p := ⟨g, 2, none⟩) hgB).trans h2
  clear hf h0 h1 h2
  go_enter Tryz.func134, Tryz.ntmps134
  go_wp2_with fail
  refine (hgHasName a t _).mono ?_
  rintro e w3 ⟨rfl, hb3⟩
  go_wp2
  go_ret
  exact ⟨rfl, tw hb1 hb3⟩
set_option maxHeartbeats 2000000 in
set_option maxRecDepth 100000 in
theorem hgIndexN (f g : Nat) (t : Twn) (A : Option Addr) (c : Nat) (L : List Twn) (w : World) (hL : L.length ≤ 100000) (hf : w.cell? ⟨f, 0, none⟩ = some (.func (.func 111) #[] #[])) (h0 : w.cell? ⟨g, 0, none⟩ = some (.string t.s)) (h1 : w.cell? ⟨g, 1, none⟩ = some (.int .i64 t.x)) (h2 : w.cell? ⟨g, 2, none⟩ = some (.int .i64 t.h)) (hfB : f < w.heap.size) (hgB : g < w.heap.size) (hA : OKV Twn.c 3 w A c L) :
    Calls Tryz.prog 146 #[.slice A L.length c, .func (.func 134) #[] #[.pointer (some ⟨f, 0, none⟩), .pointer (some ⟨g, 0, none⟩)]] w (IdxP (nmN t.s) L w) := by
  have HR := Lib.hid hA.2.2.2
  have HF := Lib.hid hf
  have H0 := Lib.hid h0
  have H1 := Lib.hid h1
  have H2 := Lib.hid h2
  clear hf h0 h1 h2
  clear hA
  go_enter Tryz.func146, Tryz.ntmps146
  go_wp2_with fail
  go_loopw [5, 8] (fun _ i wr => ∃ k : Nat, k ≤ L.length ∧ i = .int .i64 k ∧ Hid (∀ i (hi : i < L.length), i < k → nmN t.s L[i] = false) ∧ Below w.heap.size w wr) (fun _ i _ => L.length - (intOf i).toNat)
  case atStart => exact ⟨0, Nat.zero_le _, rfl, Lib.hid (fun _ _ h => by omega), Below.refl _ _⟩
  case round =>
    obtain ⟨k, hk, rfl, HN, hb⟩ := hrel
    by_cases hlt : k < L.length
    · have hki : (k : Int) < (L.length : Int) := by omega
      have hk0 : (0 : Int) ≤ (k : Int) := by omega
      have hrv := HR.out.to hb
      have HM := fun w1 (hw : Below wr.heap.size wr w1) => hgNew1 f g L[k] t w1 (((tw hb hw).cell (p := ⟨f, 0, none⟩) hfB).trans HF.out) (((tw hb hw).cell (p := ⟨g, 0, none⟩) hgB).trans H0.out) (((tw hb hw).cell (p := ⟨g, 1, none⟩) hgB).trans H1.out) (((tw hb hw).cell (p := ⟨g, 2, none⟩) hgB).trans H2.out) (Nat.lt_of_lt_of_le hfB (tw hb hw).size) (Nat.lt_of_lt_of_le hgB (tw hb hw).size)
      obtain ⟨b, off, rfl, hB, c0, c1, c2⟩ := atT hrv hlt
      obtain ⟨p, hp⟩ : ∃ p, nmN t.s L[k] = p := ⟨_, rfl⟩
      have HP := Lib.hid hp
      simp only [show nmE L[k].s t.s = p from hp] at HM
      clear hrv hp
      go_wp2_with fail
      refine (HM _ (Below.refl _ _)).mono ?_
      rintro e w3 ⟨rfl, hb3⟩
      cases p
      · go_wp2
        go_roundw
        case rel => exact ⟨k + 1, by omega, by go_num, Lib.hid (fun i hi hik => (Nat.lt_or_ge i k).elim (HN.out i hi) (fun h => by
          obtain rfl : i = k := by omega
          exact HP.out)), tw hb hb3⟩
        case measure => simp [intOf]; omega
      · go_wp2
        go_ret
        obtain ⟨q1, q2⟩ := any_step (nmN t.s) L hlt (fun i hi => HN.out i (by omega) hi) HP.out
        exact ⟨(k : Int), rfl, by rw [q1]; simp, fun _ => ⟨k, rfl, q2⟩, tw hb hb3⟩
    · obtain rfl : k = L.length := by omega
      have HF := Lib.hid (any_none (nmN t.s) L (fun i hi => HN.out i hi hi))
      go_wp2
      go_ret
      exact ⟨-1, rfl, by rw [HF.out]; rfl, fun h => absurd h (by decide), hb⟩
set_option maxHeartbeats 1000000 in
set_option maxRecDepth 100000 in
theorem hgContainsN (f g : Nat) (t : Twn) (A : Option Addr) (c : Nat) (L : List Twn) (w : World) (hL : L.length ≤ 100000) (hf : w.cell? ⟨f, 0, none⟩ = some (.func (.func 111) #[] #[])) (h0 : w.cell? ⟨g, 0, none⟩ = some (.string t.s)) (h1 : w.cell? ⟨g, 1, none⟩ = some (.int .i64 t.x)) (h2 : w.cell? ⟨g, 2, none⟩ = some (.int .i64 t.h)) (hfB : f < w.heap.size) (hgB : g < w.heap.size) (hA : OKV Twn.c 3 w A c L) :
    Calls Tryz.prog 133 #[.slice A L.length c, .func (.func 134) #[] #[.pointer (some ⟨f, 0, none⟩), .pointer (some ⟨g, 0, none⟩)]] w fun e w' => e = .returned (.bool (L.any (nmN t.s))) ∧ Below w.heap.size w w' := by
  go_enter Tryz.func133, Tryz.ntmps133
  go_wp2_with fail
  refine (hgIndexN f g t A c L _ hL hf h0 h1 h2 hfB hgB hA).mono ?_
  rintro e w3 ⟨j, rfl, hj, -, hb3⟩
  have HJ := Lib.hid hj
  clear hj
  go_wp2
  go_ret
  exact ⟨ret_b (by rw [← HJ.out]), hb3⟩
set_option maxHeartbeats 2000000 in
set_option maxRecDepth 100000 in
theorem hgIndexK (s : ByteArray) (x h : Int) (A : Option Addr) (c : Nat) (L : List Twn) (w : World) (hL : L.length ≤ 100000) (hA : OKV Twn.c 3 w A c L) :
    Calls Tryz.prog 146 #[.slice A L.length c, .func (.func 111) #[.agg #[.string s, .int .i64 x, .int .i64 h]] #[]] w (IdxP (nmK s) L w) := by
  have HR := Lib.hid hA.2.2.2
  clear hA
  go_enter Tryz.func146, Tryz.ntmps146
  go_wp2_with fail
  go_loopw [5, 8] (fun _ i wr => ∃ k : Nat, k ≤ L.length ∧ i = .int .i64 k ∧ Hid (∀ i (hi : i < L.length), i < k → nmK s L[i] = false) ∧ Below w.heap.size w wr) (fun _ i _ => L.length - (intOf i).toNat)
  case atStart => exact ⟨0, Nat.zero_le _, rfl, Lib.hid (fun _ _ h => by omega), Below.refl _ _⟩
  case round =>
    obtain ⟨k, hk, rfl, HN, hb⟩ := hrel
    by_cases hlt : k < L.length
    · have hki : (k : Int) < (L.length : Int) := by omega
      have hk0 : (0 : Int) ≤ (k : Int) := by omega
      have hrv := HR.out.to hb
      obtain ⟨b, off, rfl, hB, c0, c1, c2⟩ := atT hrv hlt
      obtain ⟨p, hp⟩ : ∃ p, nmK s L[k] = p := ⟨_, rfl⟩
      have HP := Lib.hid hp
      have HM := fun w => hgHasName ⟨s, x, h⟩ L[k] w
      simp only [show nmE s L[k].s = p from hp] at HM
      clear hrv hp
      go_wp2_with fail
      refine (HM _).mono ?_
      rintro e w3 ⟨rfl, hb3⟩
      cases p
      · go_wp2
        go_roundw
        case rel => exact ⟨k + 1, by omega, by go_num, Lib.hid (fun i hi hik => (Nat.lt_or_ge i k).elim (HN.out i hi) (fun h => by
          obtain rfl : i = k := by omega
          exact HP.out)), tw hb hb3⟩
        case measure => simp [intOf]; omega
      · go_wp2
        go_ret
        obtain ⟨q1, q2⟩ := any_step (nmK s) L hlt (fun i hi => HN.out i (by omega) hi) HP.out
        exact ⟨(k : Int), rfl, by rw [q1]; simp, fun _ => ⟨k, rfl, q2⟩, tw hb hb3⟩
    · obtain rfl : k = L.length := by omega
      have HF := Lib.hid (any_none (nmK s) L (fun i hi => HN.out i hi hi))
      go_wp2
      go_ret
      exact ⟨-1, rfl, by rw [HF.out]; rfl, fun h => absurd h (by decide), hb⟩
set_option maxHeartbeats 1000000 in
set_option maxRecDepth 100000 in
theorem hgContainsK (s : ByteArray) (x h : Int) (A : Option Addr) (c : Nat) (L : List Twn) (w : World) (hL : L.length ≤ 100000) (hA : OKV Twn.c 3 w A c L) :
    Calls Tryz.prog 133 #[.slice A L.length c, .func (.func 111) #[.agg #[.string s, .int .i64 x, .int .i64 h]] #[]] w fun e w' => e = .returned (.bool (L.any (nmK s))) ∧ Below w.heap.size w w' := by
  go_enter Tryz.func133, Tryz.ntmps133
  go_wp2_with fail
  refine (hgIndexK s x h A c L _ hL hA).mono ?_
  rintro e w3 ⟨j, rfl, hj, -, hb3⟩
  have HJ := Lib.hid hj
  clear hj
  go_wp2
  go_ret
  exact ⟨ret_b (by rw [← HJ.out]), hb3⟩
end Go.Proofs.YtlkeejhaodedmaaGreatDoor

/- hang: the checks of twines and lines. -/
namespace Go.Proofs.YtlkeejhaodedmaaGreatDoor
open Go.RowKit

theorem OKV.take {α : Type} {enc : α → List Value} {k : Nat} {w : World} {A : Option Addr} {c : Nat} {l : List α} (h : OKV enc k w A c l) (n : Nat) : OKV enc k w A c (l.take n) :=
  ⟨by have := h.1; rw [List.length_take]; omega, h.2.1, h.2.2.1, h.2.2.2.take n⟩
def newE (bf : List Twn) (t : Twn) : Int := if bf.any (nmN t.s) = true then 9 else 0
def twnE (bf : List Twn) (t : Twn) : Int := fstE [namE t.s, newE bf t, rngH t.x 1 100000, rngH t.h 1 100]
def twsE (l : List Twn) : Int := if 32 < l.length then 5 else lstE twnE [] l
def knwE (tb : List Twn) (s : ByteArray) : Int := if tb.any (nmK s) = true then 0 else 10
def linE (tb : List Twn) (x : Lin) : Int := fstE [rngH x.b 0 100000, rngH x.k 0 100000, rngH x.r 1 100, knwE tb x.s]
def lnsE (tb : List Twn) (l : List Lin) : Int := if 64 < l.length then 5 else lstE (fun _ s => linE tb s) [] l
set_option maxHeartbeats 1000000 in
set_option maxRecDepth 100000 in
theorem hgCheckNew (A : Option Addr) (c n : Nat) (bf : List Twn) (t : Twn) (w : World) (hn : bf.length = n) (hl : bf.length ≤ 100000) (hA : OKV Twn.c 3 w A c bf) :
    Calls Tryz.prog 110 #[.slice A n c, .agg #[.string t.s, .int .i64 t.x, .int .i64 t.h], .func (.func 111) #[] #[]] w fun e w' => e = .returned (.int .i64 (newE bf t)) ∧ Below w.heap.size w w' := by
  subst hn
  obtain ⟨w1, hw1, k1, hb1, hz1⟩ := boxS w (.cells #[.string t.s, .int .i64 t.x, .int .i64 t.h] 132)
  obtain ⟨w2, hw2, k2, hb2, hz2⟩ := boxS w1 (.cells #[.func (.func 111) #[] #[]] 161)
  obtain ⟨c0, c1, c2, -, -, -⟩ := cel3 (blkT k1 hb2)
  obtain ⟨d0, -⟩ := cel1 k2
  have HM := hgContainsN w1.heap.size w.heap.size t A c bf w2 hl d0 c0 c1 c2 hz2 (by omega) ((hA.below hb1).below hb2)
  have HE := Lib.hid (show (if bf.any (nmN t.s) = true then 9 else 0) = newE bf t from rfl)
  generalize bf.any (nmN t.s) = p at HM HE
  generalize newE bf t = E at HE ⊢
  have B2 := tw hb1 hb2
  clear hA k1 k2 hb1 hb2
  cases p
  · have HE2 := Lib.hid (show (0 : Int) = E by rw [← HE.out]; rfl)
    go_enter Tryz.func110, Tryz.ntmps110
    go_wp2_with fail
    refine HM.mono ?_
    rintro e w3 ⟨rfl, hb3⟩
    go_wp2
    go_ret
    exact ⟨ret_i HE2.out, tw B2 hb3⟩
  · have HE2 := Lib.hid (show (9 : Int) = E by rw [← HE.out]; rfl)
    go_enter Tryz.func110, Tryz.ntmps110
    go_wp2_with fail
    refine HM.mono ?_
    rintro e w3 ⟨rfl, hb3⟩
    go_wp2
    go_ret
    exact ⟨ret_i HE2.out, tw B2 hb3⟩
theorem keepT {W w1 w2 : World} {g : Nat} {x y z : Value} {A : Option Addr} {c : Nat} {l : List Twn} (k : w1.cell? ⟨g, 0, none⟩ = some x ∧ w1.cell? ⟨g, 1, none⟩ = some y ∧ w1.cell? ⟨g, 2, none⟩ = some z ∧ OKV Twn.c 3 w1 A c l ∧ Below W.heap.size W w1 ∧ g < w1.heap.size) (hb : Below w1.heap.size w1 w2) :
    w2.cell? ⟨g, 0, none⟩ = some x ∧ w2.cell? ⟨g, 1, none⟩ = some y ∧ w2.cell? ⟨g, 2, none⟩ = some z ∧ OKV Twn.c 3 w2 A c l ∧ Below W.heap.size W w2 ∧ g < w2.heap.size := by
  obtain ⟨h0, h1, h2, h3, h4, h5⟩ := k
  have := hb.size
  exact ⟨(hb.cell (p := ⟨g, 0, none⟩) h5).trans h0, (hb.cell (p := ⟨g, 1, none⟩) h5).trans h1, (hb.cell (p := ⟨g, 2, none⟩) h5).trans h2, h3.below hb, tw h4 hb, by omega⟩
theorem okT {W w1 : World} {g : Nat} {x y z : Value} {A : Option Addr} {c : Nat} {l : List Twn} (k : w1.cell? ⟨g, 0, none⟩ = some x ∧ w1.cell? ⟨g, 1, none⟩ = some y ∧ w1.cell? ⟨g, 2, none⟩ = some z ∧ OKV Twn.c 3 w1 A c l ∧ Below W.heap.size W w1 ∧ g < w1.heap.size) : OKV Twn.c 3 w1 A c l := k.2.2.2.1
set_option maxHeartbeats 4000000 in
set_option maxRecDepth 100000 in
theorem hgTwnF (A : Option Addr) (c n : Nat) (bf : List Twn) (t : Twn) (w : World) (hn : bf.length = n) (hl : bf.length ≤ 100000) (hA : OKV Twn.c 3 w A c bf) :
    Calls Tryz.prog 108 #[.slice A n c, .agg #[.string t.s, .int .i64 t.x, .int .i64 t.h]] w fun e w' => e = .returned (.int .i64 (twnE bf t)) ∧ Below w.heap.size w w' := by
  obtain ⟨w1, hw1, k1, hb1, hz1⟩ := boxS w (.cells #[.string t.s, .int .i64 t.x, .int .i64 t.h] 132)
  obtain ⟨c0, c1, c2, -, -, -⟩ := cel3 k1
  have hA1 := hA.below hb1
  have HE := Lib.hid (show fstE [namE t.s, newE bf t, rngH t.x 1 100000, rngH t.h 1 100] = twnE bf t from rfl)
  have HN := fun w h => hgCheckNew A c n bf t w hn hl h
  generalize newE bf t = N at HE HN
  generalize twnE bf t = E at HE ⊢
  clear k1 hA
  go_enter Tryz.func108, Tryz.ntmps108
  go_wp2_with fail
  go_region_held3 (fun w' => w'.cell? ⟨w.heap.size, 0, none⟩ = some (.string t.s) ∧ w'.cell? ⟨w.heap.size, 1, none⟩ = some (.int .i64 t.x) ∧ w'.cell? ⟨w.heap.size, 2, none⟩ = some (.int .i64 t.h) ∧ OKV Twn.c 3 w' A c bf ∧ Below w.heap.size w w' ∧ w.heap.size < w'.heap.size)
    (first | exact ⟨c0, c1, c2, hA1, hb1, hz1⟩ | exact ⟨c0, c1, c2, hA1, below_drew hb1, hz1⟩ | exact keepT (by assumption) (by assumption) | exact keepT (by assumption) ((Below.refl _ _).alloc (Nat.le_refl _) _) | assumption | exact keepT (by assumption) (below_drew (Below.refl _ _)) | go_keep)
    (first
      | (go_at_call 109; refine (hgCheckName _ _).mono ?_; rintro e w' ⟨rfl, hb⟩)
      | (go_at_call 110; refine (HN _ (okT (by assumption))).mono ?_; rintro e w' ⟨rfl, hb⟩)
      | (go_at_call 97; refine (hgCheckTex _ _).mono ?_; rintro e w' ⟨rfl, rfl⟩)
      | (go_at_call 73; refine (hgCheckRange _ _ _ _).mono ?_; rintro e w' ⟨rfl, rfl⟩)
      | (go_at_call 72; refine (hgFirst4 _ _ _ _ _ _ 26 _ (by exact newBlk _ _)).mono ?_; rintro e w' ⟨rfl, rfl⟩))
  all_goals
    rename_i hH
    rw [HE.out]
    go_wp2
    go_ret
    exact ⟨rfl, hH.2.2.2.2.1⟩
set_option maxHeartbeats 2000000 in
set_option maxRecDepth 100000 in
theorem hgListT (A : Option Addr) (c : Nat) (l : List Twn) (w : World) (hl : l.length ≤ 1000) (hA : OKV Twn.c 3 w A c l) :
    Calls Tryz.prog 107 #[.slice A l.length c, .int .i64 32, .func (.func 108) #[] #[]] w fun e w' => e = .returned (.int .i64 (if 32 < l.length then 5 else lstE twnE [] l)) ∧ Below w.heap.size w w' := by
  have hlc := hA.1
  have hcm := hA.2.1
  unfold maxLen at hcm
  by_cases hm : 32 < l.length
  · rw [if_pos hm]
    have hmi : (32 : Int) < (l.length : Int) := by omega
    clear hm
    go_enter Tryz.func107, Tryz.ntmps107
    go_wp2
    go_ret
    exact ⟨rfl, Below.refl _ _⟩
  · rw [if_neg hm]
    have hmi : ¬ (32 : Int) < (l.length : Int) := by omega
    have HO := Lib.hid hA
    obtain ⟨E, hE⟩ : ∃ E, lstE twnE [] l = E := ⟨_, rfl⟩
    have H0 := Lib.hid (show lstE twnE (l.take 0) (l.drop 0) = E from hE)
    rw [hE]
    clear hE hA
    go_enter Tryz.func107, Tryz.ntmps107
    go_wp2_with fail
    go_loopw [16] (fun i wr => ∃ k : Nat, k ≤ l.length ∧ i = .int .i64 k ∧ Hid (lstE twnE (l.take k) (l.drop k) = E) ∧ Below w.heap.size w wr) (fun i _ => l.length - (intOf i).toNat)
    case atStart => exact ⟨0, Nat.zero_le _, rfl, H0, Below.refl _ _⟩
    case round =>
      obtain ⟨k, hk, rfl, HC, hb⟩ := hrel
      by_cases hlt : k < l.length
      · have hki : (k : Int) < (l.length : Int) := by omega
        have hk0 : (0 : Int) ≤ (k : Int) := by omega
        have hkc : (k : Int) ≤ (c : Int) := by omega
        have hbo := HO.out.below hb
        obtain ⟨b, off, rfl, hB, c0, c1, c2⟩ := atT hbo.2.2.2 hlt
        have hbf := hbo.take k
        have hlk : (l.take k).length = k := by rw [List.length_take]; omega
        have HC2 := Lib.hid (show (if twnE (l.take k) l[k] = 0 then lstE twnE (l.take (k + 1)) (l.drop (k + 1)) else twnE (l.take k) l[k]) = E from (lstE_step twnE l hlt).symm.trans HC.out)
        generalize l[k] = s at c0 c1 c2 HC2
        generalize hB0 : l.take k = bf at hbf hlk HC2
        have HF := fun w1 (h : Below wr.heap.size wr w1) => hgTwnF _ c k bf s w1 hlk (by omega) (hbf.below h)
        clear hbf
        obtain ⟨w1, hw1, k1, hb1, hz1⟩ := boxS wr (.cells #[.string s.s, .int .i64 s.x, .int .i64 s.h] 132)
        obtain ⟨d0, d1, d2, -, -, -⟩ := cel3 k1
        have B1 := tw hb hb1
        clear HC k1
        go_wp2_with fail
        refine wp_region_still_tail 5 (by kernel_rfl) (by kernel_rfl) ?_
        simp only [List.take_succ_cons, List.take_zero, List.drop_succ_cons, List.drop_zero]
        still_step
        still_step
        still_step
        still_step
        still_step
        refine wpStill_nil ?_
        change wpList _ _ _ _ _ w1.drew
        have B1d : Below w.heap.size w w1.drew := below_drew B1
        have b1d : Below wr.heap.size wr w1.drew := below_drew hb1
        generalize World.drew w1 = w2 at *
        go_wp2_with fail
        refine (HF _ b1d).mono ?_
        rintro e w3 ⟨rfl, hb3⟩
        have B3 := tw B1d hb3
        by_cases hz : twnE bf s = 0
        · have HC3 := Lib.hid (show lstE twnE (l.take (k + 1)) (l.drop (k + 1)) = E by rw [← HC2.out, if_pos hz])
          rw [hz]
          clear hz
          go_wp2
          go_roundw
          case rel => exact ⟨k + 1, by omega, by go_num, HC3, B3⟩
          case measure => simp [intOf]; omega
        · have HC3 := Lib.hid (show twnE bf s = E by rw [← HC2.out, if_neg hz])
          have hne := nzH hz
          clear hz
          go_wp2
          go_ret
          exact ⟨ret_i HC3.out, B3⟩
      · obtain rfl : k = l.length := by omega
        have HE := Lib.hid (show (0 : Int) = E by rw [← HC.out, lstE_end])
        clear HC
        go_wp2
        go_ret
        exact ⟨ret_i HE.out, hb⟩
set_option maxHeartbeats 400000 in
theorem hgCheckTwines (A : Option Addr) (c : Nat) (l : List Twn) (w : World) (hl : l.length ≤ 1000) (hA : OKV Twn.c 3 w A c l) :
    Calls Tryz.prog 54 #[.slice A l.length c] w fun e w' => e = .returned (.int .i64 (twsE l)) ∧ Below w.heap.size w w' := by
  have HM := fun w h => hgListT A c l w hl h
  rw [show (if 32 < l.length then 5 else lstE twnE [] l) = twsE l from rfl] at HM
  go_enter Tryz.func54, Tryz.ntmps54
  go_wp2_with fail
  refine (HM _ hA).mono ?_
  rintro e w3 ⟨rfl, hb3⟩
  go_wp2
  go_ret
  exact ⟨rfl, hb3⟩
set_option maxHeartbeats 1000000 in
set_option maxRecDepth 100000 in
theorem hgCheckKnown (A : Option Addr) (c : Nat) (tb : List Twn) (s : ByteArray) (w : World) (hl : tb.length ≤ 1000) (hA : OKV Twn.c 3 w A c tb) :
    Calls Tryz.prog 137 #[.slice A tb.length c, .string s] w fun e w' => e = .returned (.int .i64 (knwE tb s)) ∧ Below w.heap.size w w' := by
  have HM := fun w h => hgContainsK s 0 0 A c tb w (by omega) h
  have HE := Lib.hid (show (if tb.any (nmK s) = true then 0 else 10) = knwE tb s from rfl)
  generalize tb.any (nmK s) = p at HM HE
  generalize knwE tb s = E at HE ⊢
  cases p
  · have HE2 := Lib.hid (show (10 : Int) = E by rw [← HE.out]; rfl)
    go_enter Tryz.func137, Tryz.ntmps137
    go_wp2_with fail
    refine (HM _ hA).mono ?_
    rintro e w3 ⟨rfl, hb3⟩
    go_wp2
    go_ret
    exact ⟨ret_i HE2.out, hb3⟩
  · have HE2 := Lib.hid (show (0 : Int) = E by rw [← HE.out]; rfl)
    go_enter Tryz.func137, Tryz.ntmps137
    go_wp2_with fail
    refine (HM _ hA).mono ?_
    rintro e w3 ⟨rfl, hb3⟩
    go_wp2
    go_ret
    exact ⟨ret_i HE2.out, hb3⟩
theorem keepL {W w1 w2 : World} {g q : Nat} {x y z u v : Value} {A : Option Addr} {c : Nat} {l : List Twn} (k : w1.cell? ⟨g, 0, none⟩ = some x ∧ w1.cell? ⟨g, 1, none⟩ = some y ∧ w1.cell? ⟨g, 2, none⟩ = some z ∧ w1.cell? ⟨g, 3, none⟩ = some u ∧ w1.cell? ⟨q, 0, none⟩ = some v ∧ OKV Twn.c 3 w1 A c l ∧ Below W.heap.size W w1 ∧ g < w1.heap.size ∧ q < w1.heap.size) (hb : Below w1.heap.size w1 w2) :
    w2.cell? ⟨g, 0, none⟩ = some x ∧ w2.cell? ⟨g, 1, none⟩ = some y ∧ w2.cell? ⟨g, 2, none⟩ = some z ∧ w2.cell? ⟨g, 3, none⟩ = some u ∧ w2.cell? ⟨q, 0, none⟩ = some v ∧ OKV Twn.c 3 w2 A c l ∧ Below W.heap.size W w2 ∧ g < w2.heap.size ∧ q < w2.heap.size := by
  obtain ⟨h0, h1, h2, h3, h4, h5, h6, h7, h8⟩ := k
  have := hb.size
  exact ⟨(hb.cell (p := ⟨g, 0, none⟩) h7).trans h0, (hb.cell (p := ⟨g, 1, none⟩) h7).trans h1, (hb.cell (p := ⟨g, 2, none⟩) h7).trans h2, (hb.cell (p := ⟨g, 3, none⟩) h7).trans h3, (hb.cell (p := ⟨q, 0, none⟩) h8).trans h4, h5.below hb, tw h6 hb, by omega, by omega⟩
theorem okL {W w1 : World} {g q : Nat} {x y z u v : Value} {A : Option Addr} {c : Nat} {l : List Twn} (k : w1.cell? ⟨g, 0, none⟩ = some x ∧ w1.cell? ⟨g, 1, none⟩ = some y ∧ w1.cell? ⟨g, 2, none⟩ = some z ∧ w1.cell? ⟨g, 3, none⟩ = some u ∧ w1.cell? ⟨q, 0, none⟩ = some v ∧ OKV Twn.c 3 w1 A c l ∧ Below W.heap.size W w1 ∧ g < w1.heap.size ∧ q < w1.heap.size) : OKV Twn.c 3 w1 A c l := k.2.2.2.2.2.1
set_option maxHeartbeats 4000000 in
set_option maxRecDepth 100000 in
theorem hgLinF (q : Nat) (A : Option Addr) (c : Nat) (tb : List Twn) (v : Value) (x : Lin) (w : World) (hl : tb.length ≤ 1000) (hq : w.cell? ⟨q, 0, none⟩ = some (.slice A tb.length c)) (hA : OKV Twn.c 3 w A c tb) :
    Calls Tryz.prog 136 #[v, .agg #[.int .i64 x.b, .int .i64 x.k, .int .i64 x.r, .string x.s], .pointer (some ⟨q, 0, none⟩)] w fun e w' => e = .returned (.int .i64 (linE tb x)) ∧ Below w.heap.size w w' := by
  have hqB : q < w.heap.size := by
    rcases Nat.lt_or_ge q w.heap.size with h | h
    · exact h
    · simp [World.cell?, Array.getElem?_eq_none h] at hq
  obtain ⟨w1, hw1, k1, hb1, hz1⟩ := boxS w (.cells #[.int .i64 x.b, .int .i64 x.k, .int .i64 x.r, .string x.s] 133)
  obtain ⟨c0, c1, c2, c3, -, -, -, -⟩ := cel4 k1
  have hq1 := (hb1.cell (p := ⟨q, 0, none⟩) hqB).trans hq
  have hz2 : q < w1.heap.size := by omega
  have hA1 := hA.below hb1
  have HE := Lib.hid (show fstE [rngH x.b 0 100000, rngH x.k 0 100000, rngH x.r 1 100, knwE tb x.s] = linE tb x from rfl)
  have HN := fun w h => hgCheckKnown A c tb x.s w hl h
  generalize knwE tb x.s = N at HE HN
  generalize linE tb x = E at HE ⊢
  clear k1 hA hq
  go_enter Tryz.func136, Tryz.ntmps136
  go_wp2_with fail
  go_region_held3 (fun w' => w'.cell? ⟨w.heap.size, 0, none⟩ = some (.int .i64 x.b) ∧ w'.cell? ⟨w.heap.size, 1, none⟩ = some (.int .i64 x.k) ∧ w'.cell? ⟨w.heap.size, 2, none⟩ = some (.int .i64 x.r) ∧ w'.cell? ⟨w.heap.size, 3, none⟩ = some (.string x.s) ∧ w'.cell? ⟨q, 0, none⟩ = some (.slice A tb.length c) ∧ OKV Twn.c 3 w' A c tb ∧ Below w.heap.size w w' ∧ w.heap.size < w'.heap.size ∧ q < w'.heap.size)
    (first | exact ⟨c0, c1, c2, c3, hq1, hA1, hb1, hz1, hz2⟩ | exact ⟨c0, c1, c2, c3, hq1, hA1, below_drew hb1, hz1, hz2⟩ | exact keepL (by assumption) (by assumption) | exact keepL (by assumption) ((Below.refl _ _).alloc (Nat.le_refl _) _) | assumption | exact keepL (by assumption) (below_drew (Below.refl _ _)) | go_keep)
    (first
      | (go_at_call 112; refine (hgCheckCount _ _).mono ?_; rintro e w' ⟨rfl, rfl⟩)
      | (go_at_call 77; refine (hgCheckBar _ _).mono ?_; rintro e w' ⟨rfl, rfl⟩)
      | (go_at_call 137; refine (HN _ (okL (by assumption))).mono ?_; rintro e w' ⟨rfl, hb⟩)
      | (go_at_call 72; refine (hgFirst4 _ _ _ _ _ _ 26 _ (by exact newBlk _ _)).mono ?_; rintro e w' ⟨rfl, rfl⟩))
  all_goals
    rename_i hH
    rw [HE.out]
    go_wp2
    go_ret
    exact ⟨rfl, hH.2.2.2.2.2.2.1⟩
set_option maxHeartbeats 2000000 in
set_option maxRecDepth 100000 in
theorem hgListL (q : Nat) (At : Option Addr) (ct : Nat) (tb : List Twn) (A : Option Addr) (c : Nat) (l : List Lin) (w : World) (hl : l.length ≤ 1000) (hq : w.cell? ⟨q, 0, none⟩ = some (.slice At tb.length ct)) (hqB : q < w.heap.size) (htl : tb.length ≤ 1000) (hT : OKV Twn.c 3 w At ct tb) (hA : OKV Lin.c 4 w A c l) :
    Calls Tryz.prog 135 #[.slice A l.length c, .int .i64 64, .func (.func 136) #[] #[.pointer (some ⟨q, 0, none⟩)]] w fun e w' => e = .returned (.int .i64 (if 64 < l.length then 5 else lstE (fun _ s => linE tb s) [] l)) ∧ Below w.heap.size w w' := by
  have hlc := hA.1
  have hcm := hA.2.1
  unfold maxLen at hcm
  by_cases hm : 64 < l.length
  · rw [if_pos hm]
    have hmi : (64 : Int) < (l.length : Int) := by omega
    clear hm
    go_enter Tryz.func135, Tryz.ntmps135
    go_wp2
    go_ret
    exact ⟨rfl, Below.refl _ _⟩
  · rw [if_neg hm]
    have hmi : ¬ (64 : Int) < (l.length : Int) := by omega
    have HR := Lib.hid hA.2.2.2
    have HQ := Lib.hid hq
    have HTB := Lib.hid hT
    clear hq hT
    obtain ⟨E, hE⟩ : ∃ E, lstE (fun _ s => linE tb s) [] l = E := ⟨_, rfl⟩
    have H0 := Lib.hid (show lstE (fun _ s => linE tb s) (l.take 0) (l.drop 0) = E from hE)
    rw [hE]
    clear hE hA
    go_enter Tryz.func135, Tryz.ntmps135
    go_wp2_with fail
    go_loopw [16] (fun i wr => ∃ k : Nat, k ≤ l.length ∧ i = .int .i64 k ∧ Hid (lstE (fun _ s => linE tb s) (l.take k) (l.drop k) = E) ∧ Below w.heap.size w wr) (fun i _ => l.length - (intOf i).toNat)
    case atStart => exact ⟨0, Nat.zero_le _, rfl, H0, Below.refl _ _⟩
    case round =>
      obtain ⟨k, hk, rfl, HC, hb⟩ := hrel
      by_cases hlt : k < l.length
      · have hki : (k : Int) < (l.length : Int) := by omega
        have hk0 : (0 : Int) ≤ (k : Int) := by omega
        have hkc : (k : Int) ≤ (c : Int) := by omega
        have hrv := HR.out.to hb
        have HF := fun v s w1 (h : Below wr.heap.size wr w1) => hgLinF q At ct tb v s w1 htl (((tw hb h).cell (p := ⟨q, 0, none⟩) hqB).trans HQ.out) (HTB.out.below (tw hb h))
        obtain ⟨b, off, rfl, hB, c0, c1, c2, c3⟩ := atL hrv hlt
        have HC2 := Lib.hid (show (if linE tb l[k] = 0 then lstE (fun _ s => linE tb s) (l.take (k + 1)) (l.drop (k + 1)) else linE tb l[k]) = E from (lstE_step (fun _ s => linE tb s) l hlt).symm.trans HC.out)
        generalize l[k] = s at c0 c1 c2 c3 HC2
        obtain ⟨w1, hw1, k1, hb1, hz1⟩ := boxS wr (.cells #[.int .i64 s.b, .int .i64 s.k, .int .i64 s.r, .string s.s] 133)
        obtain ⟨d0, d1, d2, d3, -, -, -, -⟩ := cel4 k1
        have B1 := tw hb hb1
        clear hrv HC k1
        go_wp2_with fail
        refine wp_region_still_tail 5 (by kernel_rfl) (by kernel_rfl) ?_
        simp only [List.take_succ_cons, List.take_zero, List.drop_succ_cons, List.drop_zero]
        still_step
        still_step
        still_step
        still_step
        still_step
        refine wpStill_nil ?_
        change wpList _ _ _ _ _ w1.drew
        have B1d : Below w.heap.size w w1.drew := below_drew B1
        have b1d : Below wr.heap.size wr w1.drew := below_drew hb1
        generalize World.drew w1 = w2 at *
        go_wp2_with fail
        refine (HF _ s _ b1d).mono ?_
        rintro e w3 ⟨rfl, hb3⟩
        have B3 := tw B1d hb3
        by_cases hz : linE tb s = 0
        · have HC3 := Lib.hid (show lstE (fun _ s => linE tb s) (l.take (k + 1)) (l.drop (k + 1)) = E by rw [← HC2.out, if_pos hz])
          rw [hz]
          clear hz
          go_wp2
          go_roundw
          case rel => exact ⟨k + 1, by omega, by go_num, HC3, B3⟩
          case measure => simp [intOf]; omega
        · have HC3 := Lib.hid (show linE tb s = E by rw [← HC2.out, if_neg hz])
          have hne := nzH hz
          clear hz
          go_wp2
          go_ret
          exact ⟨ret_i HC3.out, B3⟩
      · obtain rfl : k = l.length := by omega
        have HE := Lib.hid (show (0 : Int) = E by rw [← HC.out, lstE_end])
        clear HC
        go_wp2
        go_ret
        exact ⟨ret_i HE.out, hb⟩
set_option maxHeartbeats 400000 in
theorem hgCheckLines (At : Option Addr) (ct : Nat) (tb : List Twn) (A : Option Addr) (c : Nat) (l : List Lin) (w : World) (htl : tb.length ≤ 1000) (hl : l.length ≤ 1000) (hT : OKV Twn.c 3 w At ct tb) (hA : OKV Lin.c 4 w A c l) :
    Calls Tryz.prog 116 #[.slice At tb.length ct, .slice A l.length c] w fun e w' => e = .returned (.int .i64 (lnsE tb l)) ∧ Below w.heap.size w w' := by
  obtain ⟨w1, hw1, k1, hb1, hz1⟩ := boxS w (.cells #[.slice At tb.length ct] 81)
  obtain ⟨c0, -⟩ := cel1 k1
  have HM := hgListL w.heap.size At ct tb A c l w1 hl c0 hz1 htl (hT.below hb1) (hA.below hb1)
  rw [show (if 64 < l.length then 5 else lstE (fun _ s => linE tb s) [] l) = lnsE tb l from rfl] at HM
  go_enter Tryz.func116, Tryz.ntmps116
  go_wp2_with fail
  refine HM.mono ?_
  rintro e w3 ⟨rfl, hb3⟩
  go_wp2
  go_ret
  exact ⟨rfl, tw hb1 hb3⟩
end Go.Proofs.YtlkeejhaodedmaaGreatDoor

/- hang: lengths, weights, sums. -/
namespace Go.Proofs.YtlkeejhaodedmaaGreatDoor
open Go.RowKit

theorem set3 {W : World} {b : Nat} {u v x : Value} {t : TypeId} (h : W.heap[b]? = some (.cells #[u, v, x] t (0, 0))) (p q r : Value) :
    (((W.setCell ⟨b, 0, none⟩ p).setCell ⟨b, 1, none⟩ q).setCell ⟨b, 2, none⟩ r).heap[b]? = some (.cells #[p, q, r] t (0, 0)) ∧ W.grownBy (((W.setCell ⟨b, 0, none⟩ p).setCell ⟨b, 1, none⟩ q).setCell ⟨b, 2, none⟩ r) (some b) := by
  have e0 : (W.setCell ⟨b, 0, none⟩ p).heap[b]? = some (.cells #[p, v, x] t (0, 0)) := by
    simp only [World.setCell, Array.getElem?_modify, if_true, h, Option.map_some]
    rfl
  have e1 : ((W.setCell ⟨b, 0, none⟩ p).setCell ⟨b, 1, none⟩ q).heap[b]? = some (.cells #[p, q, x] t (0, 0)) := by
    generalize W.setCell ⟨b, 0, none⟩ p = X at *
    simp only [World.setCell, Array.getElem?_modify, if_true, e0, Option.map_some]
    rfl
  have e2 : (((W.setCell ⟨b, 0, none⟩ p).setCell ⟨b, 1, none⟩ q).setCell ⟨b, 2, none⟩ r).heap[b]? = some (.cells #[p, q, r] t (0, 0)) := by
    generalize (W.setCell ⟨b, 0, none⟩ p).setCell ⟨b, 1, none⟩ q = X at *
    simp only [World.setCell, Array.getElem?_modify, if_true, e1, Option.map_some]
    rfl
  refine ⟨e2, ⟨rfl, rfl, rfl, by simp [World.setCell], fun i _ hne => ?_⟩⟩
  have : i ≠ b := fun e => hne (by rw [e])
  exact ((Below.heap_setCell _ _ _ i this).trans (Below.heap_setCell _ _ _ i this)).trans (Below.heap_setCell _ _ _ i this)
def lenN (b k r a : Nat) : Nat := b * r + k * a
def weiN (l t : Nat) : Nat := l * t / 1000
theorem lenN_le {b k r a : Nat} (hb : b ≤ 100000) (hk : k ≤ 100000) (hr : r ≤ 100) (ha : a ≤ 100) : lenN b k r a ≤ 20000000 := by
  have h1 := Nat.mul_le_mul hb hr
  have h2 := Nat.mul_le_mul hk ha
  unfold lenN
  omega
set_option maxHeartbeats 400000 in
theorem hgLengthOf (b k r a : Nat) (w : World) (hb : b ≤ 100000) (hk : k ≤ 100000) (hr : r ≤ 100) (ha : a ≤ 100) :
    Calls Tryz.prog 114 #[.int .i64 b, .int .i64 k, .int .i64 r, .int .i64 a] w fun e w' => e = .returned (.int .i64 (lenN b k r a : Nat)) ∧ w = w' := by
  obtain ⟨b10, b11⟩ := mulB hb hr
  obtain ⟨b20, b21⟩ := mulB hk ha
  have HE := Lib.hid (show (b : Int) * r + (k : Int) * a = (lenN b k r a : Nat) by unfold lenN; push_cast; rfl)
  have w1 : IntKind.i64.wrap ((b : Int) * r) = (b : Int) * r := wr64 (by omega) (by omega)
  have w2 : IntKind.i64.wrap ((k : Int) * a) = (k : Int) * a := wr64 (by omega) (by omega)
  have w3 : IntKind.i64.wrap ((b : Int) * r + (k : Int) * a) = (b : Int) * r + (k : Int) * a := wr64 (by omega) (by omega)
  go_enter Tryz.func114, Tryz.ntmps114
  go_wp2
  go_ret
  exact ⟨ret_i HE.out, rfl⟩
def lenE (b k r a : Int) : Int := fstE [rngH b 0 100000, rngH k 0 100000, rngH r 1 100, rngH a 0 100]
set_option maxHeartbeats 2000000 in
set_option maxRecDepth 100000 in
theorem hgLength (b k r a : Int) (w : World) :
    Calls Tryz.prog 55 #[.int .i64 b, .int .i64 k, .int .i64 r, .int .i64 a] w fun e w' => e = .returned (.tuple #[.int .i64 (oz (lenE b k r a) (lenN b.toNat k.toNat r.toNat a.toNat : Nat)), .int .i64 (lenE b k r a)]) ∧ Below w.heap.size w w' := by
  by_cases hz : lenE b k r a = 0
  · obtain ⟨r1, r2, r3, r4⟩ := fst4_zero hz
    have g1 := rngH_zero r1
    have g2 := rngH_zero r2
    have g3 := rngH_zero r3
    have g4 := rngH_zero r4
    rw [hz, oz0]
    have HZ := Lib.hid hz
    obtain ⟨b, rfl⟩ : ∃ x : Nat, b = (x : Int) := ⟨b.toNat, by omega⟩
    obtain ⟨k, rfl⟩ : ∃ x : Nat, k = (x : Int) := ⟨k.toNat, by omega⟩
    obtain ⟨r, rfl⟩ : ∃ x : Nat, r = (x : Int) := ⟨r.toNat, by omega⟩
    obtain ⟨a, rfl⟩ : ∃ x : Nat, a = (x : Int) := ⟨a.toNat, by omega⟩
    simp only [Int.toNat_natCast]
    have HL := fun w => hgLengthOf b k r a w (by omega) (by omega) (by omega) (by omega)
    generalize lenN b k r a = n at HL ⊢
    have HE := Lib.hid (show fstE [rngH (b : Int) 0 100000, rngH (k : Int) 0 100000, rngH (r : Int) 1 100, rngH (a : Int) 0 100] = 0 from HZ.out)
    clear HZ hz r1 r2 r3 r4 g1 g2 g3 g4
    go_enter Tryz.func55, Tryz.ntmps55
    go_wp2_with fail
    refine (hgCheckCount _ _).mono ?_
    rintro e w2 ⟨rfl, rfl⟩
    go_wp2_with fail
    refine (hgCheckCount _ _).mono ?_
    rintro e w2 ⟨rfl, rfl⟩
    go_wp2_with fail
    refine (hgCheckBar _ _).mono ?_
    rintro e w2 ⟨rfl, rfl⟩
    go_wp2_with fail
    refine (hgCheckAllowance _ _).mono ?_
    rintro e w2 ⟨rfl, rfl⟩
    go_wp2_with fail
    refine (hgFirst4 _ _ _ _ _ _ 26 _ (by exact newBlk _ _)).mono ?_
    rintro e w2 ⟨rfl, rfl⟩
    rw [HE.out]
    go_wp2_with fail
    refine (HL _).mono ?_
    rintro e w2 ⟨rfl, rfl⟩
    go_wp2
    go_ret2
    exact ⟨rfl, (Below.refl _ _).alloc (Nat.le_refl _) _⟩
  · rw [ozE hz]
    have HE := Lib.hid (show fstE [rngH b 0 100000, rngH k 0 100000, rngH r 1 100, rngH a 0 100] = lenE b k r a from rfl)
    generalize lenE b k r a = E at HE hz ⊢
    have hne := nzH hz
    clear hz
    go_enter Tryz.func55, Tryz.ntmps55
    go_wp2_with fail
    refine (hgCheckCount _ _).mono ?_
    rintro e w2 ⟨rfl, rfl⟩
    go_wp2_with fail
    refine (hgCheckCount _ _).mono ?_
    rintro e w2 ⟨rfl, rfl⟩
    go_wp2_with fail
    refine (hgCheckBar _ _).mono ?_
    rintro e w2 ⟨rfl, rfl⟩
    go_wp2_with fail
    refine (hgCheckAllowance _ _).mono ?_
    rintro e w2 ⟨rfl, rfl⟩
    go_wp2_with fail
    refine (hgFirst4 _ _ _ _ _ _ 26 _ (by exact newBlk _ _)).mono ?_
    rintro e w2 ⟨rfl, rfl⟩
    rw [HE.out]
    go_wp2
    go_ret2
    exact ⟨rfl, (Below.refl _ _).alloc (Nat.le_refl _) _⟩
set_option maxHeartbeats 400000 in
theorem hgWeightOf (l t : Nat) (w : World) (hl : l ≤ 2000000000) (ht : t ≤ 100000) :
    Calls Tryz.prog 115 #[.int .i64 l, .int .i64 t] w fun e w' => e = .returned (.int .i64 (weiN l t : Nat)) ∧ w = w' := by
  obtain ⟨b10, b11⟩ := mulB hl ht
  have HE := Lib.hid (show ((l : Int) * t).tdiv 1000 = (weiN l t : Nat) by rw [mulI]; exact divN _ 1000)
  have w1 : IntKind.i64.wrap ((l : Int) * t) = (l : Int) * t := wr64 (by omega) (by omega)
  have hwl : weiN l t ≤ 200000000000 := by
    have := Nat.mul_le_mul hl ht
    unfold weiN
    omega
  generalize weiN l t = n at HE hwl ⊢
  have w2 : IntKind.i64.wrap (((l : Int) * t).tdiv 1000) = ((l : Int) * t).tdiv 1000 := by rw [HE.out]; exact wr64 (by omega) (by omega)
  go_enter Tryz.func115, Tryz.ntmps115
  go_wp2
  go_ret
  exact ⟨ret_i HE.out, rfl⟩
def weiE0 (l t : Int) : Int := fstE [rngH l 0 999999999, rngH t 1 100000]
def weiE (l t : Int) : Int := if weiE0 l t = 0 then (if 999999999 < weiN l.toNat t.toNat then 4 else 0) else weiE0 l t
set_option maxHeartbeats 2000000 in
set_option maxRecDepth 100000 in
theorem hgWeight (l t : Int) (w : World) :
    Calls Tryz.prog 56 #[.int .i64 l, .int .i64 t] w fun e w' => e = .returned (.tuple #[.int .i64 (oz (weiE l t) (weiN l.toNat t.toNat : Nat)), .int .i64 (weiE l t)]) ∧ Below w.heap.size w w' := by
  by_cases hz : weiE0 l t = 0
  · obtain ⟨r1, r2⟩ := fst2_zero hz
    have g1 := rngH_zero r1
    have g2 := rngH_zero r2
    have HE := Lib.hid (show fstE [rngH l 0 999999999, rngH t 1 100000] = 0 from hz)
    obtain ⟨l, rfl⟩ : ∃ x : Nat, l = (x : Int) := ⟨l.toNat, by omega⟩
    obtain ⟨t, rfl⟩ : ∃ x : Nat, t = (x : Int) := ⟨t.toNat, by omega⟩
    have HW := fun w => hgWeightOf l t w (by omega) (by omega)
    by_cases hn : 999999999 < weiN l t
    · have hE : weiE (l : Int) (t : Int) = 4 := by rw [weiE, if_pos hz, Int.toNat_natCast, Int.toNat_natCast, if_pos hn]
      rw [hE, ozE (by decide)]
      clear hE hz r1 r2 g1 g2
      generalize weiN l t = n at HW hn
      have hni : (999999999 : Int) < (n : Int) := by omega
      clear hn
      go_enter Tryz.func56, Tryz.ntmps56
      go_wp2_with fail
      refine (hgCheckRange _ _ _ _).mono ?_
      rintro e w2 ⟨rfl, rfl⟩
      go_wp2_with fail
      refine (hgCheckTex _ _).mono ?_
      rintro e w2 ⟨rfl, rfl⟩
      go_wp2_with fail
      refine (hgFirst2 _ _ _ _ 26 _ (by exact newBlk _ _)).mono ?_
      rintro e w2 ⟨rfl, rfl⟩
      rw [HE.out]
      go_wp2_with fail
      refine (HW _).mono ?_
      rintro e w2 ⟨rfl, rfl⟩
      go_wp2
      go_ret2
      exact ⟨rfl, (Below.refl _ _).alloc (Nat.le_refl _) _⟩
    · have hE : weiE (l : Int) (t : Int) = 0 := by rw [weiE, if_pos hz, Int.toNat_natCast, Int.toNat_natCast, if_neg hn]
      rw [hE, oz0, Int.toNat_natCast, Int.toNat_natCast]
      clear hE hz r1 r2 g1 g2
      generalize weiN l t = n at HW hn ⊢
      have hni : ¬ (999999999 : Int) < (n : Int) := by omega
      clear hn
      go_enter Tryz.func56, Tryz.ntmps56
      go_wp2_with fail
      refine (hgCheckRange _ _ _ _).mono ?_
      rintro e w2 ⟨rfl, rfl⟩
      go_wp2_with fail
      refine (hgCheckTex _ _).mono ?_
      rintro e w2 ⟨rfl, rfl⟩
      go_wp2_with fail
      refine (hgFirst2 _ _ _ _ 26 _ (by exact newBlk _ _)).mono ?_
      rintro e w2 ⟨rfl, rfl⟩
      rw [HE.out]
      go_wp2_with fail
      refine (HW _).mono ?_
      rintro e w2 ⟨rfl, rfl⟩
      go_wp2
      go_ret2
      exact ⟨rfl, (Below.refl _ _).alloc (Nat.le_refl _) _⟩
  · rw [weiE, if_neg hz, ozE hz]
    have HE := Lib.hid (show fstE [rngH l 0 999999999, rngH t 1 100000] = weiE0 l t from rfl)
    generalize weiE0 l t = E at HE hz ⊢
    have hne := nzH hz
    clear hz
    go_enter Tryz.func56, Tryz.ntmps56
    go_wp2_with fail
    refine (hgCheckRange _ _ _ _).mono ?_
    rintro e w2 ⟨rfl, rfl⟩
    go_wp2_with fail
    refine (hgCheckTex _ _).mono ?_
    rintro e w2 ⟨rfl, rfl⟩
    go_wp2_with fail
    refine (hgFirst2 _ _ _ _ 26 _ (by exact newBlk _ _)).mono ?_
    rintro e w2 ⟨rfl, rfl⟩
    rw [HE.out]
    go_wp2
    go_ret2
    exact ⟨rfl, (Below.refl _ _).alloc (Nat.le_refl _) _⟩
/-- What a twine of a table has of a length. -/
def smOf (t : Twn) (n : Nat) : Sm := ⟨n, (weiN n t.x.toNat : Nat), (n : Int) * t.h⟩
def smB (s : Sm) : Bool := decide (999999999 < s.l ∨ 999999999 < s.w ∨ 999999999 < s.a)
set_option maxHeartbeats 1000000 in
set_option maxRecDepth 100000 in
theorem hgSumLarge (s : Sm) (w : World) :
    Calls Tryz.prog 122 #[.agg #[.int .i64 s.l, .int .i64 s.w, .int .i64 s.a]] w fun e w' => e = .returned (.bool (smB s)) ∧ Below w.heap.size w w' := by
  obtain ⟨w1, hw1, k1, hb1, hz1⟩ := boxS w (.cells #[.int .i64 s.l, .int .i64 s.w, .int .i64 s.a] 106)
  obtain ⟨c0, c1, c2, -, -, -⟩ := cel3 k1
  go_enter Tryz.func122, Tryz.ntmps122
  go_wp2
  all_goals
    go_ret
    exact ⟨ret_b (by unfold smB; rw [decide_eq_decide]; omega), hb1⟩
set_option maxHeartbeats 1000000 in
set_option maxRecDepth 100000 in
theorem hgSum (t : Twn) (n : Nat) (w : World) (hn : n ≤ 2000000000) (hx : 0 ≤ t.x ∧ t.x ≤ 100000) (hh : 0 ≤ t.h ∧ t.h ≤ 100) :
    Calls Tryz.prog 120 #[.agg #[.string t.s, .int .i64 t.x, .int .i64 t.h], .int .i64 n] w fun e w' => e = .returned (.agg #[.int .i64 (smOf t n).l, .int .i64 (smOf t n).w, .int .i64 (smOf t n).a]) ∧ Below w.heap.size w w' := by
  obtain ⟨s, x, h⟩ := t
  simp only [smOf] at *
  obtain ⟨X, rfl⟩ : ∃ X : Nat, x = (X : Int) := ⟨x.toNat, by omega⟩
  obtain ⟨H, rfl⟩ : ∃ H : Nat, h = (H : Int) := ⟨h.toNat, by omega⟩
  simp only [Int.toNat_natCast]
  have HW := fun w => hgWeightOf n X w hn (by omega)
  generalize weiN n X = u at HW ⊢
  obtain ⟨b10, b11⟩ := mulB hn (show H ≤ 100 by omega)
  have w1 : IntKind.i64.wrap ((n : Int) * H) = (n : Int) * H := wr64 (by omega) (by omega)
  obtain ⟨w1, hw1, k1, hb1, hz1⟩ := boxS w (.cells #[.string s, .int .i64 X, .int .i64 H] 132)
  obtain ⟨w2, hw2, k2, hb2, hz2⟩ := boxS w1 (.cells #[.int .i64 0, .int .i64 0, .int .i64 0] 106)
  obtain ⟨c0, c1, c2, -, -, -⟩ := cel3 (blkT k1 hb2)
  go_enter Tryz.func120, Tryz.ntmps120
  go_wp2_with fail
  refine wp_region_still_tail 10 (by kernel_rfl) (by kernel_rfl) ?_
  simp only [List.take_succ_cons, List.take_zero, List.drop_succ_cons, List.drop_zero]
  repeat (first | still_step | still_call (Calls.mono (HW _) fun _ _ h => ⟨h.1, h.2.symm⟩))
  refine wpStill_nil ?_
  change wpList _ _ _ _ _ w2.drew
  have hbw := below_drew (tw hb1 hb2)
  have k3 : w2.drew.heap[w1.heap.size]? = some (.cells #[.int .i64 0, .int .i64 0, .int .i64 0] 106) := k2
  generalize w2.drew = w3 at hbw k3 ⊢
  obtain ⟨q0, q1, q2, q3, q4, q5⟩ := cel3 k3
  obtain ⟨s1, s2⟩ := set3 k3 (.int .i64 n) (.int .i64 u) (.int .i64 ((n : Int) * H))
  obtain ⟨t0, t1, t2, -, -, -⟩ := cel3 s1
  have hbf := hbw.grown s2 hbw.size (fun j e => by cases e; exact hb1.size)
  go_wp2
  exact bodyPost_ret (v := .agg #[.int .i64 n, .int .i64 u, .int .i64 ((n : Int) * H)]) (by simp [results, Tryz.results120, go_sem, t0, t1, t2]) rfl ⟨rfl, hbf⟩
end Go.Proofs.YtlkeejhaodedmaaGreatDoor

/- hang: Nearest: the order of the twines, the least one. -/
namespace Go.Proofs.YtlkeejhaodedmaaGreatDoor
open Go.RowKit

set_option maxHeartbeats 400000 in
theorem hgOr (b c : Nat) (es : List Int) (w : World) (hn : es.length ≤ 100) (hc : ∀ i (h : i < es.length), w.cell? ⟨b, i, none⟩ = some (.int .i64 es[i])) :
    Calls Tryz.prog 100 #[.slice (some ⟨b, 0, none⟩) es.length c] w fun e w' => e = .returned (.int .i64 (fstE es)) ∧ w = w' := by
  have HC := Lib.hid hc
  have hn' : (es.length : Int) ≤ 100 := by omega
  clear hc
  go_enter Tryz.func100, Tryz.ntmps100
  go_wp2_with fail
  go_loop [5, 8] (fun _ i => ∃ k : Nat, k ≤ es.length ∧ i = .int .i64 k ∧ fstE es = fstE (es.drop k)) (fun _ i => es.length - (intOf i).toNat)
  case atStart => exact ⟨0, Nat.zero_le _, rfl, rfl⟩
  case round =>
    obtain ⟨k, hk, rfl, he⟩ := hrel
    have HE := Lib.hid he
    clear he
    by_cases hlt : k < es.length
    · have hcell := HC.out k hlt
      by_cases hz : es[k] = 0
      · have HF := Lib.hid (show fstE (es.drop k) = fstE (es.drop (k + 1)) by
          rw [List.drop_eq_getElem_cons hlt]
          simp only [fstE, hz, if_true])
        rw [hz] at hcell
        clear hz
        go_wp2
        go_round
        case rel => exact ⟨k + 1, by omega, by go_num, HE.out.trans HF.out⟩
        case measure => simp [intOf]; omega
      · have HF := Lib.hid (show fstE (es.drop k) = es[k] by
          rw [List.drop_eq_getElem_cons hlt]
          simp only [fstE, if_neg hz])
        have hz1 : (es[k] != 0) = true := by rw [bne_iff_ne]; exact hz
        clear hz
        go_wp2
        go_ret
        exact ⟨ret_i (HE.out.trans HF.out).symm, rfl⟩
    · obtain rfl : k = es.length := by omega
      have HF := Lib.hid (show fstE (es.drop es.length) = 0 by rw [List.drop_length]; rfl)
      go_wp2
      go_ret
      exact ⟨ret_i (HE.out.trans HF.out).symm, rfl⟩
theorem hgOr2 (g c : Nat) (x y : Int) (t : TypeId) (w : World) (h : w.heap[g]? = some (.cells #[.int .i64 x, .int .i64 y] t (0, 0))) :
    Calls Tryz.prog 100 #[.slice (some ⟨g, 0, none⟩) 2 c] w fun e w' => e = .returned (.int .i64 (fstE [x, y])) ∧ w = w' :=
  hgOr g c [x, y] w (by simp) (errs2 h)
def dsT (T : Int) (t : Twn) : Int := if t.x < T then T - t.x else t.x - T
def cmpT (T : Int) (a b : Twn) : Int := fstE [cmpH (dsT T a) (dsT T b), cmpH a.x b.x]
def twnV (t : Twn) : Value := .agg #[.string t.s, .int .i64 t.x, .int .i64 t.h]
set_option maxHeartbeats 1000000 in
set_option maxRecDepth 100000 in
theorem hgDistance (t : Twn) (T : Int) (w : World) (hx : 0 ≤ t.x ∧ t.x ≤ 100000) (hT : 0 ≤ T ∧ T ≤ 100000) :
    Calls Tryz.prog 102 #[.agg #[.string t.s, .int .i64 t.x, .int .i64 t.h], .int .i64 T] w fun e w' => e = .returned (.int .i64 (dsT T t)) ∧ Below w.heap.size w w' := by
  obtain ⟨h1, h2⟩ := hx
  obtain ⟨h3, h4⟩ := hT
  have wa : IntKind.i64.wrap (t.x - T) = t.x - T := wr64 (by omega) (by omega)
  have wb : IntKind.i64.wrap (T - t.x) = T - t.x := wr64 (by omega) (by omega)
  obtain ⟨w1, hw1, k1, hb1, hz1⟩ := boxS w (.cells #[.string t.s, .int .i64 t.x, .int .i64 t.h] 132)
  obtain ⟨c0, c1, c2, -, -, -⟩ := cel3 k1
  go_enter Tryz.func102, Tryz.ntmps102
  go_wp2
  all_goals
    go_ret
    exact ⟨ret_i (by unfold dsT; split <;> omega), hb1⟩
theorem keepN {W w1 w2 : World} {g h q : Nat} {x0 x1 x2 y0 y1 y2 z : Value} (k : w1.cell? ⟨g, 0, none⟩ = some x0 ∧ w1.cell? ⟨g, 1, none⟩ = some x1 ∧ w1.cell? ⟨g, 2, none⟩ = some x2 ∧ w1.cell? ⟨h, 0, none⟩ = some y0 ∧ w1.cell? ⟨h, 1, none⟩ = some y1 ∧ w1.cell? ⟨h, 2, none⟩ = some y2 ∧ w1.cell? ⟨q, 0, none⟩ = some z ∧ Below W.heap.size W w1 ∧ g < w1.heap.size ∧ h < w1.heap.size ∧ q < w1.heap.size) (hb : Below w1.heap.size w1 w2) :
    w2.cell? ⟨g, 0, none⟩ = some x0 ∧ w2.cell? ⟨g, 1, none⟩ = some x1 ∧ w2.cell? ⟨g, 2, none⟩ = some x2 ∧ w2.cell? ⟨h, 0, none⟩ = some y0 ∧ w2.cell? ⟨h, 1, none⟩ = some y1 ∧ w2.cell? ⟨h, 2, none⟩ = some y2 ∧ w2.cell? ⟨q, 0, none⟩ = some z ∧ Below W.heap.size W w2 ∧ g < w2.heap.size ∧ h < w2.heap.size ∧ q < w2.heap.size := by
  obtain ⟨h0, h1, h2, h3, h4, h5, h6, h7, h8, h9, h10⟩ := k
  have := hb.size
  exact ⟨(hb.cell (p := ⟨g, 0, none⟩) h8).trans h0, (hb.cell (p := ⟨g, 1, none⟩) h8).trans h1, (hb.cell (p := ⟨g, 2, none⟩) h8).trans h2, (hb.cell (p := ⟨h, 0, none⟩) h9).trans h3, (hb.cell (p := ⟨h, 1, none⟩) h9).trans h4, (hb.cell (p := ⟨h, 2, none⟩) h9).trans h5, (hb.cell (p := ⟨q, 0, none⟩) h10).trans h6, tw h7 hb, by omega, by omega, by omega⟩
set_option maxHeartbeats 8000000 in
set_option maxRecDepth 100000 in
theorem hgNear1 (q : Nat) (a b : Twn) (T : Int) (w : World) (hq : w.cell? ⟨q, 0, none⟩ = some (.int .i64 T)) (hT : 0 ≤ T ∧ T ≤ 100000) (ha : 0 ≤ a.x ∧ a.x ≤ 100000) (hb : 0 ≤ b.x ∧ b.x ≤ 100000) :
    Calls Tryz.prog 99 #[.agg #[.string a.s, .int .i64 a.x, .int .i64 a.h], .agg #[.string b.s, .int .i64 b.x, .int .i64 b.h], .pointer (some ⟨q, 0, none⟩)] w fun e w' => e = .returned (.int .i64 (cmpT T a b)) ∧ Below w.heap.size w w' := by
  have hqB : q < w.heap.size := by
    rcases Nat.lt_or_ge q w.heap.size with h | h
    · exact h
    · simp [World.cell?, Array.getElem?_eq_none h] at hq
  have HE := Lib.hid (show fstE [cmpH (dsT T a) (dsT T b), cmpH a.x b.x] = cmpT T a b from rfl)
  have HA := Lib.hid ha
  have HB := Lib.hid hb
  have HT := Lib.hid hT
  generalize cmpT T a b = E at HE ⊢
  obtain ⟨w1, hw1, k1, hb1, hz1⟩ := boxS w (.cells #[.string a.s, .int .i64 a.x, .int .i64 a.h] 132)
  obtain ⟨w2, hw2, k2, hb2, hz2⟩ := boxS w1 (.cells #[.string b.s, .int .i64 b.x, .int .i64 b.h] 132)
  obtain ⟨c0, c1, c2, -, -, -⟩ := cel3 (blkT k1 hb2)
  obtain ⟨d0, d1, d2, -, -, -⟩ := cel3 k2
  have B2 := tw hb1 hb2
  have hq2 := (B2.cell (p := ⟨q, 0, none⟩) hqB).trans hq
  have z1 : w.heap.size < w2.heap.size := by omega
  have z3 : q < w2.heap.size := by omega
  clear hq ha hb hT k1 k2 hb1 hb2
  go_enter Tryz.func99, Tryz.ntmps99
  go_wp2_with fail
  go_region_held3 (fun w' => w'.cell? ⟨w.heap.size, 0, none⟩ = some (.string a.s) ∧ w'.cell? ⟨w.heap.size, 1, none⟩ = some (.int .i64 a.x) ∧ w'.cell? ⟨w.heap.size, 2, none⟩ = some (.int .i64 a.h) ∧ w'.cell? ⟨w1.heap.size, 0, none⟩ = some (.string b.s) ∧ w'.cell? ⟨w1.heap.size, 1, none⟩ = some (.int .i64 b.x) ∧ w'.cell? ⟨w1.heap.size, 2, none⟩ = some (.int .i64 b.h) ∧ w'.cell? ⟨q, 0, none⟩ = some (.int .i64 T) ∧ Below w.heap.size w w' ∧ w.heap.size < w'.heap.size ∧ w1.heap.size < w'.heap.size ∧ q < w'.heap.size)
    (first | exact ⟨c0, c1, c2, d0, d1, d2, hq2, B2, z1, hz2, z3⟩ | exact ⟨c0, c1, c2, d0, d1, d2, hq2, below_drew B2, z1, hz2, z3⟩ | exact keepN (by assumption) (by assumption) | exact keepN (by assumption) ((Below.refl _ _).alloc (Nat.le_refl _) _) | assumption | exact keepN (by assumption) (below_drew (Below.refl _ _)) | go_keep)
    (first
      | (go_at_call 102; refine (hgDistance _ T _ (by first | exact HA.out | exact HB.out) HT.out).mono ?_; rintro e w' ⟨rfl, hb⟩)
      | (go_at_call 101; refine (cmpIntH _ _ _).mono ?_; rintro e w' ⟨rfl, rfl⟩)
      | (go_at_call 100; refine (hgOr2 _ _ _ _ 3 _ (by exact newBlk _ _)).mono ?_; rintro e w' ⟨rfl, rfl⟩))
  all_goals
    rename_i hH
    rw [HE.out]
    go_wp2
    go_ret
    exact ⟨rfl, hH.2.2.2.2.2.2.2.1⟩
/-- The least twine of a list, the first of those that are least. -/
def minT (T : Int) (m : Twn) (l : List Twn) : Twn := l.foldl (fun m t => if cmpT T t m < 0 then t else m) m
theorem minT_step (T : Int) (m : Twn) (l : List Twn) {k : Nat} (h : k < l.length) : minT T m (l.take (k + 1)) = if cmpT T l[k] (minT T m (l.take k)) < 0 then l[k] else minT T m (l.take k) := by
  unfold minT
  rw [List.take_succ_eq_append_getElem h, List.foldl_append]
  rfl
theorem minT_mem (T : Int) : ∀ (l : List Twn) (m : Twn), minT T m l = m ∨ minT T m l ∈ l
  | [], m => .inl rfl
  | t :: r, m => by
    unfold minT
    rw [List.foldl_cons]
    rcases minT_mem T r (if cmpT T t m < 0 then t else m) with h | h
    · unfold minT at h
      rw [h]
      split
      · exact .inr List.mem_cons_self
      · exact .inl rfl
    · exact .inr (List.mem_cons_of_mem _ h)
theorem keepM {W w1 w2 : World} {g b o : Nat} {x0 x1 x2 y0 y1 y2 : Value} (k : w1.cell? ⟨g, 0, none⟩ = some x0 ∧ w1.cell? ⟨g, 1, none⟩ = some x1 ∧ w1.cell? ⟨g, 2, none⟩ = some x2 ∧ w1.cell? ⟨b, o, none⟩ = some y0 ∧ w1.cell? ⟨b, o + 1, none⟩ = some y1 ∧ w1.cell? ⟨b, o + 2, none⟩ = some y2 ∧ Below W.heap.size W w1 ∧ g < w1.heap.size ∧ b < w1.heap.size) (hb : Below w1.heap.size w1 w2) :
    w2.cell? ⟨g, 0, none⟩ = some x0 ∧ w2.cell? ⟨g, 1, none⟩ = some x1 ∧ w2.cell? ⟨g, 2, none⟩ = some x2 ∧ w2.cell? ⟨b, o, none⟩ = some y0 ∧ w2.cell? ⟨b, o + 1, none⟩ = some y1 ∧ w2.cell? ⟨b, o + 2, none⟩ = some y2 ∧ Below W.heap.size W w2 ∧ g < w2.heap.size ∧ b < w2.heap.size := by
  obtain ⟨h0, h1, h2, h3, h4, h5, h7, h8, h9⟩ := k
  have := hb.size
  exact ⟨(hb.cell (p := ⟨g, 0, none⟩) h8).trans h0, (hb.cell (p := ⟨g, 1, none⟩) h8).trans h1, (hb.cell (p := ⟨g, 2, none⟩) h8).trans h2, (hb.cell (p := ⟨b, o, none⟩) h9).trans h3, (hb.cell (p := ⟨b, o + 1, none⟩) h9).trans h4, (hb.cell (p := ⟨b, o + 2, none⟩) h9).trans h5, tw h7 hb, by omega, by omega⟩
end Go.Proofs.YtlkeejhaodedmaaGreatDoor

/- hang: Nearest: MinFunc, Index, Nearest. -/
namespace Go.Proofs.YtlkeejhaodedmaaGreatDoor
open Go.RowKit

theorem keepP {W w1 w2 : World} {g b o r : Nat} {x0 x1 x2 y0 y1 y2 : Value} {u v : Obj} (k : w1.cell? ⟨g, 0, none⟩ = some x0 ∧ w1.cell? ⟨g, 1, none⟩ = some x1 ∧ w1.cell? ⟨g, 2, none⟩ = some x2 ∧ w1.cell? ⟨b, o, none⟩ = some y0 ∧ w1.cell? ⟨b, o + 1, none⟩ = some y1 ∧ w1.cell? ⟨b, o + 2, none⟩ = some y2 ∧ w1.heap[g]? = some u ∧ w1.heap[r]? = some v ∧ Below W.heap.size W w1 ∧ b < w1.heap.size) (hb : Below w1.heap.size w1 w2) :
    w2.cell? ⟨g, 0, none⟩ = some x0 ∧ w2.cell? ⟨g, 1, none⟩ = some x1 ∧ w2.cell? ⟨g, 2, none⟩ = some x2 ∧ w2.cell? ⟨b, o, none⟩ = some y0 ∧ w2.cell? ⟨b, o + 1, none⟩ = some y1 ∧ w2.cell? ⟨b, o + 2, none⟩ = some y2 ∧ w2.heap[g]? = some u ∧ w2.heap[r]? = some v ∧ Below W.heap.size W w2 ∧ b < w2.heap.size := by
  obtain ⟨h0, h1, h2, h3, h4, h5, h6, h7, h8, h9⟩ := k
  have h10 := blkSz h6
  have := hb.size
  exact ⟨(hb.cell (p := ⟨g, 0, none⟩) h10).trans h0, (hb.cell (p := ⟨g, 1, none⟩) h10).trans h1, (hb.cell (p := ⟨g, 2, none⟩) h10).trans h2, (hb.cell (p := ⟨b, o, none⟩) h9).trans h3, (hb.cell (p := ⟨b, o + 1, none⟩) h9).trans h4, (hb.cell (p := ⟨b, o + 2, none⟩) h9).trans h5, blkT h6 hb, blkT h7 hb, tw h8 hb, by omega⟩
theorem belP {W w1 : World} {g b o r : Nat} {x0 x1 x2 y0 y1 y2 : Value} {u v : Obj} (k : w1.cell? ⟨g, 0, none⟩ = some x0 ∧ w1.cell? ⟨g, 1, none⟩ = some x1 ∧ w1.cell? ⟨g, 2, none⟩ = some x2 ∧ w1.cell? ⟨b, o, none⟩ = some y0 ∧ w1.cell? ⟨b, o + 1, none⟩ = some y1 ∧ w1.cell? ⟨b, o + 2, none⟩ = some y2 ∧ w1.heap[g]? = some u ∧ w1.heap[r]? = some v ∧ Below W.heap.size W w1 ∧ b < w1.heap.size) : Below W.heap.size W w1 := k.2.2.2.2.2.2.2.2.1
theorem cmpT_self (T : Int) (t : Twn) : cmpT T t t = 0 := by simp [cmpT, cmpH, fstE]
def twnO (t : Twn) : Obj := .cells #[.string t.s, .int .i64 t.x, .int .i64 t.h] 132
set_option maxHeartbeats 8000000 in
set_option maxRecDepth 100000 in
theorem hgMinFunc (q : Nat) (A : Option Addr) (c : Nat) (l : List Twn) (T : Int) (m0 : Twn) (w : World) (hl : l.length ≤ 1000) (h0 : l[0]? = some m0) (hx : ∀ t ∈ l, 0 ≤ t.x ∧ t.x ≤ 100000) (hT : 0 ≤ T ∧ T ≤ 100000) (hq : w.cell? ⟨q, 0, none⟩ = some (.int .i64 T)) (hA : OKV Twn.c 3 w A c l) :
    Calls Tryz.prog 98 #[.slice A l.length c, .func (.func 99) #[] #[.pointer (some ⟨q, 0, none⟩)]] w fun e w' => e = .returned (twnV (minT T m0 l)) ∧ Below w.heap.size w w' := by
  have hqB : q < w.heap.size := by
    rcases Nat.lt_or_ge q w.heap.size with h | h
    · exact h
    · simp [World.cell?, Array.getElem?_eq_none h] at hq
  obtain ⟨hl0, hm0⟩ := List.getElem?_eq_some_iff.1 h0
  have hlI : ¬ (l.length : Int) < 1 := by omega
  have hli : (0 : Int) < (l.length : Int) := by omega
  have HR := Lib.hid hA.2.2.2
  have HQ := Lib.hid hq
  have HX := Lib.hid hx
  have HT := Lib.hid hT
  obtain ⟨b, off, rfl, hB, c0, c1, c2⟩ := atT HR.out hl0
  rw [hm0] at c0 c1 c2
  rw [Nat.zero_mul, Nat.add_zero] at c0 c1 c2
  have HM0 := Lib.hid (show 0 ≤ m0.x ∧ m0.x ≤ 100000 from hx _ (hm0 ▸ List.getElem_mem hl0))
  have HS0 := Lib.hid (show minT T m0 (l.take 1) = m0 by
    rw [show l.take 1 = [m0] by rw [List.take_one, List.head?_eq_getElem?, h0]; rfl]
    simp [minT, cmpT_self])
  obtain ⟨w1, hw1, k1, hb1, hz1⟩ := boxS w (.cells #[.string ⟨#[]⟩, .int .i64 0, .int .i64 0] 132)
  obtain ⟨w2, hw2, k2, hb2, hz2⟩ := boxS w1 (.cells #[.string m0.s, .int .i64 m0.x, .int .i64 m0.h] 132)
  replace c0 := (hb1.cell (p := ⟨b, off, none⟩) hB).trans c0
  replace c1 := (hb1.cell (p := ⟨b, off + 1, none⟩) hB).trans c1
  replace c2 := (hb1.cell (p := ⟨b, off + 2, none⟩) hB).trans c2
  have B2 := Lib.hid (tw hb1 hb2)
  have K2 := Lib.hid k2
  have K1 := Lib.hid (blkT k1 hb2)
  clear hA hq hx hT h0 hm0 k1 k2 hb2
  go_enter Tryz.func98, Tryz.ntmps98
  go_wp2_with fail
  go_loopw [6] (fun i wr => ∃ k : Nat, 1 ≤ k ∧ k ≤ l.length ∧ i = .int .i64 k ∧ Hid (wr.heap[w1.heap.size]? = some (twnO (minT T m0 (l.take k))) ∧ wr.heap[w.heap.size]? = some (.cells #[.string ⟨#[]⟩, .int .i64 0, .int .i64 0] 132 (0, 0))) ∧ Hid (0 ≤ (minT T m0 (l.take k)).x ∧ (minT T m0 (l.take k)).x ≤ 100000) ∧ Below w.heap.size w wr) (fun i _ => l.length - (intOf i).toNat)
  case atStart => exact ⟨1, by omega, hl0, rfl, Lib.hid (by rw [HS0.out]; exact ⟨K2.out, K1.out⟩), Lib.hid (by rw [HS0.out]; exact HM0.out), B2.out⟩
  case round =>
    clear c0 c1 c2
    obtain ⟨k, hk1, hk, rfl, HK, HMx, hb⟩ := hrel
    obtain ⟨kb, kr⟩ := HK.out
    by_cases hlt : k < l.length
    · have hki : (k : Int) < (l.length : Int) := by omega
      have hk0 : (0 : Int) ≤ (k : Int) := by omega
      obtain ⟨b', off', e', hB', c0, c1, c2⟩ := atT (HR.out.to hb) hlt
      obtain ⟨rfl, rfl⟩ : b = b' ∧ off = off' := by injection e' with e'; injection e' with e1 e2; exact ⟨e1, e2⟩
      have HS := Lib.hid (minT_step T m0 l hlt)
      have hxt := HX.out _ (List.getElem_mem hlt)
      have hxm := HMx.out
      generalize l[k] = t at c0 c1 c2 HS hxt
      generalize minT T m0 (l.take k) = m at kb HS hxm
      have HM := fun w1 (h : Below w.heap.size w w1) => hgNear1 q t m T w1 ((h.cell (p := ⟨q, 0, none⟩) hqB).trans HQ.out) HT.out hxt hxm
      have HXT := Lib.hid hxt
      have HXM := Lib.hid hxm
      unfold twnO at kb
      obtain ⟨d0, d1, d2, -, -, -⟩ := cel3 kb
      clear hxt hxm HK HMx e'
      have wk : IntKind.i64.wrap ((k : Int) + 1) = (k : Int) + 1 := wr64 (by omega) (by omega)
      generalize cmpT T t m = C at HM HS
      by_cases hC : C < 0
      · have HS2 := Lib.hid (show minT T m0 (l.take (k + 1)) = t by rw [HS.out, if_pos hC])
        go_wp2_with fail
        go_region_held3 (fun w' => w'.cell? ⟨w1.heap.size, 0, none⟩ = some (.string m.s) ∧ w'.cell? ⟨w1.heap.size, 1, none⟩ = some (.int .i64 m.x) ∧ w'.cell? ⟨w1.heap.size, 2, none⟩ = some (.int .i64 m.h) ∧ w'.cell? ⟨b, off + k * 3, none⟩ = some (.string t.s) ∧ w'.cell? ⟨b, off + k * 3 + 1, none⟩ = some (.int .i64 t.x) ∧ w'.cell? ⟨b, off + k * 3 + 2, none⟩ = some (.int .i64 t.h) ∧ w'.heap[w1.heap.size]? = some (.cells #[.string m.s, .int .i64 m.x, .int .i64 m.h] 132 (0, 0)) ∧ w'.heap[w.heap.size]? = some (.cells #[.string ⟨#[]⟩, .int .i64 0, .int .i64 0] 132 (0, 0)) ∧ Below w.heap.size w w' ∧ b < w'.heap.size)
          (first | exact ⟨d0, d1, d2, c0, c1, c2, kb, kr, hb, hB'⟩ | exact ⟨d0, d1, d2, c0, c1, c2, kb, kr, below_drew hb, hB'⟩ | exact keepP (by assumption) (by assumption) | exact keepP (by assumption) ((Below.refl _ _).alloc (Nat.le_refl _) _) | assumption | exact keepP (by assumption) (below_drew (Below.refl _ _)) | go_keep)
          (first
            | (go_at_call 99; refine (HM _ (belP (by assumption))).mono ?_; rintro e w' ⟨rfl, hb⟩))
        all_goals
          rename_i hH
          obtain ⟨e0, e1, e2, f0, f1, f2, kb2, kr2, hb3, hB3⟩ := hH
          obtain ⟨q0, q1, q2, q3, q4, q5⟩ := cel3 kb2
          obtain ⟨s1, s2⟩ := set3 kb2 (.string t.s) (.int .i64 t.x) (.int .i64 t.h)
          have hbf := hb3.grown s2 hb3.size (fun j e => by cases e; exact hb1.size)
          have krf := (s2.block _ (blkSz kr2) (by intro e; injection e with e; omega)).trans kr2
          have HKf := Lib.hid (And.intro (s1.trans (show _ = some (twnO (minT T m0 (l.take (k + 1)))) by rw [HS2.out]; rfl)) krf)
          have HXf := Lib.hid (show 0 ≤ (minT T m0 (l.take (k + 1))).x ∧ (minT T m0 (l.take (k + 1))).x ≤ 100000 by rw [HS2.out]; exact HXT.out)
          clear s1 s2 krf
          go_wp2
          go_roundw
          case rel => exact ⟨k + 1, by omega, by omega, by go_num, HKf, HXf, hbf⟩
          case measure => simp [intOf]; omega
      · have HS2 := Lib.hid (show minT T m0 (l.take (k + 1)) = m by rw [HS.out, if_neg hC])
        go_wp2_with fail
        go_region_held3 (fun w' => w'.cell? ⟨w1.heap.size, 0, none⟩ = some (.string m.s) ∧ w'.cell? ⟨w1.heap.size, 1, none⟩ = some (.int .i64 m.x) ∧ w'.cell? ⟨w1.heap.size, 2, none⟩ = some (.int .i64 m.h) ∧ w'.cell? ⟨b, off + k * 3, none⟩ = some (.string t.s) ∧ w'.cell? ⟨b, off + k * 3 + 1, none⟩ = some (.int .i64 t.x) ∧ w'.cell? ⟨b, off + k * 3 + 2, none⟩ = some (.int .i64 t.h) ∧ w'.heap[w1.heap.size]? = some (.cells #[.string m.s, .int .i64 m.x, .int .i64 m.h] 132 (0, 0)) ∧ w'.heap[w.heap.size]? = some (.cells #[.string ⟨#[]⟩, .int .i64 0, .int .i64 0] 132 (0, 0)) ∧ Below w.heap.size w w' ∧ b < w'.heap.size)
          (first | exact ⟨d0, d1, d2, c0, c1, c2, kb, kr, hb, hB'⟩ | exact ⟨d0, d1, d2, c0, c1, c2, kb, kr, below_drew hb, hB'⟩ | exact keepP (by assumption) (by assumption) | exact keepP (by assumption) ((Below.refl _ _).alloc (Nat.le_refl _) _) | assumption | exact keepP (by assumption) (below_drew (Below.refl _ _)) | go_keep)
          (first
            | (go_at_call 99; refine (HM _ (belP (by assumption))).mono ?_; rintro e w' ⟨rfl, hb⟩))
        all_goals
          rename_i hH
          obtain ⟨e0, e1, e2, f0, f1, f2, kb2, kr2, hb3, hB3⟩ := hH
          have HKf := Lib.hid (And.intro (kb2.trans (show _ = some (twnO (minT T m0 (l.take (k + 1)))) by rw [HS2.out]; rfl)) kr2)
          have HXf := Lib.hid (show 0 ≤ (minT T m0 (l.take (k + 1))).x ∧ (minT T m0 (l.take (k + 1))).x ≤ 100000 by rw [HS2.out]; exact HXM.out)
          go_wp2
          go_roundw
          case rel => exact ⟨k + 1, by omega, by omega, by go_num, HKf, HXf, hb3⟩
          case measure => simp [intOf]; omega
    · obtain rfl : k = l.length := by omega
      rw [List.take_length] at kb
      unfold twnO at kb
      obtain ⟨d0, d1, d2, -, -, -⟩ := cel3 kb
      obtain ⟨q0, q1, q2, q3, q4, q5⟩ := cel3 kr
      obtain ⟨m, hm⟩ : ∃ m, minT T m0 l = m := ⟨_, rfl⟩
      rw [hm] at kb d0 d1 d2
      have HE := Lib.hid hm
      clear hm
      obtain ⟨s1, s2⟩ := set3 kr (.string m.s) (.int .i64 m.x) (.int .i64 m.h)
      obtain ⟨t0, t1, t2, -, -, -⟩ := cel3 s1
      have hbf := hb.grown s2 hb.size (fun j e => by cases e; exact Nat.le_refl _)
      clear HK HMx
      go_wp2
      exact bodyPost_ret (v := .agg #[.string m.s, .int .i64 m.x, .int .i64 m.h]) (by simp [results, Tryz.results98, go_sem, t0, t1, t2]) rfl ⟨by rw [HE.out]; rfl, hbf⟩
end Go.Proofs.YtlkeejhaodedmaaGreatDoor

/- hang: Nearest: Index, Nearest. -/
namespace Go.Proofs.YtlkeejhaodedmaaGreatDoor
open Go.RowKit

def sameT (a b : Twn) : Bool := nmE a.s b.s && (decide (a.x = b.x) && decide (a.h = b.h))
theorem sameT_iff (a b : Twn) : sameT a b = true ↔ a = b := by
  simp only [sameT, Bool.and_eq_true, nmE_iff, decide_eq_true_eq]
  cases a; cases b
  simp only [Twn.mk.injEq]
set_option maxRecDepth 100000 in
theorem eqTwn (a b : Twn) (r : Bool) (hr : sameT a b = r) (w : World) : (Op.equalIn 10000 132 (.agg #[.string a.s, .int .i64 a.x, .int .i64 a.h]) (.agg #[.string b.s, .int .i64 b.x, .int .i64 b.h])).run Tryz.prog w = .ok r w := by
  have u3 := Tryz.underlying3
  have a3 := Tryz.isAgg3
  have z3 := Tryz.sizeOf3
  have u9 := Tryz.underlying9
  have a9 := Tryz.isAgg9
  have z9 := Tryz.sizeOf9
  have hS : Tryz.prog.underlying 132 = some (.struct (Tryz.prog.fieldsOf 132)) := by kernel_rfl
  have hp : Tryz.prog.stoodInHeld 132 = false := by kernel_rfl
  subst hr
  rw [show (10000 : Nat) = 9999 + 1 from rfl, run_equalIn_struct w 9999 132 _ _ hS hp]
  simp only [Program.fieldsOf, Tryz.underlying132]
  go_simp
  unfold sameT nmE
  by_cases h0 : a.s.toList = b.s.toList <;> by_cases h1 : a.x = b.x <;> by_cases h2 : a.h = b.h <;> simp [h0, h1, h2]
theorem guardTwn : Tryz.prog.eqGuardType Tryz.prog.depth 132 = false := by kernel_rfl
set_option maxHeartbeats 4000000 in
set_option maxRecDepth 100000 in
theorem hgIndexT (A : Option Addr) (c : Nat) (L : List Twn) (m : Twn) (w : World) (hL : L.length ≤ 100000) (hA : OKV Twn.c 3 w A c L) :
    Calls Tryz.prog 103 #[.slice A L.length c, .agg #[.string m.s, .int .i64 m.x, .int .i64 m.h]] w (IdxP (sameT m) L w) := by
  have HR := Lib.hid hA.2.2.2
  have hgd := guardTwn
  obtain ⟨w1, hw1, k1, hb1, hz1⟩ := boxS w (.cells #[.string m.s, .int .i64 m.x, .int .i64 m.h] 132)
  have K1 := Lib.hid k1
  clear hA k1
  go_enter Tryz.func103, Tryz.ntmps103
  go_wp2_with fail
  go_loopw [5, 8] (fun _ i wr => ∃ k : Nat, k ≤ L.length ∧ i = .int .i64 k ∧ Hid (∀ i (hi : i < L.length), i < k → sameT m L[i] = false) ∧ Below w1.heap.size w1 wr) (fun _ i _ => L.length - (intOf i).toNat)
  case atStart => exact ⟨0, Nat.zero_le _, rfl, Lib.hid (fun _ _ h => by omega), Below.refl _ _⟩
  case round =>
    obtain ⟨k, hk, rfl, HN, hb⟩ := hrel
    by_cases hlt : k < L.length
    · have hki : (k : Int) < (L.length : Int) := by omega
      have hk0 : (0 : Int) ≤ (k : Int) := by omega
      have hrv := (HR.out.to hb1).to hb
      obtain ⟨b, off, rfl, hB, c0, c1, c2⟩ := atT hrv hlt
      obtain ⟨d0, d1, d2, -, -, -⟩ := cel3 (blkT K1.out hb)
      obtain ⟨p, hp⟩ : ∃ p, sameT m L[k] = p := ⟨_, rfl⟩
      have HP := Lib.hid hp
      have heq := fun w => eqTwn m L[k] p hp w
      clear hrv hp
      go_wp2_with fail
      go_quiet (fail)
      cases p
      · go_wp2
        go_roundw
        case rel => exact ⟨k + 1, by omega, by go_num, Lib.hid (fun i hi hik => (Nat.lt_or_ge i k).elim (HN.out i hi) (fun h => by
          obtain rfl : i = k := by omega
          exact HP.out)), below_drewN hb _⟩
        case measure => simp [intOf]; omega
      · go_wp2
        go_ret
        obtain ⟨q1, q2⟩ := any_step (sameT m) L hlt (fun i hi => HN.out i (by omega) hi) HP.out
        exact ⟨(k : Int), rfl, by rw [q1]; simp, fun _ => ⟨k, rfl, q2⟩, below_drewN (tw hb1 hb) _⟩
    · obtain rfl : k = L.length := by omega
      have HF := Lib.hid (any_none (sameT m) L (fun i hi => HN.out i hi hi))
      go_wp2
      go_ret
      exact ⟨-1, rfl, by rw [HF.out]; rfl, fun h => absurd h (by decide), tw hb1 hb⟩
theorem twsE_zero {l : List Twn} (h : twsE l = 0) : l.length ≤ 32 ∧ ∀ i (hi : i < l.length), namE l[i].s = 0 ∧ newE (l.take i) l[i] = 0 ∧ (1 ≤ l[i].x ∧ l[i].x ≤ 100000) ∧ 1 ≤ l[i].h ∧ l[i].h ≤ 100 := by
  unfold twsE at h
  split at h
  · cases h
  · refine ⟨by omega, fun i hi => ?_⟩
    have h1 := lstE_zero _ l [] h i hi
    rw [List.nil_append] at h1
    obtain ⟨h1, h2, h3, h4⟩ := fst4_zero h1
    exact ⟨h1, h2, rngH_zero h3, rngH_zero h4⟩
def twn0 : Twn := ⟨⟨#[]⟩, 0, 0⟩
def nrE0 (l : List Twn) (T : Int) : Int := fstE [twsE l, rngH T 1 100000]
def nrE (l : List Twn) (T : Int) : Int := if nrE0 l T = 0 then (if l.length = 0 then 12 else 0) else nrE0 l T
def nrI (l : List Twn) (T : Int) : Nat := (l.findIdx? (sameT (minT T (l.headD twn0) l))).getD 0
theorem keepX {W w1 w2 : World} {g : Nat} {x : Value} {A : Option Addr} {c : Nat} {l : List Twn} (k : w1.cell? ⟨g, 0, none⟩ = some x ∧ OKV Twn.c 3 w1 A c l ∧ Below W.heap.size W w1 ∧ g < w1.heap.size) (hb : Below w1.heap.size w1 w2) :
    w2.cell? ⟨g, 0, none⟩ = some x ∧ OKV Twn.c 3 w2 A c l ∧ Below W.heap.size W w2 ∧ g < w2.heap.size := by
  obtain ⟨h0, h3, h4, h5⟩ := k
  have := hb.size
  exact ⟨(hb.cell (p := ⟨g, 0, none⟩) h5).trans h0, h3.below hb, tw h4 hb, by omega⟩
theorem okX {W w1 : World} {g : Nat} {x : Value} {A : Option Addr} {c : Nat} {l : List Twn} (k : w1.cell? ⟨g, 0, none⟩ = some x ∧ OKV Twn.c 3 w1 A c l ∧ Below W.heap.size W w1 ∧ g < w1.heap.size) : OKV Twn.c 3 w1 A c l := k.2.1
set_option maxHeartbeats 8000000 in
set_option maxRecDepth 100000 in
theorem hgNearest (A : Option Addr) (c : Nat) (l : List Twn) (T : Int) (w : World) (hl : l.length ≤ 1000) (hA : OKV Twn.c 3 w A c l) :
    Calls Tryz.prog 50 #[.slice A l.length c, .int .i64 T] w fun e w' => e = .returned (.tuple #[.int .i64 (oz (nrE l T) (nrI l T : Nat)), .int .i64 (nrE l T)]) ∧ Below w.heap.size w w' := by
  obtain ⟨w1, hw1, k1, hb1, hz1⟩ := boxS w (.cells #[.int .i64 T] 3)
  obtain ⟨c0, -⟩ := cel1 k1
  have hA1 := hA.below hb1
  have HC := fun w h => hgCheckTwines A c l w hl h
  have HE0 := Lib.hid (show fstE [twsE l, rngH T 1 100000] = nrE0 l T from rfl)
  by_cases hz : nrE0 l T = 0
  · obtain ⟨r1, r2⟩ := fst2_zero hz
    have gT := rngH_zero r2
    obtain ⟨g1, g2⟩ := twsE_zero r1
    rw [hz] at HE0
    by_cases hn : l.length = 0
    · have hE : nrE l T = 12 := by rw [nrE, if_pos hz, if_pos hn]
      rw [hE, ozE (by decide)]
      have hn0 : ((l.length : Int) == 0) = true := by rw [beq_iff_eq]; omega
      clear hE hz hn g2 r1 r2 hA
      go_enter Tryz.func50, Tryz.ntmps50
      go_wp2_with fail
      go_region_held3 (fun w' => w'.cell? ⟨w.heap.size, 0, none⟩ = some (.int .i64 T) ∧ OKV Twn.c 3 w' A c l ∧ Below w.heap.size w w' ∧ w.heap.size < w'.heap.size)
        (first | exact ⟨c0, hA1, hb1, hz1⟩ | exact ⟨c0, hA1, below_drew hb1, hz1⟩ | exact keepX (by assumption) (by assumption) | exact keepX (by assumption) ((Below.refl _ _).alloc (Nat.le_refl _) _) | assumption | exact keepX (by assumption) (below_drew (Below.refl _ _)) | go_keep)
        (first
          | (go_at_call 54; refine (HC _ (okX (by assumption))).mono ?_; rintro e w' ⟨rfl, hb⟩)
          | (go_at_call 97; refine (hgCheckTex _ _).mono ?_; rintro e w' ⟨rfl, rfl⟩)
          | (go_at_call 72; refine (hgFirst2 _ _ _ _ 26 _ (by exact newBlk _ _)).mono ?_; rintro e w' ⟨rfl, rfl⟩))
      all_goals
        rename_i hH
        rw [HE0.out]
        go_wp2
        go_ret2
        exact ⟨rfl, hH.2.2.1⟩
    · have hE : nrE l T = 0 := by rw [nrE, if_pos hz, if_neg hn]
      obtain ⟨m0, r, hlr⟩ : ∃ m0 r, l = m0 :: r := by
        cases l with
        | nil => exact absurd rfl hn
        | cons a r => exact ⟨a, r, rfl⟩
      have hh : l.headD twn0 = m0 := by rw [hlr]; rfl
      have hg0 : l[0]? = some m0 := by rw [hlr]; rfl
      have hmem : minT T m0 l ∈ l := by
        rcases minT_mem T l m0 with h | h
        · rw [h, hlr]; exact List.mem_cons_self
        · exact h
      have hany : l.any (sameT (minT T m0 l)) = true := List.any_eq_true.2 ⟨_, hmem, (sameT_iff _ _).2 rfl⟩
      have hI : nrI l T = (l.findIdx? (sameT (minT T m0 l))).getD 0 := by rw [nrI, hh]
      rw [hE, oz0, hI]
      have HM := fun q c w h1 h2 => hgMinFunc q A c l T m0 w hl hg0 (fun t ht => by
        obtain ⟨i, hi, rfl⟩ := List.mem_iff_getElem.1 ht
        have := (g2 i hi).2.2.1
        omega) (by omega) h1 h2
      have HI := fun c w h => hgIndexT A c l (minT T m0 l) w (by omega) h
      have HAn := Lib.hid hany
      generalize minT T m0 l = m at HM HI HAn ⊢
      have hn0 : ((l.length : Int) == 0) = false := by rw [beq_eq_false_iff_ne]; omega
      clear hE hz hn g2 r1 r2 hA hany hI hmem hg0 hh hlr r m0
      go_enter Tryz.func50, Tryz.ntmps50
      go_wp2_with fail
      go_region_held3 (fun w' => w'.cell? ⟨w.heap.size, 0, none⟩ = some (.int .i64 T) ∧ OKV Twn.c 3 w' A c l ∧ Below w.heap.size w w' ∧ w.heap.size < w'.heap.size)
        (first | exact ⟨c0, hA1, hb1, hz1⟩ | exact ⟨c0, hA1, below_drew hb1, hz1⟩ | exact keepX (by assumption) (by assumption) | exact keepX (by assumption) ((Below.refl _ _).alloc (Nat.le_refl _) _) | assumption | exact keepX (by assumption) (below_drew (Below.refl _ _)) | go_keep)
        (first
          | (go_at_call 54; refine (HC _ (okX (by assumption))).mono ?_; rintro e w' ⟨rfl, hb⟩)
          | (go_at_call 97; refine (hgCheckTex _ _).mono ?_; rintro e w' ⟨rfl, rfl⟩)
          | (go_at_call 72; refine (hgFirst2 _ _ _ _ 26 _ (by exact newBlk _ _)).mono ?_; rintro e w' ⟨rfl, rfl⟩))
      all_goals
        rename_i hH
        obtain ⟨e0, eA, eb, ez⟩ := hH
        rw [HE0.out]
        go_wp2_with fail
        refine (HM _ _ _ e0 eA).mono ?_
        rintro e w5 ⟨rfl, hb5⟩
        obtain ⟨w6, hw6, k6, hb6, hz6⟩ := boxS w5 (.cells #[.string m.s, .int .i64 m.x, .int .i64 m.h] 132)
        obtain ⟨d0, d1, d2, -, -, -⟩ := cel3 k6
        have eA6 := (eA.below hb5).below hb6
        unfold twnV
        go_wp2_with fail
        refine (HI _ _ eA6).mono ?_
        rintro e w7 ⟨j, rfl, hj1, hj2, hb7⟩
        rw [HAn.out, decide_eq_true_eq] at hj1
        obtain ⟨i, rfl, hfi⟩ := hj2 hj1
        have HF := Lib.hid hfi
        have hbf := tw (tw (tw eb hb5) hb6) hb7
        clear hfi hj2
        go_wp2
        go_ret2
        exact ⟨by rw [HF.out]; rfl, hbf⟩
  · rw [nrE, if_neg hz, ozE hz]
    generalize nrE0 l T = E at HE0 hz ⊢
    have hne := nzH hz
    clear hz hA
    go_enter Tryz.func50, Tryz.ntmps50
    go_wp2_with fail
    go_region_held3 (fun w' => w'.cell? ⟨w.heap.size, 0, none⟩ = some (.int .i64 T) ∧ OKV Twn.c 3 w' A c l ∧ Below w.heap.size w w' ∧ w.heap.size < w'.heap.size)
      (first | exact ⟨c0, hA1, hb1, hz1⟩ | exact ⟨c0, hA1, below_drew hb1, hz1⟩ | exact keepX (by assumption) (by assumption) | exact keepX (by assumption) ((Below.refl _ _).alloc (Nat.le_refl _) _) | assumption | exact keepX (by assumption) (below_drew (Below.refl _ _)) | go_keep)
      (first
        | (go_at_call 54; refine (HC _ (okX (by assumption))).mono ?_; rintro e w' ⟨rfl, hb⟩)
        | (go_at_call 97; refine (hgCheckTex _ _).mono ?_; rintro e w' ⟨rfl, rfl⟩)
        | (go_at_call 72; refine (hgFirst2 _ _ _ _ 26 _ (by exact newBlk _ _)).mono ?_; rintro e w' ⟨rfl, rfl⟩))
    all_goals
      rename_i hH
      rw [HE0.out]
      go_wp2
      go_ret2
      exact ⟨rfl, hH.2.2.1⟩
end Go.Proofs.YtlkeejhaodedmaaGreatDoor

/- A map from strings to ints that the call itself has made: what its block holds, and what its operations do. -/
namespace Go.Proofs.YtlkeejhaodedmaaGreatDoor
open Go.RowKit Go.ChangeMaps Go.MapKept

def kvv (k : ByteArray) : Value := .string k
def mget : List (ByteArray × Int) → ByteArray → Int
  | [], _ => 0
  | p :: r, k => if k = p.1 then p.2 else mget r k
def mput : List (ByteArray × Int) → ByteArray → Int → List (ByteArray × Int)
  | [], k, v => [(k, v)]
  | p :: r, k, v => if k = p.1 then (k, v) :: r else p :: mput r k v
def fnd : List (ByteArray × Int) → ByteArray → Nat → Option (Nat × Value)
  | [], _, _ => none
  | p :: r, k, i => if k = p.1 then some (i, .int .i64 p.2) else fnd r k (i + 1)

theorem beqB (a b : ByteArray) : (a == b) = decide (a = b) := by
  obtain ⟨x⟩ := a
  obtain ⟨y⟩ := b
  have e : ((⟨x⟩ : ByteArray) == ⟨y⟩) = (x == y) := rfl
  rw [e]
  by_cases h : x = y
  · subst h; simp
  · rw [beq_eq_false_iff_ne.2 h, eq_comm, decide_eq_false_iff_not]
    intro h'
    injection h' with h'
    exact h h'
/-- The entries es hold the pairs m. -/
def Ents (es : Array MapEntry) (m : List (ByteArray × Int)) : Prop := es.toList.map (fun e => (e.key, e.val)) = m.map fun p => (kvv p.1, Value.int .i64 p.2)
theorem run_findNow (k : ByteArray) : ∀ (l : List MapEntry) (m : List (ByteArray × Int)) (i : Nat), l.map (fun e => (e.key, e.val)) = m.map (fun p => (kvv p.1, Value.int .i64 p.2)) →
    Instr.findNow .string (kvv k) l i = some (fnd m k i)
  | [], [], _, _ => rfl
  | [], _ :: _, _, h => by simp at h
  | _ :: _, [], _, h => by simp at h
  | e :: l, p :: m, i, h => by
    simp only [List.map_cons, List.cons.injEq, Prod.mk.injEq] at h
    obtain ⟨⟨h1, h2⟩, h3⟩ := h
    have hs : Instr.sameNow .string (kvv k) e.key = some (decide (k = p.1)) := by rw [h1, ← beqB]; rfl
    rw [Instr.findNow, hs, fnd]
    by_cases hk : k = p.1
    · rw [decide_eq_true hk, if_pos hk, h2]
    · rw [decide_eq_false hk, if_neg hk]
      exact run_findNow k l m (i + 1) h3
theorem run_findKey (k : ByteArray) (w : World) (es : Array MapEntry) (m : List (ByteArray × Int)) (h : Ents es m) : (Instr.findKey 9 (kvv k) es.toList).run Tryz.prog w = .ok (fnd m k 0) w := by
  have hu := Tryz.underlying9
  unfold Ents at h
  simp only [Instr.findKey, Sem.run_bind, run_underlying hu, Result.andThen, run_findNow k _ m 0 h]
  rfl
theorem run_checkKnot (b : Bool) (k : ByteArray) (w : World) : (Instr.checkKey b 10000 9 (kvv k)).run Tryz.prog w = .ok () w := by
  cases b <;> kernel_rfl

theorem fnd_spec (k : ByteArray) : ∀ (m : List (ByteArray × Int)) (i : Nat), (fnd m k i = none ∧ k ∉ m.map (·.1) ∧ mget m k = 0 ∧ ∀ v, mput m k v = m ++ [(k, v)]) ∨
    ∃ j, fnd m k i = some (i + j, .int .i64 (mget m k)) ∧ m[j]? = some (k, mget m k) ∧ ∀ v, mput m k v = m.set j (k, v)
  | [], i => .inl ⟨rfl, by simp, rfl, fun _ => rfl⟩
  | p :: m, i => by
    by_cases hk : k = p.1
    · refine .inr ⟨0, by simp [fnd, mget, hk], by simp [mget, hk], fun v => by simp [mput, hk]⟩
    · rcases fnd_spec k m (i + 1) with ⟨h1, h2, h3, h4⟩ | ⟨j, h1, h2, h3⟩
      · refine .inl ⟨by simp [fnd, hk, h1], by simp only [List.map_cons, List.mem_cons, not_or]; exact ⟨hk, h2⟩, by simp [mget, hk, h3], fun v => by simp [mput, hk, h4]⟩
      · refine .inr ⟨j + 1, by simp [fnd, hk, h1, mget]; omega, by simp [h2, mget, hk], fun v => by simp [mput, hk, h3]⟩

/-- Block b of w is a map that holds the pairs m, each key once. -/
def MIs (w : World) (b : Nat) (m : List (ByteArray × Int)) : Prop :=
  ∃ es clock, w.heap[b]? = some (.map es clock) ∧ Ents es m ∧ (m.map (·.1)).Nodup ∧ (es.toList.map (·.born)).Nodup ∧ ∀ e ∈ es.toList, e.born < clock
theorem MIs.made (w : World) : MIs (w.alloc (.map #[] 0)) w.heap.size [] := ⟨#[], 0, heap_alloc_new _ _, rfl, by simp, by simp, by simp⟩
theorem MIs.of_block {w w' : World} {b : Nat} {m : List (ByteArray × Int)} (h : MIs w b m) (hb : w'.heap[b]? = w.heap[b]?) : MIs w' b m := by
  obtain ⟨es, clock, h1, h2⟩ := h
  exact ⟨es, clock, hb.trans h1, h2⟩
theorem MIs.below {w w' : World} {b B : Nat} {m : List (ByteArray × Int)} (h : MIs w b m) (hb : Below B w w') (hB : b < B) : MIs w' b m := h.of_block (hb.block b hB)
theorem MIs.drew {w : World} {b : Nat} {m : List (ByteArray × Int)} (h : MIs w b m) : MIs w.drew b m := h
theorem MIs.lt {w : World} {b : Nat} {m : List (ByteArray × Int)} (h : MIs w b m) : b < w.heap.size := by
  obtain ⟨_, _, h1, _⟩ := h
  exact (Array.getElem?_eq_some_iff.1 h1).1

theorem MIs.lookup {w : World} {b : Nat} {m : List (ByteArray × Int)} (h : MIs w b m) (k : ByteArray) : (Instr.lookup 165 (.map (some b)) (kvv k) false).run Tryz.prog w = .ok (.int .i64 (mget m k)) w := by
  obtain ⟨es, clock, h1, h2, _⟩ := h
  have hz : (zeroValue 3).run Tryz.prog w = .ok (.int .i64 0) w := by kernel_rfl
  rcases fnd_spec k m 0 with ⟨g1, _, g3, _⟩ | ⟨j, g1, _⟩
  · simp [Instr.lookup, run_underlying Tryz.underlying165, MapKept.run_getObj_map h1, run_checkKnot, run_findKey k w es m h2, g1, g3, hz, Result.andThen]
  · simp [Instr.lookup, run_underlying Tryz.underlying165, MapKept.run_getObj_map h1, run_checkKnot, run_findKey k w es m h2, g1, Result.andThen]

theorem stays (k : ByteArray) (w : World) (old : Value) (h : old = kvv k) : (Instr.keyThatStays old (kvv k)).run Tryz.prog w = .ok (kvv k) w := by
  have hs : Instr.sameBits 10000 (kvv k) (kvv k) = true := by
    rw [show (10000 : Nat) = 9998 + 1 + 1 from rfl]
    simp [Instr.sameBits, kvv, beqB]
  subst h
  simp [Instr.keyThatStays, hs]
theorem Ents.key {es : Array MapEntry} {m : List (ByteArray × Int)} (h : Ents es m) {j : Nat} {p : ByteArray × Int} (hj : m[j]? = some p) : ∃ e, es.toList[j]? = some e ∧ e.key = kvv p.1 ∧ e.val = .int .i64 p.2 := by
  have h' := congrArg (fun l => l[j]?) h
  simp only [List.getElem?_map, hj, Option.map_some] at h'
  cases he : es.toList[j]? with
  | none => rw [he] at h'; simp at h'
  | some e =>
    rw [he] at h'
    simp at h'
    exact ⟨e, rfl, h'.1, h'.2⟩
theorem Ents.set {es es' : Array MapEntry} {m : List (ByteArray × Int)} (h : Ents es m) {j : Nat} {p : ByteArray × Int} {e : MapEntry} (he : es'.toList = es.toList.set j e) (hk : e.key = kvv p.1) (hv : e.val = .int .i64 p.2) : Ents es' (m.set j p) := by
  unfold Ents at h ⊢
  rw [he, List.map_set, List.map_set, h, hk, hv]
theorem modify_set (es : Array MapEntry) (j : Nat) (e : MapEntry) (f : MapEntry → MapEntry) (h : es.toList[j]? = some e) : (es.modify j f).toList = es.toList.set j (f e) := by
  rw [Array.toList_modify]
  have hj : j < es.toList.length := (List.getElem?_eq_some_iff.1 h).1
  apply List.ext_getElem?
  intro i
  rw [List.getElem?_modify, List.getElem?_set]
  by_cases hi : j = i
  · subst hi
    simp only [if_true, h]
    rw [if_pos hj]
    rfl
  · simp [hi]

theorem MIs.update {w : World} {b : Nat} {m : List (ByteArray × Int)} (h : MIs w b m) (k : ByteArray) (v : Int) :
    ∃ w', (Instr.mapUpdate 165 (.map (some b)) (kvv k) (.int .i64 v)).run Tryz.prog w = .ok () w' ∧ MIs w' b (mput m k v) ∧ w.grownBy w' (some b) := by
  obtain ⟨es, clock, h1, h2, h3, h4, h5⟩ := h
  have grown : ∀ o, w.grownBy (setBlock w b o) (some b) := fun o => ⟨rfl, rfl, rfl, by simp [setBlock], fun i _ hi => heap_setBlock_other h1 _ (fun e => hi (by rw [e]))⟩
  rcases fnd_spec k m 0 with ⟨g1, g2, g3, g4⟩ | ⟨j, g1, g2, g3⟩
  · refine ⟨setBlock w b (.map (es.push { key := kvv k, val := .int .i64 v, born := clock }) (clock + 1)), ?_, ?_, grown _⟩
    · simp [Instr.mapUpdate, run_underlying Tryz.underlying165, MapKept.run_getObj_map h1, run_checkKnot, run_findKey k w es m h2, g1, MapKept.run_setObj_map _ h1, Result.andThen, setBlock]
    · refine ⟨_, _, heap_setBlock_same h1 _, ?_, ?_, ?_, ?_⟩
      · rw [g4]; unfold Ents at h2 ⊢; simp [h2]
      · rw [g4, List.map_append]
        exact List.nodup_append.2 ⟨h3, by simp, fun x hx y hy e => g2 (by simp at hy; rw [← hy, ← e]; exact hx)⟩
      · simp only [Array.toList_push, List.map_append]
        exact List.nodup_append.2 ⟨h4, by simp, fun x hx y hy e => by
          simp at hy
          obtain ⟨e', he', rfl⟩ := List.mem_map.1 hx
          have := h5 e' he'
          omega⟩
      · intro e he
        simp at he
        rcases he with he | rfl
        · have := h5 e (by simpa using he); omega
        · simp
  · obtain ⟨e, he, hek, hev⟩ := h2.key g2
    have he' : es[j]? = some e := by simpa using he
    have hm := modify_set es j e (fun e => { e with key := kvv k, val := .int .i64 v }) he
    refine ⟨setBlock w b (.map (es.modify j fun e => { e with key := kvv k, val := .int .i64 v }) clock), ?_, ?_, grown _⟩
    · simp [Instr.mapUpdate, run_underlying Tryz.underlying165, MapKept.run_getObj_map h1, run_checkKnot, run_findKey k w es m h2, g1, MapKept.run_setObj_map _ h1, Result.andThen, setBlock, he', stays k w e.key hek]
    · refine ⟨_, _, heap_setBlock_same h1 _, ?_, ?_, ?_, ?_⟩
      · rw [g3]; exact h2.set hm rfl rfl
      · rw [g3, List.map_set]
        have : (m.map (·.1)).set j k = m.map (·.1) := by
          apply List.ext_getElem?
          intro i
          rw [List.getElem?_set]
          split
          · rename_i hi
            subst hi
            simp [g2]
            exact (List.getElem?_eq_some_iff.1 g2).1
          · rfl
        simp only [this]
        exact h3
      · rw [hm, List.map_set]
        have : (es.toList.map (·.born)).set j e.born = es.toList.map (·.born) := by
          apply List.ext_getElem?
          intro i
          rw [List.getElem?_set]
          split
          · rename_i hi
            subst hi
            simp [he']
            exact (Array.getElem?_eq_some_iff.1 he').1
          · rfl
        simp only [this]
        exact h4
      · intro x hx
        rw [hm] at hx
        rcases List.mem_or_eq_of_mem_set hx with hx | rfl
        · exact h5 x hx
        · exact h5 e (List.mem_of_getElem? he)
end Go.Proofs.YtlkeejhaodedmaaGreatDoor
