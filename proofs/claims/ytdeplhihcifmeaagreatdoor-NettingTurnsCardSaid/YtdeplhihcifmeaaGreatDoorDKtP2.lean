/- Helpers: DKtP2. -/
import Derived.Test.YtdeplhihcifmeaaGreatDoorDKtP1
import Derived.Deep.RegionHeld3
import Derived.ProofKit
import Derived.Deep.Slices
import Derived.Deep.Fields
/- NettingTurns: wrappers, and the ways that end before the motions. -/
namespace Go.Proofs.YtdeplhihcifmeaaGreatDoor
open Go.RowKit Go.Shelf Ck

theorem rngB (n lo hi R : Int) (w : World) (h : (if n < lo ∨ hi < n then (3 : Int) else 0) = R) :
    Calls Tryz.prog 75 #[.int .i64 n, .int .i64 lo, .int .i64 hi] w fun e w' => e = .returned (.int .i64 R) ∧ Below w.heap.size w w' :=
  (refCheckRange n lo hi w).mono fun e w' ⟨he, hw⟩ => by subst h hw; exact ⟨he, Below.refl _ _⟩
theorem cntF (A : Option Addr) (c n : Nat) (V : Array Value) (C g : List Bar) (w : World) (k m p h5 : Int) (F : Fit n V C k m p g) (h5e : h5 = (n : Int) - k + p - m) (hn : n ≤ 4096) (h : OKS w A c g) :
    Calls Tryz.prog 53 #[.slice A g.length c] w fun e w' => e = .returned (.tuple #[.agg #[.int .i64 k, .int .i64 (n : Int), .int .i64 m, .int .i64 p, .int .i64 h5], .int .i64 0]) ∧ Below w.heap.size w w' := by
  obtain ⟨G, hG, hp⟩ := F.parts
  have e := F.len
  subst e
  exact countP' A c g G w k m p h5 F.nk F.nm hp h5e hG hn F.net h
theorem legF (A : Option Addr) (c n : Nat) (C g : List Bar) (w : World) (k m p n0 n1 n2 n3 n4 : Int) (F : Fit n #[.int .i64 n0, .int .i64 n1, .int .i64 n2, .int .i64 n3, .int .i64 n4] C k m p g) (hn : n ≤ 4096) (h : OKS w A c g) :
    Calls Tryz.prog 43 #[.slice A g.length c] w fun e w' => e = .returned (.tuple #[.agg #[.int .i64 n0, .int .i64 n1, .int .i64 n2, .int .i64 n3, .int .i64 n4], .int .i64 0]) ∧ Below w.heap.size w w' :=
  legsN A c g w n0 n1 n2 n3 n4 F.legs (by rw [F.len]; exact hn) F.net h
theorem canF (A : Option Addr) (c n : Nat) (V : Array Value) (C g : List Bar) (w : World) (k m p : Int) (F : Fit n V C k m p g) (hn : n ≤ 4096) (h : OKS w A c g) : Calls Tryz.prog 70 #[.slice A g.length c] w (PairPost C w) :=
  canonP A c g C w F.can (by rw [F.len]; exact hn) F.net F.forms h
set_option maxHeartbeats 16000000 in
set_option maxRecDepth 100000 in
theorem lawTu1 (A : Option Addr) (c : Nat) (l : List Bar) (dx dy X : Int) (w : World) (hL : LaidLen w) (hO : OKS w A c l) (hl : 20 < l.length) :
    Calls Tryz.prog 14 #[.slice A l.length c, .agg #[.int .i64 dx, .int .i64 dy], .int .i8 X] w fun e w' => e = .returned (.bool true) ∧ Below w.heap.size w w' := by
  have ex0 : ∀ (a b : Value) (w : World), (Instr.extract (.tuple #[a, b]) 0).run Tryz.prog w = .ok a w := fun _ _ _ => by kernel_rfl
  have ex1 : ∀ (a b : Value) (w : World), (Instr.extract (.tuple #[a, b]) 1).run Tryz.prog w = .ok b w := fun _ _ _ => by kernel_rfl
  obtain ⟨w1, hw1, z0, z1, hb1, hz1⟩ := box2 w (.int .i64 dx) (.int .i64 dy) 26
  have Q : ∀ {W : World}, Below w1.heap.size w1 W → W.cell? ⟨w.heap.size, 0, none⟩ = some (.int .i64 dx) ∧ W.cell? ⟨w.heap.size, 1, none⟩ = some (.int .i64 dy) := fun hb => ⟨(hb.cell (p := ⟨w.heap.size, 0, none⟩) hz1).trans z0, (hb.cell (p := ⟨w.heap.size, 1, none⟩) hz1).trans z1⟩
  have HW1 := Lib.hid hw1
  have HLL := Lib.hid hL
  have HO := Lib.hid hO
  have fin : ∀ {W : World}, Below w1.heap.size w1 W → Below w.heap.size w W := fun hb => hb1.trans (hb.mono hb1.size)
  have BW := Below.refl w1.heap.size w1
  have h1d : decide ((20 : Int) < (l.length : Int)) = true := by rw [decide_eq_true_eq]; omega
  have h1n : decide (20 < l.length) = true := by rw [decide_eq_true_eq]; omega
  have h1 : (20 : Int) < (l.length : Int) := by omega
  clear hl
  clear hw1 hL hO z0 z1
  go_enter Tryz.func14, Tryz.ntmps14
  go_wp2_with fail
  rw [← HW1.out]
  go_wp2_with fail
  refine wp_region_held_drew (S := (fun w' => Below w1.heap.size w1 w')) (by kernel_rfl) ?_ (fun hHeld => ?_)
  · exact below_drew BW
  refine wpAnyH_ready (rs := [0]) (by kernel_rfl) (by simp) ?_
  refine AllReadyH.cons (o := _) rfl (fun K hK => ?_) AllReadyH.nil
  simp only [layG]
  go_simp
  go_at_call 15
  refine (awake1 _ (HLL.out.below (fin (by assumption)) HLL.out.lt)).mono ?_
  rintro e w2 ⟨rfl, hbq⟩
  refine hK.out _ _ (hbT (by assumption) hbq) (fun hHeld => ?_)
  clear hK K
  try simp only [layA]
  refine wpAnyH_take (i := 1) (oi := _) (v := ?vra1) rfl (by kernel_rfl) (by kernel_rfl) (by kernel_rfl) (fun _ _ _ h => h) (Or.inl ⟨by rfl, ?hyra1⟩) (by assumption) ?restra1
  case hyra1 => (intro w hSw; (try dsimp only at hSw); go_simp; first | done | rfl)
  try simp only [layA]
  refine wpAnyH_take (i := 2) (oi := _) (v := ?vra2) rfl (by kernel_rfl) (by kernel_rfl) (by kernel_rfl) (fun _ _ _ h => h) (Or.inl ⟨by rfl, ?hyra2⟩) (by assumption) ?restra2
  case hyra2 => (intro w hSw; (try dsimp only at hSw); go_simp; first | done | rfl)
  try simp only [layA]
  refine wpAnyH_take (i := 3) (oi := _) (v := ?vra3) rfl (by kernel_rfl) (by kernel_rfl) (by kernel_rfl) (fun _ _ _ h => h) (Or.inl ⟨by rfl, ?hyra3⟩) (by assumption) ?restra3
  case hyra3 => (intro w hSw; (try dsimp only at hSw); go_simp; first | done | rfl)
  try simp only [layA]
  refine wpAnyH_take (i := 4) (oi := _) (v := ?vra4) rfl (by kernel_rfl) (by kernel_rfl) (by kernel_rfl) (fun _ _ _ h => h) (Or.inl ⟨by rfl, ?hyra4⟩) (by assumption) ?restra4
  case hyra4 => (intro w hSw; (try dsimp only at hSw); go_simp; first | done | rfl)
  try simp only [layA]
  refine wpAnyH_take (i := 5) (oi := _) (v := ?vra5) rfl (by kernel_rfl) (by kernel_rfl) (by kernel_rfl) (fun _ _ _ h => h) (Or.inl ⟨by rfl, ?hyra5⟩) (by assumption) ?restra5
  case hyra5 => (intro w hSw; (try dsimp only at hSw); go_simp; first | done | rfl)
  try simp only [layA]
  refine wpAnyH_take (i := 6) (oi := _) (v := ?vra6) rfl (by kernel_rfl) (by kernel_rfl) (by kernel_rfl) (fun _ _ _ h => h) (Or.inl ⟨by rfl, ?hyra6⟩) (by assumption) ?restra6
  case hyra6 => (intro w hSw; (try dsimp only at hSw); go_simp; first | done | rfl)
  try simp only [layA]
  refine wpAnyH_take (i := 7) (oi := _) (v := ?vra7) rfl (by kernel_rfl) (by kernel_rfl) (by kernel_rfl) (fun _ _ _ h => h) (Or.inl ⟨by rfl, ?hyra7⟩) (by assumption) ?restra7
  case hyra7 => (intro w hSw; (try dsimp only at hSw); go_simp; first | done | rfl)
  try simp only [layA]
  refine wpAnyH_take (i := 8) (oi := _) (v := undef) rfl (by kernel_rfl) (by kernel_rfl) (by kernel_rfl) (fun _ _ _ h => h) (Or.inr ⟨by rfl, rfl⟩) (by assumption) ?restra8
  try simp only [layA]
  refine wpAnyH_take (i := 9) (oi := _) (v := undef) rfl (by kernel_rfl) (by kernel_rfl) (by kernel_rfl) (fun _ _ _ h => h) (Or.inr ⟨by rfl, rfl⟩) (by assumption) ?restra9
  try simp only [layA]
  refine wpAnyH_take (i := 10) (oi := _) (v := undef) rfl (by kernel_rfl) (by kernel_rfl) (by kernel_rfl) (fun _ _ _ h => h) (Or.inr ⟨by rfl, rfl⟩) (by assumption) ?restra10
  try simp only [layA]
  refine wpAnyH_take (i := 11) (oi := _) (v := ?vra11) rfl (by kernel_rfl) (by kernel_rfl) (by kernel_rfl) (fun _ _ _ h => h) (Or.inl ⟨by rfl, ?hyra11⟩) (by assumption) ?restra11
  case hyra11 => (intro w hSw; (try dsimp only at hSw); go_simp; first | done | rfl)
  try simp only [layA]
  refine wpAnyH_take (i := 12) (oi := _) (v := ?vra12) rfl (by kernel_rfl) (by kernel_rfl) (by kernel_rfl) (fun _ _ _ h => h) (Or.inl ⟨by rfl, ?hyra12⟩) (by assumption) ?restra12
  case hyra12 => (intro w hSw; (try dsimp only at hSw); go_simp; first | done | rfl)
  try simp only [layA]
  refine wpAnyH_take (i := 13) (oi := _) (v := undef) rfl (by kernel_rfl) (by kernel_rfl) (by kernel_rfl) (fun _ _ _ h => h) (Or.inr ⟨by rfl, rfl⟩) (by assumption) ?restra13
  try simp only [layA]
  refine wpAnyH_take (i := 14) (oi := _) (v := undef) rfl (by kernel_rfl) (by kernel_rfl) (by kernel_rfl) (fun _ _ _ h => h) (Or.inr ⟨by rfl, rfl⟩) (by assumption) ?restra14
  try simp only [layA]
  refine wpAnyH_take (i := 15) (oi := _) (v := undef) rfl (by kernel_rfl) (by kernel_rfl) (by kernel_rfl) (fun _ _ _ h => h) (Or.inr ⟨by rfl, rfl⟩) (by assumption) ?restra15
  try simp only [layA]
  refine wpAnyH_take (i := 16) (oi := _) (v := undef) rfl (by kernel_rfl) (by kernel_rfl) (by kernel_rfl) (fun _ _ _ h => h) (Or.inr ⟨by rfl, rfl⟩) (by assumption) ?restra16
  try simp only [layA]
  refine wpAnyH_take (i := 17) (oi := _) (v := undef) rfl (by kernel_rfl) (by kernel_rfl) (by kernel_rfl) (fun _ _ _ h => h) (Or.inr ⟨by rfl, rfl⟩) (by assumption) ?restra17
  try simp only [layA]
  refine wpAnyH_take (i := 18) (oi := _) (v := undef) rfl (by kernel_rfl) (by kernel_rfl) (by kernel_rfl) (fun _ _ _ h => h) (Or.inr ⟨by rfl, rfl⟩) (by assumption) ?restra18
  try simp only [layA]
  refine wpAnyH_take (i := 19) (oi := _) (v := undef) rfl (by kernel_rfl) (by kernel_rfl) (by kernel_rfl) (fun _ _ _ h => h) (Or.inr ⟨by rfl, rfl⟩) (by assumption) ?restra19
  try simp only [layA]
  refine wpAnyH_take (i := 20) (oi := _) (v := undef) rfl (by kernel_rfl) (by kernel_rfl) (by kernel_rfl) (fun _ _ _ h => h) (Or.inr ⟨by rfl, rfl⟩) (by assumption) ?restra20
  try simp only [layA]
  refine wpAnyH_take (i := 21) (oi := _) (v := undef) rfl (by kernel_rfl) (by kernel_rfl) (by kernel_rfl) (fun _ _ _ h => h) (Or.inr ⟨by rfl, rfl⟩) (by assumption) ?restra21
  try simp only [layA]
  refine wpAnyH_take (i := 22) (oi := _) (v := undef) rfl (by kernel_rfl) (by kernel_rfl) (by kernel_rfl) (fun _ _ _ h => h) (Or.inr ⟨by rfl, rfl⟩) (by assumption) ?restra22
  try simp only [layA]
  refine wpAnyH_take (i := 23) (oi := _) (v := undef) rfl (by kernel_rfl) (by kernel_rfl) (by kernel_rfl) (fun _ _ _ h => h) (Or.inr ⟨by rfl, rfl⟩) (by assumption) ?restra23
  try simp only [layA]
  refine wpAnyH_take (i := 24) (oi := _) (v := ?vra24) rfl (by kernel_rfl) (by kernel_rfl) (by kernel_rfl) (fun _ _ _ h => h) (Or.inl ⟨by rfl, ?hyra24⟩) (by assumption) ?restra24
  case hyra24 => (intro w hSw; (try dsimp only at hSw); go_simp; first | done | rfl)
  try simp only [layA]
  refine wpAnyH_done (by kernel_rfl) ?_ _
  replace BW := hHeld
  clear hHeld
  go_wp2_with fail
  refine (awake1 _ (HLL.out.below (fin BW) HLL.out.lt)).mono ?_
  rintro e w11 ⟨rfl, hb11⟩
  replace BW := hbT BW hb11
  clear hb11
  go_wp2
  go_ret
  exact ⟨rfl, fin BW⟩
set_option maxHeartbeats 16000000 in
set_option maxRecDepth 100000 in
theorem lawTu2 (A : Option Addr) (c : Nat) (l : List Bar) (dx dy X : Int) (w : World) (hL : LaidLen w) (hO : OKS w A c l) (hl : l.length ≤ 20) (E : Int) (hE : netE l = E) (hne : E ≠ 0) :
    Calls Tryz.prog 14 #[.slice A l.length c, .agg #[.int .i64 dx, .int .i64 dy], .int .i8 X] w fun e w' => e = .returned (.bool true) ∧ Below w.heap.size w w' := by
  have ex0 : ∀ (a b : Value) (w : World), (Instr.extract (.tuple #[a, b]) 0).run Tryz.prog w = .ok a w := fun _ _ _ => by kernel_rfl
  have ex1 : ∀ (a b : Value) (w : World), (Instr.extract (.tuple #[a, b]) 1).run Tryz.prog w = .ok b w := fun _ _ _ => by kernel_rfl
  obtain ⟨w1, hw1, z0, z1, hb1, hz1⟩ := box2 w (.int .i64 dx) (.int .i64 dy) 26
  have Q : ∀ {W : World}, Below w1.heap.size w1 W → W.cell? ⟨w.heap.size, 0, none⟩ = some (.int .i64 dx) ∧ W.cell? ⟨w.heap.size, 1, none⟩ = some (.int .i64 dy) := fun hb => ⟨(hb.cell (p := ⟨w.heap.size, 0, none⟩) hz1).trans z0, (hb.cell (p := ⟨w.heap.size, 1, none⟩) hz1).trans z1⟩
  have HW1 := Lib.hid hw1
  have HLL := Lib.hid hL
  have HO := Lib.hid hO
  have fin : ∀ {W : World}, Below w1.heap.size w1 W → Below w.heap.size w W := fun hb => hb1.trans (hb.mono hb1.size)
  have BW := Below.refl w1.heap.size w1
  have h1d : decide ((20 : Int) < (l.length : Int)) = false := by rw [decide_eq_false_iff_not]; omega
  have h1n : decide (20 < l.length) = false := by rw [decide_eq_false_iff_not]; omega
  have h1 : ¬ (20 : Int) < (l.length : Int) := by omega
  have HE := Lib.hid hE
  have en0 : (E != 0) = true := by rw [bne_iff_ne]; exact hne
  clear hE hne
  clear hw1 hL hO z0 z1
  go_enter Tryz.func14, Tryz.ntmps14
  go_wp2_with fail
  rw [← HW1.out]
  go_wp2_with fail
  refine wp_region_held_drew (S := (fun w' => Below w1.heap.size w1 w')) (by kernel_rfl) ?_ (fun hHeld => ?_)
  · exact below_drew BW
  refine wpAnyH_ready (rs := [0]) (by kernel_rfl) (by simp) ?_
  refine AllReadyH.cons (o := _) rfl (fun K hK => ?_) AllReadyH.nil
  simp only [layG]
  go_simp
  go_at_call 15
  refine (awake1 _ (HLL.out.below (fin (by assumption)) HLL.out.lt)).mono ?_
  rintro e w2 ⟨rfl, hbq⟩
  refine hK.out _ _ (hbT (by assumption) hbq) (fun hHeld => ?_)
  clear hK K
  try simp only [layA]
  refine wpAnyH_take (i := 1) (oi := _) (v := ?vra1) rfl (by kernel_rfl) (by kernel_rfl) (by kernel_rfl) (fun _ _ _ h => h) (Or.inl ⟨by rfl, ?hyra1⟩) (by assumption) ?restra1
  case hyra1 => (intro w hSw; (try dsimp only at hSw); go_simp; first | done | rfl)
  try simp only [layA]
  refine wpAnyH_take (i := 2) (oi := _) (v := ?vra2) rfl (by kernel_rfl) (by kernel_rfl) (by kernel_rfl) (fun _ _ _ h => h) (Or.inl ⟨by rfl, ?hyra2⟩) (by assumption) ?restra2
  case hyra2 => (intro w hSw; (try dsimp only at hSw); go_simp; first | done | rfl)
  try simp only [layA]
  refine wpAnyH_take (i := 3) (oi := _) (v := ?vra3) rfl (by kernel_rfl) (by kernel_rfl) (by kernel_rfl) (fun _ _ _ h => h) (Or.inl ⟨by rfl, ?hyra3⟩) (by assumption) ?restra3
  case hyra3 => (intro w hSw; (try dsimp only at hSw); go_simp; first | done | rfl)
  try simp only [layA]
  refine wpAnyH_take (i := 4) (oi := _) (v := ?vra4) rfl (by kernel_rfl) (by kernel_rfl) (by kernel_rfl) (fun _ _ _ h => h) (Or.inl ⟨by rfl, ?hyra4⟩) (by assumption) ?restra4
  case hyra4 => (intro w hSw; (try dsimp only at hSw); go_simp; first | done | rfl)
  try simp only [layA]
  refine wpAnyH_take (i := 5) (oi := _) (v := ?vra5) rfl (by kernel_rfl) (by kernel_rfl) (by kernel_rfl) (fun _ _ _ h => h) (Or.inl ⟨by rfl, ?hyra5⟩) (by assumption) ?restra5
  case hyra5 => (intro w hSw; (try dsimp only at hSw); go_simp; first | done | rfl)
  try simp only [layA]
  refine wpAnyH_take (i := 6) (oi := _) (v := ?vra6) rfl (by kernel_rfl) (by kernel_rfl) (by kernel_rfl) (fun _ _ _ h => h) (Or.inl ⟨by rfl, ?hyra6⟩) (by assumption) ?restra6
  case hyra6 => (intro w hSw; (try dsimp only at hSw); go_simp; first | done | rfl)
  try simp only [layA]
  refine wpAnyH_take (i := 7) (oi := _) (v := ?vra7) rfl (by kernel_rfl) (by kernel_rfl) (by kernel_rfl) (fun _ _ _ h => h) (Or.inl ⟨by rfl, ?hyra7⟩) (by assumption) ?restra7
  case hyra7 => (intro w hSw; (try dsimp only at hSw); go_simp; first | done | rfl)
  try simp only [layA]
  refine wpAnyH_take (i := 8) (oi := _) (v := ?vra8) rfl (by kernel_rfl) (by kernel_rfl) (by kernel_rfl) (fun _ _ _ h => h) (Or.inl ⟨by rfl, ?hyra8⟩) (by assumption) ?restra8
  case hyra8 => (intro w hSw; (try dsimp only at hSw); go_simp; first | done | rfl)
  try simp only [layA]
  refine wpAnyH_ready (rs := [9]) (by kernel_rfl) (by simp) ?_
  refine AllReadyH.cons (o := _) rfl (fun K hK => ?_) AllReadyH.nil
  simp only [layG]
  rw [if_pos (by rfl)]
  go_simp
  go_at_call 17
  refine (refCheckNetA A c l _ (HO.out.below (fin (by assumption)))).mono ?_
  rintro e w3 ⟨rfl, hbq⟩
  rw [HE.out]
  refine hK.out _ _ (hbT (by assumption) hbq) (fun hHeld => ?_)
  clear hK K
  try simp only [layA]
  refine wpAnyH_take (i := 10) (oi := _) (v := ?vra10) rfl (by kernel_rfl) (by kernel_rfl) (by kernel_rfl) (fun _ _ _ h => h) (Or.inl ⟨by rfl, ?hyra10⟩) (by assumption) ?restra10
  case hyra10 => (intro w hSw; (try dsimp only at hSw); go_simp; first | done | rfl)
  try simp only [layA]
  refine wpAnyH_take (i := 11) (oi := _) (v := ?vra11) rfl (by kernel_rfl) (by kernel_rfl) (by kernel_rfl) (fun _ _ _ h => h) (Or.inl ⟨by rfl, ?hyra11⟩) (by assumption) ?restra11
  case hyra11 => (intro w hSw; (try dsimp only at hSw); go_simp; first | done | rfl)
  try simp only [layA]
  refine wpAnyH_take (i := 12) (oi := _) (v := ?vra12) rfl (by kernel_rfl) (by kernel_rfl) (by kernel_rfl) (fun _ _ _ h => h) (Or.inl ⟨by rfl, ?hyra12⟩) (by assumption) ?restra12
  case hyra12 => (intro w hSw; (try dsimp only at hSw); go_simp; first | done | rfl)
  try simp only [layA]
  refine wpAnyH_take (i := 13) (oi := _) (v := undef) rfl (by kernel_rfl) (by kernel_rfl) (by kernel_rfl) (fun _ _ _ h => h) (Or.inr ⟨by rfl, rfl⟩) (by assumption) ?restra13
  try simp only [layA]
  refine wpAnyH_take (i := 14) (oi := _) (v := undef) rfl (by kernel_rfl) (by kernel_rfl) (by kernel_rfl) (fun _ _ _ h => h) (Or.inr ⟨by rfl, rfl⟩) (by assumption) ?restra14
  try simp only [layA]
  refine wpAnyH_take (i := 15) (oi := _) (v := undef) rfl (by kernel_rfl) (by kernel_rfl) (by kernel_rfl) (fun _ _ _ h => h) (Or.inr ⟨by rfl, rfl⟩) (by assumption) ?restra15
  try simp only [layA]
  refine wpAnyH_take (i := 16) (oi := _) (v := undef) rfl (by kernel_rfl) (by kernel_rfl) (by kernel_rfl) (fun _ _ _ h => h) (Or.inr ⟨by rfl, rfl⟩) (by assumption) ?restra16
  try simp only [layA]
  refine wpAnyH_take (i := 17) (oi := _) (v := undef) rfl (by kernel_rfl) (by kernel_rfl) (by kernel_rfl) (fun _ _ _ h => h) (Or.inr ⟨by rfl, rfl⟩) (by assumption) ?restra17
  try simp only [layA]
  refine wpAnyH_take (i := 18) (oi := _) (v := undef) rfl (by kernel_rfl) (by kernel_rfl) (by kernel_rfl) (fun _ _ _ h => h) (Or.inr ⟨by rfl, rfl⟩) (by assumption) ?restra18
  try simp only [layA]
  refine wpAnyH_take (i := 19) (oi := _) (v := undef) rfl (by kernel_rfl) (by kernel_rfl) (by kernel_rfl) (fun _ _ _ h => h) (Or.inr ⟨by rfl, rfl⟩) (by assumption) ?restra19
  try simp only [layA]
  refine wpAnyH_take (i := 20) (oi := _) (v := undef) rfl (by kernel_rfl) (by kernel_rfl) (by kernel_rfl) (fun _ _ _ h => h) (Or.inr ⟨by rfl, rfl⟩) (by assumption) ?restra20
  try simp only [layA]
  refine wpAnyH_take (i := 21) (oi := _) (v := undef) rfl (by kernel_rfl) (by kernel_rfl) (by kernel_rfl) (fun _ _ _ h => h) (Or.inr ⟨by rfl, rfl⟩) (by assumption) ?restra21
  try simp only [layA]
  refine wpAnyH_take (i := 22) (oi := _) (v := undef) rfl (by kernel_rfl) (by kernel_rfl) (by kernel_rfl) (fun _ _ _ h => h) (Or.inr ⟨by rfl, rfl⟩) (by assumption) ?restra22
  try simp only [layA]
  refine wpAnyH_take (i := 23) (oi := _) (v := undef) rfl (by kernel_rfl) (by kernel_rfl) (by kernel_rfl) (fun _ _ _ h => h) (Or.inr ⟨by rfl, rfl⟩) (by assumption) ?restra23
  try simp only [layA]
  refine wpAnyH_take (i := 24) (oi := _) (v := ?vra24) rfl (by kernel_rfl) (by kernel_rfl) (by kernel_rfl) (fun _ _ _ h => h) (Or.inl ⟨by rfl, ?hyra24⟩) (by assumption) ?restra24
  case hyra24 => (intro w hSw; (try dsimp only at hSw); go_simp; first | done | rfl)
  try simp only [layA]
  refine wpAnyH_done (by kernel_rfl) ?_ _
  replace BW := hHeld
  clear hHeld
  go_wp2_with fail
  refine (awake1 _ (HLL.out.below (fin BW) HLL.out.lt)).mono ?_
  rintro e w11 ⟨rfl, hb11⟩
  replace BW := hbT BW hb11
  clear hb11
  go_wp2
  go_ret
  exact ⟨rfl, fin BW⟩
set_option maxHeartbeats 16000000 in
set_option maxRecDepth 100000 in
theorem lawTu3 (A : Option Addr) (c : Nat) (l : List Bar) (dx dy X : Int) (w : World) (hL : LaidLen w) (hO : OKS w A c l) (hl : l.length ≤ 20) (hN : Net l) (R1 R2 KE : Int) (hR1 : (if dx < -1000 ∨ 1000 < dx then (3 : Int) else 0) = R1) (hR2 : (if dy < -1000 ∨ 1000 < dy then (3 : Int) else 0) = R2) (hK : knotE dx dy = KE) (hb1 : 0 ≤ R1 ∧ R1 ≤ 3) (hb2 : 0 ≤ R2 ∧ R2 ≤ 3) (hbK : 0 ≤ KE ∧ KE ≤ 14) (hne : ¬ (R1 + R2 + KE = 0)) :
    Calls Tryz.prog 14 #[.slice A l.length c, .agg #[.int .i64 dx, .int .i64 dy], .int .i8 X] w fun e w' => e = .returned (.bool true) ∧ Below w.heap.size w w' := by
  have bd1 := hb1
  have ex0 : ∀ (a b : Value) (w : World), (Instr.extract (.tuple #[a, b]) 0).run Tryz.prog w = .ok a w := fun _ _ _ => by kernel_rfl
  have ex1 : ∀ (a b : Value) (w : World), (Instr.extract (.tuple #[a, b]) 1).run Tryz.prog w = .ok b w := fun _ _ _ => by kernel_rfl
  obtain ⟨w1, hw1, z0, z1, hb1, hz1⟩ := box2 w (.int .i64 dx) (.int .i64 dy) 26
  have Q : ∀ {W : World}, Below w1.heap.size w1 W → W.cell? ⟨w.heap.size, 0, none⟩ = some (.int .i64 dx) ∧ W.cell? ⟨w.heap.size, 1, none⟩ = some (.int .i64 dy) := fun hb => ⟨(hb.cell (p := ⟨w.heap.size, 0, none⟩) hz1).trans z0, (hb.cell (p := ⟨w.heap.size, 1, none⟩) hz1).trans z1⟩
  have HW1 := Lib.hid hw1
  have HLL := Lib.hid hL
  have HO := Lib.hid hO
  have fin : ∀ {W : World}, Below w1.heap.size w1 W → Below w.heap.size w W := fun hb => hb1.trans (hb.mono hb1.size)
  have BW := Below.refl w1.heap.size w1
  have h1d : decide ((20 : Int) < (l.length : Int)) = false := by rw [decide_eq_false_iff_not]; omega
  have h1n : decide (20 < l.length) = false := by rw [decide_eq_false_iff_not]; omega
  have h1 : ¬ (20 : Int) < (l.length : Int) := by omega
  have HE := Lib.hid ((netE_zero l).2 ⟨by omega, hN⟩)
  have HR1 := Lib.hid hR1
  have HR2 := Lib.hid hR2
  have HK := Lib.hid hK
  have s12 : IntKind.i64.wrap (R1 + R2) = R1 + R2 := by rw [IntKind.wrap_i64]; omega
  have s13 : IntKind.i64.wrap (R1 + R2 + KE) = R1 + R2 + KE := by rw [IntKind.wrap_i64]; omega
  have sne : (R1 + R2 + KE != 0) = true := by rw [bne_iff_ne]; exact hne
  clear hN hR1 hR2 hK bd1 hb2 hbK hne
  clear hw1 hL hO z0 z1
  go_enter Tryz.func14, Tryz.ntmps14
  go_wp2_with fail
  rw [← HW1.out]
  go_wp2_with fail
  refine wp_region_held_drew (S := (fun w' => Below w1.heap.size w1 w')) (by kernel_rfl) ?_ (fun hHeld => ?_)
  · exact below_drew BW
  refine wpAnyH_ready (rs := [0]) (by kernel_rfl) (by simp) ?_
  refine AllReadyH.cons (o := _) rfl (fun K hK => ?_) AllReadyH.nil
  simp only [layG]
  go_simp
  go_at_call 15
  refine (awake1 _ (HLL.out.below (fin (by assumption)) HLL.out.lt)).mono ?_
  rintro e w2 ⟨rfl, hbq⟩
  refine hK.out _ _ (hbT (by assumption) hbq) (fun hHeld => ?_)
  clear hK K
  try simp only [layA]
  refine wpAnyH_take (i := 1) (oi := _) (v := ?vra1) rfl (by kernel_rfl) (by kernel_rfl) (by kernel_rfl) (fun _ _ _ h => h) (Or.inl ⟨by rfl, ?hyra1⟩) (by assumption) ?restra1
  case hyra1 => (intro w hSw; (try dsimp only at hSw); go_simp; first | done | rfl)
  try simp only [layA]
  refine wpAnyH_take (i := 2) (oi := _) (v := ?vra2) rfl (by kernel_rfl) (by kernel_rfl) (by kernel_rfl) (fun _ _ _ h => h) (Or.inl ⟨by rfl, ?hyra2⟩) (by assumption) ?restra2
  case hyra2 => (intro w hSw; (try dsimp only at hSw); go_simp; first | done | rfl)
  try simp only [layA]
  refine wpAnyH_take (i := 3) (oi := _) (v := ?vra3) rfl (by kernel_rfl) (by kernel_rfl) (by kernel_rfl) (fun _ _ _ h => h) (Or.inl ⟨by rfl, ?hyra3⟩) (by assumption) ?restra3
  case hyra3 => (intro w hSw; (try dsimp only at hSw); go_simp; first | done | rfl)
  try simp only [layA]
  refine wpAnyH_take (i := 4) (oi := _) (v := ?vra4) rfl (by kernel_rfl) (by kernel_rfl) (by kernel_rfl) (fun _ _ _ h => h) (Or.inl ⟨by rfl, ?hyra4⟩) (by assumption) ?restra4
  case hyra4 => (intro w hSw; (try dsimp only at hSw); go_simp; first | done | rfl)
  try simp only [layA]
  refine wpAnyH_take (i := 5) (oi := _) (v := ?vra5) rfl (by kernel_rfl) (by kernel_rfl) (by kernel_rfl) (fun _ _ _ h => h) (Or.inl ⟨by rfl, ?hyra5⟩) (by assumption) ?restra5
  case hyra5 => (intro w hSw; (try dsimp only at hSw); go_simp; first | done | rfl)
  try simp only [layA]
  refine wpAnyH_take (i := 6) (oi := _) (v := ?vra6) rfl (by kernel_rfl) (by kernel_rfl) (by kernel_rfl) (fun _ _ _ h => h) (Or.inl ⟨by rfl, ?hyra6⟩) (by assumption) ?restra6
  case hyra6 => (intro w hSw; (try dsimp only at hSw); go_simp; first | done | rfl)
  try simp only [layA]
  refine wpAnyH_take (i := 7) (oi := _) (v := ?vra7) rfl (by kernel_rfl) (by kernel_rfl) (by kernel_rfl) (fun _ _ _ h => h) (Or.inl ⟨by rfl, ?hyra7⟩) (by assumption) ?restra7
  case hyra7 => (intro w hSw; (try dsimp only at hSw); go_simp; first | done | rfl)
  try simp only [layA]
  refine wpAnyH_take (i := 8) (oi := _) (v := ?vra8) rfl (by kernel_rfl) (by kernel_rfl) (by kernel_rfl) (fun _ _ _ h => h) (Or.inl ⟨by rfl, ?hyra8⟩) (by assumption) ?restra8
  case hyra8 => (intro w hSw; (try dsimp only at hSw); go_simp; first | done | rfl)
  try simp only [layA]
  refine wpAnyH_ready (rs := [9]) (by kernel_rfl) (by simp) ?_
  refine AllReadyH.cons (o := _) rfl (fun K hK => ?_) AllReadyH.nil
  simp only [layG]
  rw [if_pos (by rfl)]
  go_simp
  go_at_call 17
  refine (refCheckNetA A c l _ (HO.out.below (fin (by assumption)))).mono ?_
  rintro e w3 ⟨rfl, hbq⟩
  rw [HE.out]
  refine hK.out _ _ (hbT (by assumption) hbq) (fun hHeld => ?_)
  clear hK K
  try simp only [layA]
  refine wpAnyH_take (i := 10) (oi := _) (v := ?vra10) rfl (by kernel_rfl) (by kernel_rfl) (by kernel_rfl) (fun _ _ _ h => h) (Or.inl ⟨by rfl, ?hyra10⟩) (by assumption) ?restra10
  case hyra10 => (intro w hSw; (try dsimp only at hSw); go_simp; first | done | rfl)
  try simp only [layA]
  refine wpAnyH_take (i := 11) (oi := _) (v := ?vra11) rfl (by kernel_rfl) (by kernel_rfl) (by kernel_rfl) (fun _ _ _ h => h) (Or.inl ⟨by rfl, ?hyra11⟩) (by assumption) ?restra11
  case hyra11 => (intro w hSw; (try dsimp only at hSw); go_simp; first | done | rfl)
  try simp only [layA]
  refine wpAnyH_take (i := 12) (oi := _) (v := ?vra12) rfl (by kernel_rfl) (by kernel_rfl) (by kernel_rfl) (fun _ _ _ h => h) (Or.inl ⟨by rfl, ?hyra12⟩) (by assumption) ?restra12
  case hyra12 => (intro w hSw; (try dsimp only at hSw); go_simp; first | done | rfl)
  try simp only [layA]
  refine wpAnyH_take (i := 13) (oi := _) (v := ?vra13) rfl (by kernel_rfl) (by kernel_rfl) (by kernel_rfl) (fun _ _ _ h => h) (Or.inl ⟨by rfl, ?hyra13⟩) (by assumption) ?restra13
  case hyra13 => (intro w hSw; (try dsimp only at hSw); go_simp; first | done | rfl)
  try simp only [layA]
  refine wpAnyH_take (i := 14) (oi := _) (v := ?vra14) rfl (by kernel_rfl) (by kernel_rfl) (by kernel_rfl) (fun _ _ _ h => h) (Or.inl ⟨by rfl, ?hyra14⟩) (by assumption) ?restra14
  case hyra14 => (intro w hSw; (try dsimp only at hSw); obtain ⟨s0, s1⟩ := Q hSw; go_simp; first | done | rfl)
  try simp only [layA]
  refine wpAnyH_take (i := 16) (oi := _) (v := ?vra16) rfl (by kernel_rfl) (by kernel_rfl) (by kernel_rfl) (fun _ _ _ h => h) (Or.inl ⟨by rfl, ?hyra16⟩) (by assumption) ?restra16
  case hyra16 => (intro w hSw; (try dsimp only at hSw); go_simp; first | done | rfl)
  try simp only [layA]
  refine wpAnyH_take (i := 17) (oi := _) (v := ?vra17) rfl (by kernel_rfl) (by kernel_rfl) (by kernel_rfl) (fun _ _ _ h => h) (Or.inl ⟨by rfl, ?hyra17⟩) (by assumption) ?restra17
  case hyra17 => (intro w hSw; (try dsimp only at hSw); obtain ⟨s0, s1⟩ := Q hSw; go_simp; first | done | rfl)
  try simp only [layA]
  refine wpAnyH_take (i := 20) (oi := _) (v := ?vra20) rfl (by kernel_rfl) (by kernel_rfl) (by kernel_rfl) (fun _ _ _ h => h) (Or.inl ⟨by rfl, ?hyra20⟩) (by assumption) ?restra20
  case hyra20 => (intro w hSw; (try dsimp only at hSw); obtain ⟨s0, s1⟩ := Q hSw; go_simp; first | done | rfl)
  try simp only [layA]
  refine wpAnyH_ready (rs := [15]) (by kernel_rfl) (by simp) ?_
  refine AllReadyH.cons (o := _) rfl (fun K hK => ?_) AllReadyH.nil
  simp only [layG]
  rw [if_pos (by rfl)]
  go_simp
  go_at_call 75
  refine (rngB dx (-1000) 1000 _ _ HR1.out).mono ?_
  rintro e w4 ⟨rfl, hbq⟩
  refine hK.out _ _ (hbT (by assumption) hbq) (fun hHeld => ?_)
  clear hK K
  try simp only [layA]
  refine wpAnyH_ready (rs := [18]) (by kernel_rfl) (by simp) ?_
  refine AllReadyH.cons (o := _) rfl (fun K hK => ?_) AllReadyH.nil
  simp only [layG]
  rw [if_pos (by rfl)]
  go_simp
  go_at_call 75
  refine (rngB dy (-1000) 1000 _ _ HR2.out).mono ?_
  rintro e w5 ⟨rfl, hbq⟩
  refine hK.out _ _ (hbT (by assumption) hbq) (fun hHeld => ?_)
  clear hK K
  try simp only [layA]
  refine wpAnyH_take (i := 19) (oi := _) (v := ?vra19) rfl (by kernel_rfl) (by kernel_rfl) (by kernel_rfl) (fun _ _ _ h => h) (Or.inl ⟨by rfl, ?hyra19⟩) (by assumption) ?restra19
  case hyra19 => (intro w hSw; (try dsimp only at hSw); go_simp; first | done | rfl)
  try simp only [layA]
  refine wpAnyH_ready (rs := [21]) (by kernel_rfl) (by simp) ?_
  refine AllReadyH.cons (o := _) rfl (fun K hK => ?_) AllReadyH.nil
  simp only [layG]
  rw [if_pos (by rfl)]
  go_simp
  go_at_call 19
  refine (refCheckKnot dx dy _).mono ?_
  rintro e w6 ⟨rfl, hbq⟩
  rw [HK.out]
  refine hK.out _ _ (hbT (by assumption) hbq) (fun hHeld => ?_)
  clear hK K
  try simp only [layA]
  refine wpAnyH_take (i := 22) (oi := _) (v := ?vra22) rfl (by kernel_rfl) (by kernel_rfl) (by kernel_rfl) (fun _ _ _ h => h) (Or.inl ⟨by rfl, ?hyra22⟩) (by assumption) ?restra22
  case hyra22 => (intro w hSw; (try dsimp only at hSw); go_simp; first | done | rfl)
  try simp only [layA]
  refine wpAnyH_take (i := 23) (oi := _) (v := ?vra23) rfl (by kernel_rfl) (by kernel_rfl) (by kernel_rfl) (fun _ _ _ h => h) (Or.inl ⟨by rfl, ?hyra23⟩) (by assumption) ?restra23
  case hyra23 => (intro w hSw; (try dsimp only at hSw); go_simp; first | done | rfl)
  try simp only [layA]
  refine wpAnyH_take (i := 24) (oi := _) (v := ?vra24) rfl (by kernel_rfl) (by kernel_rfl) (by kernel_rfl) (fun _ _ _ h => h) (Or.inl ⟨by rfl, ?hyra24⟩) (by assumption) ?restra24
  case hyra24 => (intro w hSw; (try dsimp only at hSw); go_simp; first | done | rfl)
  try simp only [layA]
  refine wpAnyH_done (by kernel_rfl) ?_ _
  replace BW := hHeld
  clear hHeld
  go_wp2_with fail
  refine (awake1 _ (HLL.out.below (fin BW) HLL.out.lt)).mono ?_
  rintro e w11 ⟨rfl, hb11⟩
  replace BW := hbT BW hb11
  clear hb11
  go_wp2
  go_ret
  exact ⟨rfl, fin BW⟩
end Go.Proofs.YtdeplhihcifmeaaGreatDoor

/- NettingTurns: the way through. -/
namespace Go.Proofs.YtdeplhihcifmeaaGreatDoor
open Go.RowKit Go.Shelf Ck

/-- All lists and numbers of the way through. -/
structure TuP (l : List Bar) (dx dy X : Int) (U M T C T1 M2 : List Bar) (k m p h5 n0 n1 n2 n3 n4 r r2 : Int) (q q2 : Nat) : Prop where
  fl : Fit l.length #[.int .i64 n0, .int .i64 n1, .int .i64 n2, .int .i64 n3, .int .i64 n4] C k m p l
  fU : Fit l.length #[.int .i64 n0, .int .i64 n1, .int .i64 n2, .int .i64 n3, .int .i64 n4] C k m p U
  fM : Fit l.length #[.int .i64 n0, .int .i64 n1, .int .i64 n2, .int .i64 n3, .int .i64 n4] C k m p M
  fT : Fit l.length #[.int .i64 n0, .int .i64 n1, .int .i64 n2, .int .i64 n3, .int .i64 n4] C k m p T
  h5e : h5 = (l.length : Int) - k + p - m
  u : l.map (Bar.shift dx dy) = U
  ub : U.map (Bar.shift (-dx) (-dy)) = l
  kb : knotE (-dx) (-dy) = 0
  mm : sortBars (l.map mirB) = M
  mb : sortBars (M.map mirB) = l
  t : turnN q l = T
  tb : turnN q2 T = l
  t1 : turnN 1 M = T1
  m2 : sortBars (T1.map mirB) = M2
  lb : turnN 1 M2 = l
  nT1 : Net T1
  nM2 : Net M2
  lT1 : T1.length = l.length
  lM2 : M2.length = l.length
  hr : X.tmod 4 = r
  hq : (r + 4).tmod 4 = (q : Int)
  hr2 : (-X).tmod 4 = r2
  hq2 : (r2 + 4).tmod 4 = (q2 : Int)
def Upon (a w : World) : Prop := Below a.heap.size a w
theorem Upon.below {a w w' : World} (h : Upon a w) (hb : Below w.heap.size w w') : Upon a w' := hbT h hb
theorem knotE_neg {dx dy : Int} (h : knotE dx dy = 0) : knotE (-dx) (-dy) = 0 := by
  have he := knot_even h
  obtain ⟨h1, h2, h3, h4⟩ := knotE_zero h
  rw [knotE, farB_of (by omega) (by omega), farB_of (by omega) (by omega), evenB, if_neg (by simp), if_neg (by simp), if_pos]
  rw [decide_eq_true_eq]
  omega
theorem tuPack {l : List Bar} (hN : Net l) (hl : l.length ≤ 20) (hW : Within 1000 l) {dx dy : Int} (X : Int) (h1 : -1000 ≤ dx ∧ dx ≤ 1000) (h2 : -1000 ≤ dy ∧ dy ≤ 1000) (hK : knotE dx dy = 0) :
    ∃ (U M T C T1 M2 : List Bar) (k m p h5 n0 n1 n2 n3 n4 r r2 : Int) (q q2 : Nat), TuP l dx dy X U M T C T1 M2 k m p h5 n0 n1 n2 n3 n4 r r2 q q2 := by
  obtain ⟨r, r2, q, q2, e1, e2, e3, e4, e5, e6, e7⟩ := turns_quarter X
  obtain ⟨G, -, hP⟩ := PartsAre.exist hN.2
  have hS := Net.srtd hN
  have he := knot_even hK
  have hM : Net (sortBars (l.map mirB)) := pick_net hN 1
  have hT : Net (turnN q l) := ⟨turnN_ok hN.1 q, turn_net hN q⟩
  have hT1 : Net (turnN 1 (sortBars (l.map mirB))) := ⟨turnN_ok hM.1 1, turn_net hM 1⟩
  have hM2 : Net (sortBars ((turnN 1 (sortBars (l.map mirB))).map mirB)) := pick_net hT1 1
  have hU := shift_small hN hW h1 h2 he
  have lM : (sortBars (l.map mirB)).length = l.length := by rw [(sortBars_perm _).length_eq, List.length_map]
  refine ⟨_, _, _, _, _, _, _, _, _, _, _, _, _, _, _, r, r2, q, q2, Fit.of rfl (by omega) hP rfl (Alike.refl l) hN rfl (hW.more (by omega)), Fit.of rfl (by omega) hP rfl (shift_alike hN dx dy hU) hU (canon_shift hS dx dy) ((hW.shift h1 h2).more (by omega)),
    Fit.of rfl (by omega) hP rfl (mir_alike hN) hM (canon_mir hS) (hW.mir.more (by omega)), Fit.of rfl (by omega) hP rfl (turn_alike hN q) hT (canon_turnN hS q) ((hW.turns q).more (by omega)),
    rfl, rfl, shift_back l dx dy, knotE_neg hK, rfl, hS.mir_mir, rfl, turn_back hS e5, rfl, rfl, mir_turn_back hS, hT1, hM2, ?_, ?_, e1, e3, e2, e4⟩
  · rw [turnN_length, lM]
  · rw [(sortBars_perm _).length_eq, List.length_map, turnN_length, lM]
set_option maxHeartbeats 16000000 in
set_option maxRecDepth 100000 in
theorem lawTuM (A : Option Addr) (c : Nat) (l : List Bar) (dx dy X : Int) (w : World) (hL : LaidLen w) (hO : OKS w A c l) (hl : l.length ≤ 20) (hN : Net l) (hdx : -1000 ≤ dx ∧ dx ≤ 1000) (hdy : -1000 ≤ dy ∧ dy ≤ 1000) (hK : knotE dx dy = 0) (hX : -128 ≤ X ∧ X < 128) :
    Calls Tryz.prog 14 #[.slice A l.length c, .agg #[.int .i64 dx, .int .i64 dy], .int .i8 X] w fun e w' => e = .returned (.bool true) ∧ Below w.heap.size w w' := by
  have ex0 : ∀ (a b : Value) (w : World), (Instr.extract (.tuple #[a, b]) 0).run Tryz.prog w = .ok a w := fun _ _ _ => by kernel_rfl
  have ex1 : ∀ (a b : Value) (w : World), (Instr.extract (.tuple #[a, b]) 1).run Tryz.prog w = .ok b w := fun _ _ _ => by kernel_rfl
  obtain ⟨w1, hw1, z0, z1, hb1, hz1⟩ := box2 w (.int .i64 dx) (.int .i64 dy) 26
  have Q : ∀ {W : World}, Below w1.heap.size w1 W → W.cell? ⟨w.heap.size, 0, none⟩ = some (.int .i64 dx) ∧ W.cell? ⟨w.heap.size, 1, none⟩ = some (.int .i64 dy) := fun hb => ⟨(hb.cell (p := ⟨w.heap.size, 0, none⟩) hz1).trans z0, (hb.cell (p := ⟨w.heap.size, 1, none⟩) hz1).trans z1⟩
  have HW1 := Lib.hid hw1
  have HLL := Lib.hid hL
  have HO := Lib.hid hO
  have fin : ∀ {W : World}, Below w1.heap.size w1 W → Below w.heap.size w W := fun hb => hb1.trans (hb.mono hb1.size)
  have BW := Below.refl w1.heap.size w1
  have h1d : decide ((20 : Int) < (l.length : Int)) = false := by rw [decide_eq_false_iff_not]; omega
  have h1n : decide (20 < l.length) = false := by rw [decide_eq_false_iff_not]; omega
  have h1 : ¬ (20 : Int) < (l.length : Int) := by omega
  have HN := Lib.hid hN
  have HE := Lib.hid ((netE_zero l).2 ⟨by omega, hN⟩)
  obtain ⟨R1, q1⟩ : ∃ R1 : Int, R1 = 0 := ⟨0, rfl⟩
  obtain ⟨R2, q2⟩ : ∃ R2 : Int, R2 = 0 := ⟨0, rfl⟩
  obtain ⟨KE, q3⟩ : ∃ KE : Int, KE = 0 := ⟨0, rfl⟩
  have HR1 := Lib.hid (show (if dx < -1000 ∨ 1000 < dx then (3 : Int) else 0) = R1 from by rw [q1]; exact if_neg (by omega))
  have HR2 := Lib.hid (show (if dy < -1000 ∨ 1000 < dy then (3 : Int) else 0) = R2 from by rw [q2]; exact if_neg (by omega))
  have HK := Lib.hid (hK.trans q3.symm)
  have HK0 := Lib.hid hK
  have s12 : IntKind.i64.wrap (R1 + R2) = R1 + R2 := by rw [IntKind.wrap_i64]; omega
  have s13 : IntKind.i64.wrap (R1 + R2 + KE) = R1 + R2 + KE := by rw [IntKind.wrap_i64]; omega
  have sne : (R1 + R2 + KE != 0) = false := by rw [bne_eq_false_iff_eq]; omega
  clear q1 q2 q3
  have HP := Lib.hid (fun hW : Within 1000 l => tuPack hN hl hW X hdx hdy hK)
  have wX : IntKind.i64.wrap X = X := by rw [IntKind.wrap_i64]; omega
  have wX2 : IntKind.i64.wrap (-X) = -X := by rw [IntKind.wrap_i64]; omega
  have wdx : IntKind.i64.wrap (-dx) = -dx := by rw [IntKind.wrap_i64]; omega
  have wdy : IntKind.i64.wrap (-dy) = -dy := by rw [IntKind.wrap_i64]; omega
  have HX := Lib.hid hX
  clear hN hK hdx hdy hX
  clear hw1 hL hO z0 z1
  go_enter Tryz.func14, Tryz.ntmps14
  go_wp2_with fail
  rw [← HW1.out]
  go_wp2_with fail
  refine wp_region_held_drew (S := (fun w' => Below w1.heap.size w1 w')) (by kernel_rfl) ?_ (fun hHeld => ?_)
  · exact below_drew BW
  refine wpAnyH_ready (rs := [0]) (by kernel_rfl) (by simp) ?_
  refine AllReadyH.cons (o := _) rfl (fun K hK => ?_) AllReadyH.nil
  simp only [layG]
  go_simp
  go_at_call 15
  refine (awake1 _ (HLL.out.below (fin (by assumption)) HLL.out.lt)).mono ?_
  rintro e w2 ⟨rfl, hbq⟩
  refine hK.out _ _ (hbT (by assumption) hbq) (fun hHeld => ?_)
  clear hK K
  try simp only [layA]
  refine wpAnyH_take (i := 1) (oi := _) (v := ?vra1) rfl (by kernel_rfl) (by kernel_rfl) (by kernel_rfl) (fun _ _ _ h => h) (Or.inl ⟨by rfl, ?hyra1⟩) (by assumption) ?restra1
  case hyra1 => (intro w hSw; (try dsimp only at hSw); go_simp; first | done | rfl)
  try simp only [layA]
  refine wpAnyH_take (i := 2) (oi := _) (v := ?vra2) rfl (by kernel_rfl) (by kernel_rfl) (by kernel_rfl) (fun _ _ _ h => h) (Or.inl ⟨by rfl, ?hyra2⟩) (by assumption) ?restra2
  case hyra2 => (intro w hSw; (try dsimp only at hSw); go_simp; first | done | rfl)
  try simp only [layA]
  refine wpAnyH_take (i := 3) (oi := _) (v := ?vra3) rfl (by kernel_rfl) (by kernel_rfl) (by kernel_rfl) (fun _ _ _ h => h) (Or.inl ⟨by rfl, ?hyra3⟩) (by assumption) ?restra3
  case hyra3 => (intro w hSw; (try dsimp only at hSw); go_simp; first | done | rfl)
  try simp only [layA]
  refine wpAnyH_take (i := 4) (oi := _) (v := ?vra4) rfl (by kernel_rfl) (by kernel_rfl) (by kernel_rfl) (fun _ _ _ h => h) (Or.inl ⟨by rfl, ?hyra4⟩) (by assumption) ?restra4
  case hyra4 => (intro w hSw; (try dsimp only at hSw); go_simp; first | done | rfl)
  try simp only [layA]
  refine wpAnyH_take (i := 5) (oi := _) (v := ?vra5) rfl (by kernel_rfl) (by kernel_rfl) (by kernel_rfl) (fun _ _ _ h => h) (Or.inl ⟨by rfl, ?hyra5⟩) (by assumption) ?restra5
  case hyra5 => (intro w hSw; (try dsimp only at hSw); go_simp; first | done | rfl)
  try simp only [layA]
  refine wpAnyH_take (i := 6) (oi := _) (v := ?vra6) rfl (by kernel_rfl) (by kernel_rfl) (by kernel_rfl) (fun _ _ _ h => h) (Or.inl ⟨by rfl, ?hyra6⟩) (by assumption) ?restra6
  case hyra6 => (intro w hSw; (try dsimp only at hSw); go_simp; first | done | rfl)
  try simp only [layA]
  refine wpAnyH_take (i := 7) (oi := _) (v := ?vra7) rfl (by kernel_rfl) (by kernel_rfl) (by kernel_rfl) (fun _ _ _ h => h) (Or.inl ⟨by rfl, ?hyra7⟩) (by assumption) ?restra7
  case hyra7 => (intro w hSw; (try dsimp only at hSw); go_simp; first | done | rfl)
  try simp only [layA]
  refine wpAnyH_take (i := 8) (oi := _) (v := ?vra8) rfl (by kernel_rfl) (by kernel_rfl) (by kernel_rfl) (fun _ _ _ h => h) (Or.inl ⟨by rfl, ?hyra8⟩) (by assumption) ?restra8
  case hyra8 => (intro w hSw; (try dsimp only at hSw); go_simp; first | done | rfl)
  try simp only [layA]
  refine wpAnyH_ready (rs := [9]) (by kernel_rfl) (by simp) ?_
  refine AllReadyH.cons (o := _) rfl (fun K hK => ?_) AllReadyH.nil
  simp only [layG]
  rw [if_pos (by rfl)]
  go_simp
  go_at_call 17
  refine (refCheckNetA A c l _ (HO.out.below (fin (by assumption)))).mono ?_
  rintro e w3 ⟨rfl, hbq⟩
  rw [HE.out]
  refine hK.out _ _ (hbT (by assumption) hbq) (fun hHeld => ?_)
  clear hK K
  try simp only [layA]
  refine wpAnyH_take (i := 10) (oi := _) (v := ?vra10) rfl (by kernel_rfl) (by kernel_rfl) (by kernel_rfl) (fun _ _ _ h => h) (Or.inl ⟨by rfl, ?hyra10⟩) (by assumption) ?restra10
  case hyra10 => (intro w hSw; (try dsimp only at hSw); go_simp; first | done | rfl)
  try simp only [layA]
  refine wpAnyH_take (i := 11) (oi := _) (v := ?vra11) rfl (by kernel_rfl) (by kernel_rfl) (by kernel_rfl) (fun _ _ _ h => h) (Or.inl ⟨by rfl, ?hyra11⟩) (by assumption) ?restra11
  case hyra11 => (intro w hSw; (try dsimp only at hSw); go_simp; first | done | rfl)
  try simp only [layA]
  refine wpAnyH_take (i := 12) (oi := _) (v := ?vra12) rfl (by kernel_rfl) (by kernel_rfl) (by kernel_rfl) (fun _ _ _ h => h) (Or.inl ⟨by rfl, ?hyra12⟩) (by assumption) ?restra12
  case hyra12 => (intro w hSw; (try dsimp only at hSw); go_simp; first | done | rfl)
  try simp only [layA]
  refine wpAnyH_take (i := 13) (oi := _) (v := ?vra13) rfl (by kernel_rfl) (by kernel_rfl) (by kernel_rfl) (fun _ _ _ h => h) (Or.inl ⟨by rfl, ?hyra13⟩) (by assumption) ?restra13
  case hyra13 => (intro w hSw; (try dsimp only at hSw); go_simp; first | done | rfl)
  try simp only [layA]
  refine wpAnyH_take (i := 14) (oi := _) (v := ?vra14) rfl (by kernel_rfl) (by kernel_rfl) (by kernel_rfl) (fun _ _ _ h => h) (Or.inl ⟨by rfl, ?hyra14⟩) (by assumption) ?restra14
  case hyra14 => (intro w hSw; (try dsimp only at hSw); obtain ⟨s0, s1⟩ := Q hSw; go_simp; first | done | rfl)
  try simp only [layA]
  refine wpAnyH_take (i := 16) (oi := _) (v := ?vra16) rfl (by kernel_rfl) (by kernel_rfl) (by kernel_rfl) (fun _ _ _ h => h) (Or.inl ⟨by rfl, ?hyra16⟩) (by assumption) ?restra16
  case hyra16 => (intro w hSw; (try dsimp only at hSw); go_simp; first | done | rfl)
  try simp only [layA]
  refine wpAnyH_take (i := 17) (oi := _) (v := ?vra17) rfl (by kernel_rfl) (by kernel_rfl) (by kernel_rfl) (fun _ _ _ h => h) (Or.inl ⟨by rfl, ?hyra17⟩) (by assumption) ?restra17
  case hyra17 => (intro w hSw; (try dsimp only at hSw); obtain ⟨s0, s1⟩ := Q hSw; go_simp; first | done | rfl)
  try simp only [layA]
  refine wpAnyH_take (i := 20) (oi := _) (v := ?vra20) rfl (by kernel_rfl) (by kernel_rfl) (by kernel_rfl) (fun _ _ _ h => h) (Or.inl ⟨by rfl, ?hyra20⟩) (by assumption) ?restra20
  case hyra20 => (intro w hSw; (try dsimp only at hSw); obtain ⟨s0, s1⟩ := Q hSw; go_simp; first | done | rfl)
  try simp only [layA]
  refine wpAnyH_ready (rs := [15]) (by kernel_rfl) (by simp) ?_
  refine AllReadyH.cons (o := _) rfl (fun K hK => ?_) AllReadyH.nil
  simp only [layG]
  rw [if_pos (by rfl)]
  go_simp
  go_at_call 75
  refine (rngB dx (-1000) 1000 _ _ HR1.out).mono ?_
  rintro e w4 ⟨rfl, hbq⟩
  refine hK.out _ _ (hbT (by assumption) hbq) (fun hHeld => ?_)
  clear hK K
  try simp only [layA]
  refine wpAnyH_ready (rs := [18]) (by kernel_rfl) (by simp) ?_
  refine AllReadyH.cons (o := _) rfl (fun K hK => ?_) AllReadyH.nil
  simp only [layG]
  rw [if_pos (by rfl)]
  go_simp
  go_at_call 75
  refine (rngB dy (-1000) 1000 _ _ HR2.out).mono ?_
  rintro e w5 ⟨rfl, hbq⟩
  refine hK.out _ _ (hbT (by assumption) hbq) (fun hHeld => ?_)
  clear hK K
  try simp only [layA]
  refine wpAnyH_take (i := 19) (oi := _) (v := ?vra19) rfl (by kernel_rfl) (by kernel_rfl) (by kernel_rfl) (fun _ _ _ h => h) (Or.inl ⟨by rfl, ?hyra19⟩) (by assumption) ?restra19
  case hyra19 => (intro w hSw; (try dsimp only at hSw); go_simp; first | done | rfl)
  try simp only [layA]
  refine wpAnyH_ready (rs := [21]) (by kernel_rfl) (by simp) ?_
  refine AllReadyH.cons (o := _) rfl (fun K hK => ?_) AllReadyH.nil
  simp only [layG]
  rw [if_pos (by rfl)]
  go_simp
  go_at_call 19
  refine (refCheckKnot dx dy _).mono ?_
  rintro e w6 ⟨rfl, hbq⟩
  rw [HK.out]
  refine hK.out _ _ (hbT (by assumption) hbq) (fun hHeld => ?_)
  clear hK K
  try simp only [layA]
  refine wpAnyH_take (i := 22) (oi := _) (v := ?vra22) rfl (by kernel_rfl) (by kernel_rfl) (by kernel_rfl) (fun _ _ _ h => h) (Or.inl ⟨by rfl, ?hyra22⟩) (by assumption) ?restra22
  case hyra22 => (intro w hSw; (try dsimp only at hSw); go_simp; first | done | rfl)
  try simp only [layA]
  refine wpAnyH_take (i := 23) (oi := _) (v := ?vra23) rfl (by kernel_rfl) (by kernel_rfl) (by kernel_rfl) (fun _ _ _ h => h) (Or.inl ⟨by rfl, ?hyra23⟩) (by assumption) ?restra23
  case hyra23 => (intro w hSw; (try dsimp only at hSw); go_simp; first | done | rfl)
  try simp only [layA]
  refine wpAnyH_take (i := 24) (oi := _) (v := ?vra24) rfl (by kernel_rfl) (by kernel_rfl) (by kernel_rfl) (fun _ _ _ h => h) (Or.inl ⟨by rfl, ?hyra24⟩) (by assumption) ?restra24
  case hyra24 => (intro w hSw; (try dsimp only at hSw); go_simp; first | done | rfl)
  try simp only [layA]
  refine wpAnyH_done (by kernel_rfl) ?_ _
  replace BW := hHeld
  clear hHeld
  go_wp2_with fail
  go_loopw [6, 8, 69] (fun _ _ iv wr => ∃ i : Nat, i ≤ l.length ∧ iv = .int .i64 i ∧ Hid (Within 1000 (l.take i)) ∧ Below w1.heap.size w1 wr) (fun _ _ iv _ => l.length - (intOf iv).toNat)
  case atStart => exact ⟨0, Nat.zero_le _, rfl, Lib.hid (fun b hb => by rw [List.take_zero] at hb; cases hb), BW⟩
  case round =>
    obtain ⟨i, hi, rfl, hwi, hbi⟩ := hrel
    by_cases hlt : i < l.length
    · have hiI : (i : Int) < (l.length : Int) := by omega
      have hi0 : (0 : Int) ≤ (i : Int) := by omega
      obtain ⟨bA, oA, hAe, hBA, hcA⟩ := HO.out.2.2.2 (by omega)
      obtain ⟨g0, g1, g2⟩ := hcA i hlt
      have HTK := Lib.hid (show l.take (i + 1) = l.take i ++ [l[i]] from List.take_succ_eq_append_getElem hlt)
      obtain ⟨b, hb⟩ : ∃ b, l[i] = b := ⟨_, rfl⟩
      rw [hb] at g0 g1 g2 HTK
      replace g0 := ((fin hbi).cell (p := ⟨bA, _, none⟩) hBA).trans g0
      replace g1 := ((fin hbi).cell (p := ⟨bA, _, none⟩) hBA).trans g1
      replace g2 := ((fin hbi).cell (p := ⟨bA, _, none⟩) hBA).trans g2
      obtain ⟨ra, hra⟩ : ∃ ra, (if b.x < -1000 ∨ 1000 < b.x then (3 : Int) else 0) = ra := ⟨_, rfl⟩
      obtain ⟨rb, hrb⟩ : ∃ rb, (if b.y < -1000 ∨ 1000 < b.y then (3 : Int) else 0) = rb := ⟨_, rfl⟩
      have HRA := Lib.hid hra
      have HRB := Lib.hid hrb
      have wab : IntKind.i64.wrap (ra + rb) = ra + rb := by rw [← hra, ← hrb, IntKind.wrap_i64]; split <;> split <;> omega
      obtain ⟨bb, hbb⟩ : ∃ bb, (ra + rb != 0) = bb := ⟨_, rfl⟩
      subst hAe
      clear hcA hb hra hrb
      go_wp2_with fail
      obtain ⟨w42, hw42, e0, e1, e2, hb42, hz42⟩ := box3 wr (.int .i64 b.x) (.int .i64 b.y) (.int .i64 b.s) 24
      rw [← hw42]
      have B42 := hbT hbi hb42
      clear hw42 hb42 g0 g1 g2 
      generalize wr.heap.size = BB at *
      have CB : ∀ {W : World}, Below w42.heap.size w42 W → W.cell? ⟨BB, 0, none⟩ = some (.int .i64 b.x) ∧ W.cell? ⟨BB, 1, none⟩ = some (.int .i64 b.y) ∧ W.cell? ⟨BB, 2, none⟩ = some (.int .i64 b.s) := fun hq => ⟨(hq.cell (p := ⟨BB, 0, none⟩) hz42).trans e0, (hq.cell (p := ⟨BB, 1, none⟩) hz42).trans e1, (hq.cell (p := ⟨BB, 2, none⟩) hz42).trans e2⟩
      clear e0 e1 e2
      go_wp2_with fail
      refine wp_region_held_drew (S := (fun w' => Below w42.heap.size w42 w')) (by kernel_rfl) ?_ (fun hHeld => ?_)
      · exact below_drew (Below.refl _ _)
      refine wpAnyH_take (i := 0) (oi := _) (v := ?vrb0) rfl (by kernel_rfl) (by kernel_rfl) (by kernel_rfl) (fun _ _ _ h => h) (Or.inl ⟨by rfl, ?hyrb0⟩) (by assumption) ?restrb0
      case hyrb0 => (intro w hSw; (try dsimp only at hSw); go_simp; first | done | rfl)
      try simp only [layA]
      refine wpAnyH_take (i := 1) (oi := _) (v := ?vrb1) rfl (by kernel_rfl) (by kernel_rfl) (by kernel_rfl) (fun _ _ _ h => h) (Or.inl ⟨by rfl, ?hyrb1⟩) (by assumption) ?restrb1
      case hyrb1 => (intro w hSw; (try dsimp only at hSw); obtain ⟨e0, e1, e2⟩ := CB hSw; go_simp; first | done | rfl)
      try simp only [layA]
      refine wpAnyH_take (i := 3) (oi := _) (v := ?vrb3) rfl (by kernel_rfl) (by kernel_rfl) (by kernel_rfl) (fun _ _ _ h => h) (Or.inl ⟨by rfl, ?hyrb3⟩) (by assumption) ?restrb3
      case hyrb3 => (intro w hSw; (try dsimp only at hSw); go_simp; first | done | rfl)
      try simp only [layA]
      refine wpAnyH_take (i := 4) (oi := _) (v := ?vrb4) rfl (by kernel_rfl) (by kernel_rfl) (by kernel_rfl) (fun _ _ _ h => h) (Or.inl ⟨by rfl, ?hyrb4⟩) (by assumption) ?restrb4
      case hyrb4 => (intro w hSw; (try dsimp only at hSw); obtain ⟨e0, e1, e2⟩ := CB hSw; go_simp; first | done | rfl)
      try simp only [layA]
      refine wpAnyH_ready (rs := [2]) (by kernel_rfl) (by simp) ?_
      refine AllReadyH.cons (o := _) rfl (fun K hK => ?_) AllReadyH.nil
      simp only [layG]
      go_simp
      go_at_call 75
      refine (rngB b.x (-1000) 1000 _ _ HRA.out).mono ?_
      rintro e w43 ⟨rfl, hbq⟩
      refine hK.out _ _ (hbT (by assumption) hbq) (fun hHeld => ?_)
      clear hK K
      try simp only [layA]
      refine wpAnyH_ready (rs := [5]) (by kernel_rfl) (by simp) ?_
      refine AllReadyH.cons (o := _) rfl (fun K hK => ?_) AllReadyH.nil
      simp only [layG]
      go_simp
      go_at_call 75
      refine (rngB b.y (-1000) 1000 _ _ HRB.out).mono ?_
      rintro e w44 ⟨rfl, hbq⟩
      refine hK.out _ _ (hbT (by assumption) hbq) (fun hHeld => ?_)
      clear hK K
      try simp only [layA]
      refine wpAnyH_take (i := 6) (oi := _) (v := ?vrb6) rfl (by kernel_rfl) (by kernel_rfl) (by kernel_rfl) (fun _ _ _ h => h) (Or.inl ⟨by rfl, ?hyrb6⟩) (by assumption) ?restrb6
      case hyrb6 => (intro w hSw; (try dsimp only at hSw); go_simp; first | done | rfl)
      try simp only [layA]
      refine wpAnyH_take (i := 7) (oi := _) (v := ?vrb7) rfl (by kernel_rfl) (by kernel_rfl) (by kernel_rfl) (fun _ _ _ h => h) (Or.inl ⟨by rfl, ?hyrb7⟩) (by assumption) ?restrb7
      case hyrb7 => (intro w hSw; (try dsimp only at hSw); go_simp; first | done | rfl)
      try simp only [layA]
      refine wpAnyH_done (by kernel_rfl) ?_ _
      have B7 := hbT B42 hHeld
      clear hHeld CB B42
      cases bb
      · have HW7 := Lib.hid (show Within 1000 (l.take (i + 1)) from fun x hx => by
          rw [HTK.out, List.mem_append, List.mem_singleton] at hx
          rcases hx with hx | rfl
          · exact hwi.out x hx
          · have h1 := HRA.out
            have h2 := HRB.out
            rw [bne_eq_false_iff_eq] at hbb
            split at h1 <;> split at h2 <;> omega)
        go_wp2
        go_roundw
        case rel => exact ⟨i + 1, by omega, by go_num, HW7, B7⟩
        case measure => simp [intOf]; omega
      · go_wp2
        go_ret
        exact ⟨rfl, fin B7⟩
    · obtain rfl : i = l.length := by omega
      have hW : Within 1000 l := by have := hwi.out; rwa [List.take_length] at this
      obtain ⟨U, M, T, C, T1, M2, k, m, p, h5, n0, n1, n2, n3, n4, r, r2, q, q2, P⟩ := HP.out hW
      have HU := Lib.hid P
      replace BW := hbi
      have hl4 : l.length ≤ 4096 := by omega
      have hUl : U.length ≤ 4096 := by have := P.fU.len; omega
      have hMl : M.length ≤ 4096 := by have := P.fM.len; omega
      have hTl : T.length ≤ 4096 := by have := P.fT.len; omega
      have hT1l : T1.length ≤ 4096 := by have := P.lT1; omega
      have hM2l : M2.length ≤ 4096 := by have := P.lM2; omega
      have hCl : C.length ≤ 4096 := by have := P.fl.can; rw [← this, canon_length]; omega
      clear hwi hW P HP hbi
      go_wp2_with fail
      refine (lwCopied A c l _ (by omega) (HO.out.below (fin BW))).mono ?_
      rintro e w51 ⟨a51, c51, rfl, o51, hb51⟩
      replace BW := hbT BW hb51
      have O51 := Lib.hid o51
      clear o51 hb51
      go_wp2_with fail
      refine (cntF a51 c51 l.length _ C l _ k m p h5 HU.out.fl HU.out.h5e hl4 O51.out).mono ?_
      rintro e w52 ⟨rfl, hb52⟩
      replace BW := hbT BW hb52
      replace O51 := Lib.hid (O51.out.below hb52)
      clear hb52
      clear O51
      go_wp2_with fail
      obtain ⟨w53, hw, LG, hbq, LZ⟩ := box5H w52 (.int .i64 k) (.int .i64 (l.length : Int)) (.int .i64 m) (.int .i64 p) (.int .i64 h5) 86
      rw [← hw]
      have LC := Lib.hid (show FiveC w53 w52.heap.size #[.int .i64 k, .int .i64 (l.length : Int), .int .i64 m, .int .i64 p, .int .i64 h5] from ⟨by omega, LG⟩)
      replace BW := hbT BW hbq
      clear hw LZ LG hbq
      generalize w52.heap.size = BC at *
      go_wp2_with fail
      refine (lwCopied A c l _ (by omega) (HO.out.below (fin BW))).mono ?_
      rintro e w54 ⟨a54, c54, rfl, o54, hb54⟩
      replace BW := hbT BW hb54
      replace LC := Lib.hid (LC.out.below hb54)
      have O54 := Lib.hid o54
      clear o54 hb54
      go_wp2_with fail
      refine (legF a54 c54 l.length C l _ k m p n0 n1 n2 n3 n4 HU.out.fl hl4 O54.out).mono ?_
      rintro e w55 ⟨rfl, hb55⟩
      replace BW := hbT BW hb55
      replace LC := Lib.hid (LC.out.below hb55)
      replace O54 := Lib.hid (O54.out.below hb55)
      clear hb55
      clear O54
      go_wp2_with fail
      obtain ⟨w56, hw, LG, hbq, LZ⟩ := box5H w55 (.int .i64 n0) (.int .i64 n1) (.int .i64 n2) (.int .i64 n3) (.int .i64 n4) 67
      rw [← hw]
      have LL := Lib.hid (show Five w56 w55.heap.size #[.int .i64 n0, .int .i64 n1, .int .i64 n2, .int .i64 n3, .int .i64 n4] from ⟨by omega, LG⟩)
      replace BW := hbT BW hbq
      replace LC := Lib.hid (LC.out.below hbq)
      clear hw LZ LG hbq
      generalize w55.heap.size = BL at *
      go_wp2_with fail
      refine (lwCopied A c l _ (by omega) (HO.out.below (fin BW))).mono ?_
      rintro e w57 ⟨a57, c57, rfl, o57, hb57⟩
      replace BW := hbT BW hb57
      replace LC := Lib.hid (LC.out.below hb57)
      replace LL := Lib.hid (LL.out.below hb57)
      have O57 := Lib.hid o57
      clear o57 hb57
      go_wp2_with fail
      refine (canF a57 c57 l.length _ C l _ k m p HU.out.fl hl4 O57.out).mono ?_
      rintro e w58 ⟨a58, c58, rfl, o58, hb58⟩
      replace BW := hbT BW hb58
      replace LC := Lib.hid (LC.out.below hb58)
      replace LL := Lib.hid (LL.out.below hb58)
      replace O57 := Lib.hid (O57.out.below hb58)
      have O58 := Lib.hid o58
      clear o58 hb58
      clear O57
      go_wp2_with fail
      have Q14 : ∀ {W : World}, Below w58.heap.size w58 W → W.cell? ⟨w.heap.size, 0, none⟩ = some (.int .i64 dx) ∧ W.cell? ⟨w.heap.size, 1, none⟩ = some (.int .i64 dy) := fun hb => Q (hbT BW hb)
      refine wp_region_held_drew (S := (fun w' => Below w58.heap.size w58 w')) (by kernel_rfl) ?_ (fun hHeld => ?_)
      · exact below_drew (Below.refl _ _)
      refine wpAnyH_take (i := 0) (oi := _) (v := ?vrc0) rfl (by kernel_rfl) (by kernel_rfl) (by kernel_rfl) (fun _ _ _ h => h) (Or.inl ⟨by rfl, ?hyrc0⟩) (by assumption) ?restrc0
      case hyrc0 => (intro w hSw; (try dsimp only at hSw); go_simp; first | done | rfl)
      try simp only [layA]
      refine wpAnyH_take (i := 2) (oi := _) (v := ?vrc2) rfl (by kernel_rfl) (by kernel_rfl) (by kernel_rfl) (fun _ _ _ h => h) (Or.inl ⟨by rfl, ?hyrc2⟩) (by assumption) ?restrc2
      case hyrc2 => (intro w hSw; (try dsimp only at hSw); obtain ⟨s0, s1⟩ := Q14 hSw; go_simp; first | done | rfl)
      try simp only [layA]
      refine wpAnyH_ready (rs := [1]) (by kernel_rfl) (by simp) ?_
      refine AllReadyH.cons (o := _) rfl (fun K hK => ?_) AllReadyH.nil
      simp only [layG]
      go_simp
      go_at_call 21
      refine (lwCopied A c l _ (by omega) (HO.out.below (fin (hbT BW (by assumption))))).mono ?_
      rintro e w3 ⟨a3, c3, rfl, o3, hbq⟩
      refine hK.out _ _ (hbT (by assumption) hbq) (fun hHeld => ?_)
      clear hK K
      try simp only [layA]
      refine wpAnyH_ready (rs := [3]) (by kernel_rfl) (by simp) ?_
      refine AllReadyH.cons (o := _) rfl (fun K hK => ?_) AllReadyH.nil
      simp only [layG]
      go_simp
      go_at_call 63
      refine (netShiftS a3 c3 l U dx dy _ HU.out.u hl4 HU.out.fl.net HU.out.fU.net HK0.out o3).mono ?_
      rintro e w4 ⟨a4, c4, rfl, o4, hbq⟩
      refine hK.out _ _ (hbT (by assumption) hbq) (fun hHeld => ?_)
      clear hK K
      try simp only [layA]
      refine wpAnyH_take (i := 4) (oi := _) (v := ?vrc4) rfl (by kernel_rfl) (by kernel_rfl) (by kernel_rfl) (fun _ _ _ h => h) (Or.inl ⟨by rfl, ?hyrc4⟩) (by assumption) ?restrc4
      case hyrc4 => (intro w hSw; (try dsimp only at hSw); go_simp; first | done | rfl)
      try simp only [layA]
      refine wpAnyH_take (i := 5) (oi := _) (v := ?vrc5) rfl (by kernel_rfl) (by kernel_rfl) (by kernel_rfl) (fun _ _ _ h => h) (Or.inl ⟨by rfl, ?hyrc5⟩) (by assumption) ?restrc5
      case hyrc5 => (intro w hSw; (try dsimp only at hSw); go_simp; first | done | rfl)
      try simp only [layA]
      refine wpAnyH_take (i := 6) (oi := _) (v := ?vrc6) rfl (by kernel_rfl) (by kernel_rfl) (by kernel_rfl) (fun _ _ _ h => h) (Or.inl ⟨by rfl, ?hyrc6⟩) (by assumption) ?restrc6
      case hyrc6 => (intro w hSw; (try dsimp only at hSw); go_simp; first | done | rfl)
      try simp only [layA]
      refine wpAnyH_take (i := 7) (oi := _) (v := ?vrc7) rfl (by kernel_rfl) (by kernel_rfl) (by kernel_rfl) (fun _ _ _ h => h) (Or.inl ⟨by rfl, ?hyrc7⟩) (by assumption) ?restrc7
      case hyrc7 => (intro w hSw; (try dsimp only at hSw); go_simp; first | done | rfl)
      try simp only [layA]
      refine wpAnyH_take (i := 8) (oi := _) (v := ?vrc8) rfl (by kernel_rfl) (by kernel_rfl) (by kernel_rfl) (fun _ _ _ h => h) (Or.inl ⟨by rfl, ?hyrc8⟩) (by assumption) ?restrc8
      case hyrc8 => (intro w hSw; (try dsimp only at hSw); go_simp; first | done | rfl)
      try simp only [layA]
      refine wpAnyH_done (by kernel_rfl) ?_ _
      replace BW := hbT BW hHeld
      replace LC := Lib.hid (LC.out.below hHeld)
      replace LL := Lib.hid (LL.out.below hHeld)
      replace O58 := Lib.hid (O58.out.below hHeld)
      have OU := Lib.hid o4
      clear o3 o4 hHeld Q14
      go_wp2_with fail
      refine (lwCopied A c l _ (by omega) (HO.out.below (fin BW))).mono ?_
      rintro e w59 ⟨a59, c59, rfl, o59, hb59⟩
      replace BW := hbT BW hb59
      replace LC := Lib.hid (LC.out.below hb59)
      replace LL := Lib.hid (LL.out.below hb59)
      replace O58 := Lib.hid (O58.out.below hb59)
      replace OU := Lib.hid (OU.out.below hb59)
      have O59 := Lib.hid o59
      clear o59 hb59
      go_wp2_with fail
      refine (netMirrorG a59 c59 l M _ HU.out.mm hl4 HU.out.fl.net O59.out).mono ?_
      rintro e w60 ⟨a60, c60, rfl, o60, hb60⟩
      replace BW := hbT BW hb60
      replace LC := Lib.hid (LC.out.below hb60)
      replace LL := Lib.hid (LL.out.below hb60)
      replace O58 := Lib.hid (O58.out.below hb60)
      replace OU := Lib.hid (OU.out.below hb60)
      replace O59 := Lib.hid (O59.out.below hb60)
      have O60 := Lib.hid o60
      clear o60 hb60
      clear O59
      go_wp2_with fail
      refine (lwCopied A c l _ (by omega) (HO.out.below (fin BW))).mono ?_
      rintro e w61 ⟨a61, c61, rfl, o61, hb61⟩
      replace BW := hbT BW hb61
      replace LC := Lib.hid (LC.out.below hb61)
      replace LL := Lib.hid (LL.out.below hb61)
      replace O58 := Lib.hid (O58.out.below hb61)
      replace OU := Lib.hid (OU.out.below hb61)
      replace O60 := Lib.hid (O60.out.below hb61)
      have O61 := Lib.hid o61
      clear o61 hb61
      go_wp2_with fail
      refine (netTurnS a61 c61 X r l T q _ HU.out.t hl4 HU.out.hr HU.out.hq HU.out.fl.net O61.out).mono ?_
      rintro e w62 ⟨a62, c62, rfl, o62, hb62⟩
      replace BW := hbT BW hb62
      replace LC := Lib.hid (LC.out.below hb62)
      replace LL := Lib.hid (LL.out.below hb62)
      replace O58 := Lib.hid (O58.out.below hb62)
      replace OU := Lib.hid (OU.out.below hb62)
      replace O60 := Lib.hid (O60.out.below hb62)
      replace O61 := Lib.hid (O61.out.below hb62)
      have O62 := Lib.hid o62
      clear o62 hb62
      clear O61
      go_wp2_with fail
      obtain ⟨wS, hwS, e0, e1, e2, hbS, hzS⟩ := box3 w62 (.slice a4 U.length c4) (.slice a60 M.length c60) (.slice a62 T.length c62) 22
      rw [← hwS]
      replace BW := hbT BW hbS
      replace LC := Lib.hid (LC.out.below hbS)
      replace LL := Lib.hid (LL.out.below hbS)
      replace O58 := Lib.hid (O58.out.below hbS)
      replace OU := Lib.hid (OU.out.below hbS)
      replace O60 := Lib.hid (O60.out.below hbS)
      replace O62 := Lib.hid (O62.out.below hbS)
      clear hwS hbS
      generalize w62.heap.size = B3 at *
      have HG := Lib.hid (show ∀ (i : Nat), i < 3 → ∃ (g : List Bar) (ag : Option Addr) (cg : Nat), Fit l.length #[.int .i64 n0, .int .i64 n1, .int .i64 n2, .int .i64 n3, .int .i64 n4] C k m p g ∧ OKS wS ag cg g ∧ wS.cell? ⟨B3, i, none⟩ = some (.slice ag g.length cg) from fun i hi => by
        have hc : i = 0 ∨ i = 1 ∨ i = 2 := by omega
        rcases hc with rfl | rfl | rfl
        · exact ⟨U, a4, c4, HU.out.fU, OU.out, e0⟩
        · exact ⟨M, a60, c60, HU.out.fM, O60.out, e1⟩
        · exact ⟨T, a62, c62, HU.out.fT, O62.out, e2⟩)
      clear e0 e1 e2
      go_wp2_with fail
      go_loopw [6, 22, 23, 24, 25, 26, 27, 28, 138] (fun _ _ _ _ _ _ _ _ iv wi => ∃ i : Nat, i ≤ 3 ∧ iv = .int .i64 i ∧ Below wS.heap.size wS wi) (fun _ _ _ _ _ _ _ _ iv _ => 3 - (intOf iv).toNat)
      case atStart => exact ⟨0, by omega, rfl, Below.refl _ _⟩
      case round =>
        obtain ⟨j, hj, rfl, hbj⟩ := hrel
        replace BW := hbT BW hbj
        replace LC := Lib.hid (LC.out.below hbj)
        replace LL := Lib.hid (LL.out.below hbj)
        replace O58 := Lib.hid (O58.out.below hbj)
        replace OU := Lib.hid (OU.out.below hbj)
        replace O60 := Lib.hid (O60.out.below hbj)
        replace O62 := Lib.hid (O62.out.below hbj)
        by_cases hlt : j < 3
        · have hjI : (j : Int) < 3 := by omega
          have hj0 : (0 : Int) ≤ (j : Int) := by omega
          obtain ⟨gg, ag, cg, Fg, Og, hcell⟩ := HG.out j hlt
          have FG := Lib.hid Fg
          have OG := Lib.hid (Og.below hbj)
          replace hcell := (hbj.cell (p := ⟨B3, j, none⟩) hzS).trans hcell
          have UP := Lib.hid (show Upon wS wr from hbj)
          have hgl : gg.length ≤ 4098 := by have := Fg.len; omega
          clear Fg Og hbj
          go_wp2_with fail
          refine (lwCopied ag cg gg _ hgl OG.out).mono ?_
          rintro e w63 ⟨a63, c63, rfl, o63, hb63⟩
          replace BW := hbT BW hb63
          replace LC := Lib.hid (LC.out.below hb63)
          replace LL := Lib.hid (LL.out.below hb63)
          replace O58 := Lib.hid (O58.out.below hb63)
          replace OU := Lib.hid (OU.out.below hb63)
          replace O60 := Lib.hid (O60.out.below hb63)
          replace O62 := Lib.hid (O62.out.below hb63)
          replace OG := Lib.hid (OG.out.below hb63)
          replace UP := Lib.hid (UP.out.below hb63)
          have O63 := Lib.hid o63
          clear o63 hb63
          go_wp2_with fail
          refine (cntF a63 c63 l.length _ C gg _ k m p h5 FG.out HU.out.h5e hl4 O63.out).mono ?_
          rintro e w64 ⟨rfl, hb64⟩
          replace BW := hbT BW hb64
          replace LC := Lib.hid (LC.out.below hb64)
          replace LL := Lib.hid (LL.out.below hb64)
          replace O58 := Lib.hid (O58.out.below hb64)
          replace OU := Lib.hid (OU.out.below hb64)
          replace O60 := Lib.hid (O60.out.below hb64)
          replace O62 := Lib.hid (O62.out.below hb64)
          replace OG := Lib.hid (OG.out.below hb64)
          replace UP := Lib.hid (UP.out.below hb64)
          replace O63 := Lib.hid (O63.out.below hb64)
          clear hb64
          clear O63
          go_wp2_with fail
          obtain ⟨w65, hw, LG, hbq, LZ⟩ := box5H w64 (.int .i64 k) (.int .i64 (l.length : Int)) (.int .i64 m) (.int .i64 p) (.int .i64 h5) 86
          rw [← hw]
          have LC2 := Lib.hid (show FiveC w65 w64.heap.size #[.int .i64 k, .int .i64 (l.length : Int), .int .i64 m, .int .i64 p, .int .i64 h5] from ⟨by omega, LG⟩)
          replace BW := hbT BW hbq
          replace LC := Lib.hid (LC.out.below hbq)
          replace LL := Lib.hid (LL.out.below hbq)
          replace O58 := Lib.hid (O58.out.below hbq)
          replace OU := Lib.hid (OU.out.below hbq)
          replace O60 := Lib.hid (O60.out.below hbq)
          replace O62 := Lib.hid (O62.out.below hbq)
          replace OG := Lib.hid (OG.out.below hbq)
          replace UP := Lib.hid (UP.out.below hbq)
          clear hw LZ LG hbq
          generalize w64.heap.size = BC2 at *
          go_wp2_with fail
          refine (lwCopied ag cg gg _ hgl OG.out).mono ?_
          rintro e w66 ⟨a66, c66, rfl, o66, hb66⟩
          replace BW := hbT BW hb66
          replace LC := Lib.hid (LC.out.below hb66)
          replace LL := Lib.hid (LL.out.below hb66)
          replace O58 := Lib.hid (O58.out.below hb66)
          replace OU := Lib.hid (OU.out.below hb66)
          replace O60 := Lib.hid (O60.out.below hb66)
          replace O62 := Lib.hid (O62.out.below hb66)
          replace OG := Lib.hid (OG.out.below hb66)
          replace UP := Lib.hid (UP.out.below hb66)
          replace LC2 := Lib.hid (LC2.out.below hb66)
          have O66 := Lib.hid o66
          clear o66 hb66
          go_wp2_with fail
          refine (legF a66 c66 l.length C gg _ k m p n0 n1 n2 n3 n4 FG.out hl4 O66.out).mono ?_
          rintro e w67 ⟨rfl, hb67⟩
          replace BW := hbT BW hb67
          replace LC := Lib.hid (LC.out.below hb67)
          replace LL := Lib.hid (LL.out.below hb67)
          replace O58 := Lib.hid (O58.out.below hb67)
          replace OU := Lib.hid (OU.out.below hb67)
          replace O60 := Lib.hid (O60.out.below hb67)
          replace O62 := Lib.hid (O62.out.below hb67)
          replace OG := Lib.hid (OG.out.below hb67)
          replace UP := Lib.hid (UP.out.below hb67)
          replace LC2 := Lib.hid (LC2.out.below hb67)
          replace O66 := Lib.hid (O66.out.below hb67)
          clear hb67
          clear O66
          go_wp2_with fail
          obtain ⟨w68, hw, LG, hbq, LZ⟩ := box5H w67 (.int .i64 n0) (.int .i64 n1) (.int .i64 n2) (.int .i64 n3) (.int .i64 n4) 67
          rw [← hw]
          have LL2 := Lib.hid (show Five w68 w67.heap.size #[.int .i64 n0, .int .i64 n1, .int .i64 n2, .int .i64 n3, .int .i64 n4] from ⟨by omega, LG⟩)
          replace BW := hbT BW hbq
          replace LC := Lib.hid (LC.out.below hbq)
          replace LL := Lib.hid (LL.out.below hbq)
          replace O58 := Lib.hid (O58.out.below hbq)
          replace OU := Lib.hid (OU.out.below hbq)
          replace O60 := Lib.hid (O60.out.below hbq)
          replace O62 := Lib.hid (O62.out.below hbq)
          replace OG := Lib.hid (OG.out.below hbq)
          replace UP := Lib.hid (UP.out.below hbq)
          replace LC2 := Lib.hid (LC2.out.below hbq)
          clear hw LZ LG hbq
          generalize w67.heap.size = BL2 at *
          go_wp2_with fail
          refine (lwCopied ag cg gg _ hgl OG.out).mono ?_
          rintro e w69 ⟨a69, c69, rfl, o69, hb69⟩
          replace BW := hbT BW hb69
          replace LC := Lib.hid (LC.out.below hb69)
          replace LL := Lib.hid (LL.out.below hb69)
          replace O58 := Lib.hid (O58.out.below hb69)
          replace OU := Lib.hid (OU.out.below hb69)
          replace O60 := Lib.hid (O60.out.below hb69)
          replace O62 := Lib.hid (O62.out.below hb69)
          replace OG := Lib.hid (OG.out.below hb69)
          replace UP := Lib.hid (UP.out.below hb69)
          replace LC2 := Lib.hid (LC2.out.below hb69)
          replace LL2 := Lib.hid (LL2.out.below hb69)
          have O69 := Lib.hid o69
          clear o69 hb69
          go_wp2_with fail
          refine (canF a69 c69 l.length _ C gg _ k m p FG.out hl4 O69.out).mono ?_
          rintro e w70 ⟨a70, c70, rfl, o70, hb70⟩
          replace BW := hbT BW hb70
          replace LC := Lib.hid (LC.out.below hb70)
          replace LL := Lib.hid (LL.out.below hb70)
          replace O58 := Lib.hid (O58.out.below hb70)
          replace OU := Lib.hid (OU.out.below hb70)
          replace O60 := Lib.hid (O60.out.below hb70)
          replace O62 := Lib.hid (O62.out.below hb70)
          replace OG := Lib.hid (OG.out.below hb70)
          replace UP := Lib.hid (UP.out.below hb70)
          replace LC2 := Lib.hid (LC2.out.below hb70)
          replace LL2 := Lib.hid (LL2.out.below hb70)
          replace O69 := Lib.hid (O69.out.below hb70)
          have O70 := Lib.hid o70
          clear o70 hb70
          clear O69
          obtain ⟨x0, x1, x2, x3, x4⟩ := LC.out.at5
          obtain ⟨y0, y1, y2, y3, y4⟩ := LL.out.at5
          obtain ⟨u0, u1, u2, u3, u4⟩ := LC2.out.at5
          obtain ⟨v0, v1, v2, v3, v4⟩ := LL2.out.at5
          have qf := eqFive n0 n1 n2 n3 n4
          have qc := eqCountsSame k (l.length : Int) m p h5
          go_wp2_with fail
          refine (refSameNet a70 a58 c70 c58 C _ hCl O70.out.2.2.2 O58.out.2.2.2).mono ?_
          rintro e w71 ⟨rfl, hb71⟩
          replace BW := hbT BW hb71
          replace LC := Lib.hid (LC.out.below hb71)
          replace LL := Lib.hid (LL.out.below hb71)
          replace O58 := Lib.hid (O58.out.below hb71)
          replace OU := Lib.hid (OU.out.below hb71)
          replace O60 := Lib.hid (O60.out.below hb71)
          replace O62 := Lib.hid (O62.out.below hb71)
          replace OG := Lib.hid (OG.out.below hb71)
          replace UP := Lib.hid (UP.out.below hb71)
          replace LC2 := Lib.hid (LC2.out.below hb71)
          replace LL2 := Lib.hid (LL2.out.below hb71)
          replace O70 := Lib.hid (O70.out.below hb71)
          clear hb71
          have hUP := UP.out
          go_wp2
          go_roundw
          case rel => exact ⟨j + 1, by omega, by go_num, hUP⟩
          case measure => simp [intOf]; omega
        · have e3 : j = 3 := by omega
          have hlt3 : ¬ (j : Int) < 3 := by omega
          clear e3 HG
          go_wp2_with fail
          have Q28 : ∀ {W : World}, Below wr.heap.size wr W → W.cell? ⟨w.heap.size, 0, none⟩ = some (.int .i64 dx) ∧ W.cell? ⟨w.heap.size, 1, none⟩ = some (.int .i64 dy) := fun hb => Q (hbT BW hb)
          refine wp_region_held_drew (S := (fun w' => Below wr.heap.size wr w')) (by kernel_rfl) ?_ (fun hHeld => ?_)
          · exact below_drew (Below.refl _ _)
          refine wpAnyH_take (i := 0) (oi := _) (v := ?vrd0) rfl (by kernel_rfl) (by kernel_rfl) (by kernel_rfl) (fun _ _ _ h => h) (Or.inl ⟨by rfl, ?hyrd0⟩) (by assumption) ?restrd0
          case hyrd0 => (intro w hSw; (try dsimp only at hSw); go_simp; first | done | rfl)
          try simp only [layA]
          refine wpAnyH_take (i := 2) (oi := _) (v := ?vrd2) rfl (by kernel_rfl) (by kernel_rfl) (by kernel_rfl) (fun _ _ _ h => h) (Or.inl ⟨by rfl, ?hyrd2⟩) (by assumption) ?restrd2
          case hyrd2 => (intro w hSw; (try dsimp only at hSw); go_simp; first | done | rfl)
          try simp only [layA]
          refine wpAnyH_take (i := 3) (oi := _) (v := ?vrd3) rfl (by kernel_rfl) (by kernel_rfl) (by kernel_rfl) (fun _ _ _ h => h) (Or.inl ⟨by rfl, ?hyrd3⟩) (by assumption) ?restrd3
          case hyrd3 => (intro w hSw; (try dsimp only at hSw); obtain ⟨s0, s1⟩ := Q28 hSw; go_simp; first | done | rfl)
          try simp only [layA]
          refine wpAnyH_take (i := 4) (oi := _) (v := ?vrd4) rfl (by kernel_rfl) (by kernel_rfl) (by kernel_rfl) (fun _ _ _ h => h) (Or.inl ⟨by rfl, ?hyrd4⟩) (by assumption) ?restrd4
          case hyrd4 => (intro w hSw; (try dsimp only at hSw); go_simp; first | done | rfl)
          try simp only [layA]
          refine wpAnyH_take (i := 5) (oi := _) (v := ?vrd5) rfl (by kernel_rfl) (by kernel_rfl) (by kernel_rfl) (fun _ _ _ h => h) (Or.inl ⟨by rfl, ?hyrd5⟩) (by assumption) ?restrd5
          case hyrd5 => (intro w hSw; (try dsimp only at hSw); go_simp; first | done | rfl)
          try simp only [layA]
          refine wpAnyH_take (i := 6) (oi := _) (v := ?vrd6) rfl (by kernel_rfl) (by kernel_rfl) (by kernel_rfl) (fun _ _ _ h => h) (Or.inl ⟨by rfl, ?hyrd6⟩) (by assumption) ?restrd6
          case hyrd6 => (intro w hSw; (try dsimp only at hSw); obtain ⟨s0, s1⟩ := Q28 hSw; go_simp; first | done | rfl)
          try simp only [layA]
          refine wpAnyH_take (i := 7) (oi := _) (v := ?vrd7) rfl (by kernel_rfl) (by kernel_rfl) (by kernel_rfl) (fun _ _ _ h => h) (Or.inl ⟨by rfl, ?hyrd7⟩) (by assumption) ?restrd7
          case hyrd7 => (intro w hSw; (try dsimp only at hSw); go_simp; first | done | rfl)
          try simp only [layA]
          refine wpAnyH_take (i := 8) (oi := _) (v := ?vrd8) rfl (by kernel_rfl) (by kernel_rfl) (by kernel_rfl) (fun _ _ _ h => h) (Or.inl ⟨by rfl, ?hyrd8⟩) (by assumption) ?restrd8
          case hyrd8 => (intro w hSw; (try dsimp only at hSw); go_simp; first | done | rfl)
          try simp only [layA]
          refine wpAnyH_ready (rs := [1]) (by kernel_rfl) (by simp) ?_
          refine AllReadyH.cons (o := _) rfl (fun K hK => ?_) AllReadyH.nil
          simp only [layG]
          go_simp
          go_at_call 21
          refine (lwCopied a4 c4 U _ (by omega) (OU.out.below (by assumption))).mono ?_
          rintro e w3 ⟨a3, c3, rfl, o3, hbq⟩
          refine hK.out _ _ (hbT (by assumption) hbq) (fun hHeld => ?_)
          clear hK K
          try simp only [layA]
          refine wpAnyH_ready (rs := [9]) (by kernel_rfl) (by simp) ?_
          refine AllReadyH.cons (o := _) rfl (fun K hK => ?_) AllReadyH.nil
          simp only [layG]
          go_simp
          go_at_call 63
          refine (netShiftS a3 c3 U l (-dx) (-dy) _ HU.out.ub hUl HU.out.fU.net HU.out.fl.net HU.out.kb o3).mono ?_
          rintro e w4 ⟨a5, c5, rfl, o5, hbq⟩
          refine hK.out _ _ (hbT (by assumption) hbq) (fun hHeld => ?_)
          clear hK K
          try simp only [layA]
          refine wpAnyH_take (i := 10) (oi := _) (v := ?vrd10) rfl (by kernel_rfl) (by kernel_rfl) (by kernel_rfl) (fun _ _ _ h => h) (Or.inl ⟨by rfl, ?hyrd10⟩) (by assumption) ?restrd10
          case hyrd10 => (intro w hSw; (try dsimp only at hSw); go_simp; first | done | rfl)
          try simp only [layA]
          refine wpAnyH_take (i := 11) (oi := _) (v := ?vrd11) rfl (by kernel_rfl) (by kernel_rfl) (by kernel_rfl) (fun _ _ _ h => h) (Or.inl ⟨by rfl, ?hyrd11⟩) (by assumption) ?restrd11
          case hyrd11 => (intro w hSw; (try dsimp only at hSw); go_simp; first | done | rfl)
          try simp only [layA]
          refine wpAnyH_take (i := 12) (oi := _) (v := ?vrd12) rfl (by kernel_rfl) (by kernel_rfl) (by kernel_rfl) (fun _ _ _ h => h) (Or.inl ⟨by rfl, ?hyrd12⟩) (by assumption) ?restrd12
          case hyrd12 => (intro w hSw; (try dsimp only at hSw); go_simp; first | done | rfl)
          try simp only [layA]
          refine wpAnyH_take (i := 13) (oi := _) (v := ?vrd13) rfl (by kernel_rfl) (by kernel_rfl) (by kernel_rfl) (fun _ _ _ h => h) (Or.inl ⟨by rfl, ?hyrd13⟩) (by assumption) ?restrd13
          case hyrd13 => (intro w hSw; (try dsimp only at hSw); go_simp; first | done | rfl)
          try simp only [layA]
          refine wpAnyH_take (i := 14) (oi := _) (v := ?vrd14) rfl (by kernel_rfl) (by kernel_rfl) (by kernel_rfl) (fun _ _ _ h => h) (Or.inl ⟨by rfl, ?hyrd14⟩) (by assumption) ?restrd14
          case hyrd14 => (intro w hSw; (try dsimp only at hSw); go_simp; first | done | rfl)
          try simp only [layA]
          refine wpAnyH_done (by kernel_rfl) ?_ _
          replace BW := hbT BW hHeld
          replace LC := Lib.hid (LC.out.below hHeld)
          replace LL := Lib.hid (LL.out.below hHeld)
          replace O58 := Lib.hid (O58.out.below hHeld)
          replace OU := Lib.hid (OU.out.below hHeld)
          replace O60 := Lib.hid (O60.out.below hHeld)
          replace O62 := Lib.hid (O62.out.below hHeld)
          have OB := Lib.hid o5
          clear o3 o5 hHeld Q28
          go_wp2_with fail
          refine (lwCopied a60 c60 M _ (by omega) O60.out).mono ?_
          rintro e w63 ⟨a63, c63, rfl, o63, hb63⟩
          replace BW := hbT BW hb63
          replace LC := Lib.hid (LC.out.below hb63)
          replace LL := Lib.hid (LL.out.below hb63)
          replace O58 := Lib.hid (O58.out.below hb63)
          replace OU := Lib.hid (OU.out.below hb63)
          replace O60 := Lib.hid (O60.out.below hb63)
          replace O62 := Lib.hid (O62.out.below hb63)
          replace OB := Lib.hid (OB.out.below hb63)
          have O63 := Lib.hid o63
          clear o63 hb63
          go_wp2_with fail
          refine (netMirrorG a63 c63 M l _ HU.out.mb hMl HU.out.fM.net O63.out).mono ?_
          rintro e w64 ⟨a64, c64, rfl, o64, hb64⟩
          replace BW := hbT BW hb64
          replace LC := Lib.hid (LC.out.below hb64)
          replace LL := Lib.hid (LL.out.below hb64)
          replace O58 := Lib.hid (O58.out.below hb64)
          replace OU := Lib.hid (OU.out.below hb64)
          replace O60 := Lib.hid (O60.out.below hb64)
          replace O62 := Lib.hid (O62.out.below hb64)
          replace OB := Lib.hid (OB.out.below hb64)
          replace O63 := Lib.hid (O63.out.below hb64)
          have O64 := Lib.hid o64
          clear o64 hb64
          clear O63
          go_wp2_with fail
          refine (lwCopied a62 c62 T _ (by omega) O62.out).mono ?_
          rintro e w65 ⟨a65, c65, rfl, o65, hb65⟩
          replace BW := hbT BW hb65
          replace LC := Lib.hid (LC.out.below hb65)
          replace LL := Lib.hid (LL.out.below hb65)
          replace O58 := Lib.hid (O58.out.below hb65)
          replace OU := Lib.hid (OU.out.below hb65)
          replace O60 := Lib.hid (O60.out.below hb65)
          replace O62 := Lib.hid (O62.out.below hb65)
          replace OB := Lib.hid (OB.out.below hb65)
          replace O64 := Lib.hid (O64.out.below hb65)
          have O65 := Lib.hid o65
          clear o65 hb65
          go_wp2_with fail
          refine (netTurnS a65 c65 (-X) r2 T l q2 _ HU.out.tb hTl HU.out.hr2 HU.out.hq2 HU.out.fT.net O65.out).mono ?_
          rintro e w66 ⟨a66, c66, rfl, o66, hb66⟩
          replace BW := hbT BW hb66
          replace LC := Lib.hid (LC.out.below hb66)
          replace LL := Lib.hid (LL.out.below hb66)
          replace O58 := Lib.hid (O58.out.below hb66)
          replace OU := Lib.hid (OU.out.below hb66)
          replace O60 := Lib.hid (O60.out.below hb66)
          replace O62 := Lib.hid (O62.out.below hb66)
          replace OB := Lib.hid (OB.out.below hb66)
          replace O64 := Lib.hid (O64.out.below hb66)
          replace O65 := Lib.hid (O65.out.below hb66)
          have O66 := Lib.hid o66
          clear o66 hb66
          clear O65
          go_wp2_with fail
          refine (lwCopied a60 c60 M _ (by omega) O60.out).mono ?_
          rintro e w67 ⟨a67, c67, rfl, o67, hb67⟩
          replace BW := hbT BW hb67
          replace LC := Lib.hid (LC.out.below hb67)
          replace LL := Lib.hid (LL.out.below hb67)
          replace O58 := Lib.hid (O58.out.below hb67)
          replace OU := Lib.hid (OU.out.below hb67)
          replace O60 := Lib.hid (O60.out.below hb67)
          replace O62 := Lib.hid (O62.out.below hb67)
          replace OB := Lib.hid (OB.out.below hb67)
          replace O64 := Lib.hid (O64.out.below hb67)
          replace O66 := Lib.hid (O66.out.below hb67)
          have O67 := Lib.hid o67
          clear o67 hb67
          go_wp2_with fail
          refine (netTurnS a67 c67 1 1 M T1 1 _ HU.out.t1 hMl rfl rfl HU.out.fM.net O67.out).mono ?_
          rintro e w68 ⟨a68, c68, rfl, o68, hb68⟩
          replace BW := hbT BW hb68
          replace LC := Lib.hid (LC.out.below hb68)
          replace LL := Lib.hid (LL.out.below hb68)
          replace O58 := Lib.hid (O58.out.below hb68)
          replace OU := Lib.hid (OU.out.below hb68)
          replace O60 := Lib.hid (O60.out.below hb68)
          replace O62 := Lib.hid (O62.out.below hb68)
          replace OB := Lib.hid (OB.out.below hb68)
          replace O64 := Lib.hid (O64.out.below hb68)
          replace O66 := Lib.hid (O66.out.below hb68)
          replace O67 := Lib.hid (O67.out.below hb68)
          have O68 := Lib.hid o68
          clear o68 hb68
          clear O67
          go_wp2_with fail
          refine (lwCopied a68 c68 T1 _ (by omega) O68.out).mono ?_
          rintro e w69 ⟨a69, c69, rfl, o69, hb69⟩
          replace BW := hbT BW hb69
          replace LC := Lib.hid (LC.out.below hb69)
          replace LL := Lib.hid (LL.out.below hb69)
          replace O58 := Lib.hid (O58.out.below hb69)
          replace OU := Lib.hid (OU.out.below hb69)
          replace O60 := Lib.hid (O60.out.below hb69)
          replace O62 := Lib.hid (O62.out.below hb69)
          replace OB := Lib.hid (OB.out.below hb69)
          replace O64 := Lib.hid (O64.out.below hb69)
          replace O66 := Lib.hid (O66.out.below hb69)
          replace O68 := Lib.hid (O68.out.below hb69)
          have O69 := Lib.hid o69
          clear o69 hb69
          go_wp2_with fail
          refine (netMirrorG a69 c69 T1 M2 _ HU.out.m2 hT1l HU.out.nT1 O69.out).mono ?_
          rintro e w70 ⟨a70, c70, rfl, o70, hb70⟩
          replace BW := hbT BW hb70
          replace LC := Lib.hid (LC.out.below hb70)
          replace LL := Lib.hid (LL.out.below hb70)
          replace O58 := Lib.hid (O58.out.below hb70)
          replace OU := Lib.hid (OU.out.below hb70)
          replace O60 := Lib.hid (O60.out.below hb70)
          replace O62 := Lib.hid (O62.out.below hb70)
          replace OB := Lib.hid (OB.out.below hb70)
          replace O64 := Lib.hid (O64.out.below hb70)
          replace O66 := Lib.hid (O66.out.below hb70)
          replace O68 := Lib.hid (O68.out.below hb70)
          replace O69 := Lib.hid (O69.out.below hb70)
          have O70 := Lib.hid o70
          clear o70 hb70
          clear O69
          go_wp2_with fail
          refine (lwCopied a70 c70 M2 _ (by omega) O70.out).mono ?_
          rintro e w71 ⟨a71, c71, rfl, o71, hb71⟩
          replace BW := hbT BW hb71
          replace LC := Lib.hid (LC.out.below hb71)
          replace LL := Lib.hid (LL.out.below hb71)
          replace O58 := Lib.hid (O58.out.below hb71)
          replace OU := Lib.hid (OU.out.below hb71)
          replace O60 := Lib.hid (O60.out.below hb71)
          replace O62 := Lib.hid (O62.out.below hb71)
          replace OB := Lib.hid (OB.out.below hb71)
          replace O64 := Lib.hid (O64.out.below hb71)
          replace O66 := Lib.hid (O66.out.below hb71)
          replace O68 := Lib.hid (O68.out.below hb71)
          replace O70 := Lib.hid (O70.out.below hb71)
          have O71 := Lib.hid o71
          clear o71 hb71
          go_wp2_with fail
          refine (netTurnS a71 c71 1 1 M2 l 1 _ HU.out.lb hM2l rfl rfl HU.out.nM2 O71.out).mono ?_
          rintro e w72 ⟨a72, c72, rfl, o72, hb72⟩
          replace BW := hbT BW hb72
          replace LC := Lib.hid (LC.out.below hb72)
          replace LL := Lib.hid (LL.out.below hb72)
          replace O58 := Lib.hid (O58.out.below hb72)
          replace OU := Lib.hid (OU.out.below hb72)
          replace O60 := Lib.hid (O60.out.below hb72)
          replace O62 := Lib.hid (O62.out.below hb72)
          replace OB := Lib.hid (OB.out.below hb72)
          replace O64 := Lib.hid (O64.out.below hb72)
          replace O66 := Lib.hid (O66.out.below hb72)
          replace O68 := Lib.hid (O68.out.below hb72)
          replace O70 := Lib.hid (O70.out.below hb72)
          replace O71 := Lib.hid (O71.out.below hb72)
          have O72 := Lib.hid o72
          clear o72 hb72
          clear O71
          go_wp2_with fail
          refine (refSameNet a5 A c5 c l _ hl4 OB.out.2.2.2 (HO.out.below (fin BW)).2.2.2).mono ?_
          rintro e w73 ⟨rfl, hb73⟩
          replace BW := hbT BW hb73
          replace LC := Lib.hid (LC.out.below hb73)
          replace LL := Lib.hid (LL.out.below hb73)
          replace O58 := Lib.hid (O58.out.below hb73)
          replace OU := Lib.hid (OU.out.below hb73)
          replace O60 := Lib.hid (O60.out.below hb73)
          replace O62 := Lib.hid (O62.out.below hb73)
          replace OB := Lib.hid (OB.out.below hb73)
          replace O64 := Lib.hid (O64.out.below hb73)
          replace O66 := Lib.hid (O66.out.below hb73)
          replace O68 := Lib.hid (O68.out.below hb73)
          replace O70 := Lib.hid (O70.out.below hb73)
          replace O72 := Lib.hid (O72.out.below hb73)
          clear hb73
          go_wp2_with fail
          refine (refSameNet a64 A c64 c l _ hl4 O64.out.2.2.2 (HO.out.below (fin BW)).2.2.2).mono ?_
          rintro e w74 ⟨rfl, hb74⟩
          replace BW := hbT BW hb74
          replace LC := Lib.hid (LC.out.below hb74)
          replace LL := Lib.hid (LL.out.below hb74)
          replace O58 := Lib.hid (O58.out.below hb74)
          replace OU := Lib.hid (OU.out.below hb74)
          replace O60 := Lib.hid (O60.out.below hb74)
          replace O62 := Lib.hid (O62.out.below hb74)
          replace OB := Lib.hid (OB.out.below hb74)
          replace O64 := Lib.hid (O64.out.below hb74)
          replace O66 := Lib.hid (O66.out.below hb74)
          replace O68 := Lib.hid (O68.out.below hb74)
          replace O70 := Lib.hid (O70.out.below hb74)
          replace O72 := Lib.hid (O72.out.below hb74)
          clear hb74
          go_wp2_with fail
          refine (refSameNet a66 A c66 c l _ hl4 O66.out.2.2.2 (HO.out.below (fin BW)).2.2.2).mono ?_
          rintro e w75 ⟨rfl, hb75⟩
          replace BW := hbT BW hb75
          replace LC := Lib.hid (LC.out.below hb75)
          replace LL := Lib.hid (LL.out.below hb75)
          replace O58 := Lib.hid (O58.out.below hb75)
          replace OU := Lib.hid (OU.out.below hb75)
          replace O60 := Lib.hid (O60.out.below hb75)
          replace O62 := Lib.hid (O62.out.below hb75)
          replace OB := Lib.hid (OB.out.below hb75)
          replace O64 := Lib.hid (O64.out.below hb75)
          replace O66 := Lib.hid (O66.out.below hb75)
          replace O68 := Lib.hid (O68.out.below hb75)
          replace O70 := Lib.hid (O70.out.below hb75)
          replace O72 := Lib.hid (O72.out.below hb75)
          clear hb75
          go_wp2_with fail
          refine (refSameNet a72 A c72 c l _ hl4 O72.out.2.2.2 (HO.out.below (fin BW)).2.2.2).mono ?_
          rintro e w76 ⟨rfl, hb76⟩
          replace BW := hbT BW hb76
          replace LC := Lib.hid (LC.out.below hb76)
          replace LL := Lib.hid (LL.out.below hb76)
          replace O58 := Lib.hid (O58.out.below hb76)
          replace OU := Lib.hid (OU.out.below hb76)
          replace O60 := Lib.hid (O60.out.below hb76)
          replace O62 := Lib.hid (O62.out.below hb76)
          replace OB := Lib.hid (OB.out.below hb76)
          replace O64 := Lib.hid (O64.out.below hb76)
          replace O66 := Lib.hid (O66.out.below hb76)
          replace O68 := Lib.hid (O68.out.below hb76)
          replace O70 := Lib.hid (O70.out.below hb76)
          replace O72 := Lib.hid (O72.out.below hb76)
          clear hb76
          go_wp2
          go_ret
          exact ⟨rfl, fin BW⟩
end Go.Proofs.YtdeplhihcifmeaaGreatDoor

/- The law of NettingTurns. -/
namespace Go.Proofs.YtdeplhihcifmeaaGreatDoor
open Go.RowKit Go.Shelf Ck

theorem knotE_bound (x y : Int) : 0 ≤ knotE x y ∧ knotE x y ≤ 14 := by
  unfold knotE
  split
  · omega
  · split
    · omega
    · split <;> omega
theorem rng_bound (n : Int) : 0 ≤ (if n < -1000 ∨ 1000 < n then (3 : Int) else 0) ∧ (if n < -1000 ∨ 1000 < n then (3 : Int) else 0) ≤ 3 := by
  split <;> omega
theorem lawTurns (A : Option Addr) (c : Nat) (l : List Bar) (dx dy X : Int) (w : World) (hL : LaidLen w) (hO : OKS w A c l) (hx0 : -128 ≤ X) (hx1 : X < 128) :
    Calls Tryz.prog 14 #[.slice A l.length c, .agg #[.int .i64 dx, .int .i64 dy], .int .i8 X] w fun e w' => e = .returned (.bool true) ∧ Below w.heap.size w w' := by
  by_cases hl : 20 < l.length
  · exact lawTu1 A c l dx dy X w hL hO hl
  by_cases hE : netE l = 0
  · have hN := ((netE_zero l).1 hE).2
    by_cases hs : (if dx < -1000 ∨ 1000 < dx then (3 : Int) else 0) + (if dy < -1000 ∨ 1000 < dy then (3 : Int) else 0) + knotE dx dy = 0
    · have h1 := rng_bound dx
      have h2 := rng_bound dy
      have h3 := knotE_bound dx dy
      have e1 : (if dx < -1000 ∨ 1000 < dx then (3 : Int) else 0) = 0 := by omega
      have e2 : (if dy < -1000 ∨ 1000 < dy then (3 : Int) else 0) = 0 := by omega
      have e3 : knotE dx dy = 0 := by omega
      refine lawTuM A c l dx dy X w hL hO (by omega) hN ?_ ?_ e3 ⟨hx0, hx1⟩
      · split at e1 <;> omega
      · split at e2 <;> omega
    · exact lawTu3 A c l dx dy X w hL hO (by omega) hN _ _ _ rfl rfl rfl (rng_bound dx) (rng_bound dy) (knotE_bound dx dy) hs
  · exact lawTu2 A c l dx dy X w hL hO (by omega) _ rfl hE
end Go.Proofs.YtdeplhihcifmeaaGreatDoor

/- A knot as an argument. -/
namespace Go.Proofs.YtdeplhihcifmeaaGreatDoor
open Go.ChangeShapes Go.WideShapes Go.ChangeAt Go.WideMaps Go.WideElems Go.RowKit

set_option maxRecDepth 100000 in
theorem open_knot {w : World} {r : Reach} {b0 : Nat} {v : Value} (h : Value.okWide Tryz.prog w r b0 26 v) : ∃ x y, v = .agg #[.int .i64 x, .int .i64 y] := by
  have hS : Tryz.prog.underlying 26 = some (.struct (Tryz.prog.fieldsOf 26)) := by kernel_rfl
  have hC : Tryz.prog.cellsOf 26 = 2 := by kernel_rfl
  simp only [Value.okWide, hS] at h
  obtain ⟨cs, rfl, hsz, hr⟩ := h
  rw [hC] at hsz
  obtain ⟨ts, hts, -, hrow⟩ := hr
  have ht : Tryz.prog.cellTypes Tryz.prog.depth 26 = some [3, 3] := by kernel_rfl
  rw [ht] at hts
  cases hts
  obtain ⟨l⟩ := cs
  match l, hsz with
  | [c0, c1], _ =>
    obtain ⟨u0, hu0, h0⟩ := hrow 0 c0 rfl
    obtain ⟨u1, hu1, h1⟩ := hrow 1 c1 rfl
    simp at hu0 hu1
    subst hu0 hu1
    obtain ⟨a, rfl, -⟩ := cell_intT Tryz.underlying3 h0
    obtain ⟨b, rfl, -⟩ := cell_intT Tryz.underlying3 h1
    exact ⟨a, b, rfl⟩
end Go.Proofs.YtdeplhihcifmeaaGreatDoor

/- An argument that is a list of bars, opened. -/
namespace Go.Proofs.YtdeplhihcifmeaaGreatDoor
open Go.ChangeShapes Go.WideShapes Go.ChangeAt Go.RowKit Go.Deep

variable {H : Type} {enc : TypeId × Value → H} {w : World} {spare : Nat → Bool} {held : Bool}
set_option maxRecDepth 100000 in
theorem bar_cells {n : Nat} {cs : List Value} {x : DataW H × List MemPlace} (h : DataW.trod enc Tryz.prog w 0 spare held n 24 cs = some x) : ∃ b : Ck.Bar, cs = bcells b := by
  obtain ⟨xs, m, _, _, hl, hx, hf⟩ := DataW.trod_struct Tryz.underlying24 h
  have hC : Tryz.prog.cellsOf 24 = 3 := by kernel_rfl
  have c3 : Tryz.prog.cellsOf 3 = 1 := by kernel_rfl
  rw [hC] at hl
  match cs, hl, xs, hx with
  | [c0, c1, c2], _, [x0, x1, x2], _ =>
    have h0 := hf 0 _ rfl
    have h1 := hf 1 _ rfl
    have h2 := hf 2 _ rfl
    simp [c3] at h0 h1 h2
    obtain ⟨n0, e0, _⟩ := DataW.trod_int Tryz.underlying3 h0
    obtain ⟨n1, e1, _⟩ := DataW.trod_int Tryz.underlying3 h1
    obtain ⟨n2, e2, _⟩ := DataW.trod_int Tryz.underlying3 h2
    simp only [List.cons.injEq, and_true] at e0 e1 e2
    exact ⟨⟨n0, n1, n2⟩, by rw [e0, e1, e2]; rfl⟩
set_option maxRecDepth 100000 in
/-- The argument is nil, or a slice that reads as bars. -/
theorem open_bars {v : Value} {d : DataW H} {p : List MemPlace} {r : Reach} {b0 : Nat} (hv : Value.okWide Tryz.prog w r b0 22 v) (h : DataW.Trod enc Tryz.prog w 0 spare held 22 v d p) (_ : ∀ x ∈ p, x.block < w.heap.size) :
    ∃ (A : Option Addr) (c : Nat) (l : List Ck.Bar), v = .slice A l.length c ∧ (A = none → c = 0) ∧ l.length ≤ c ∧ c ≤ maxLen ∧ RB w w.heap.size A l := by
  obtain ⟨a, len, cap, rfl⟩ := okWide_slice Tryz.underlying22 hv
  obtain ⟨fuel, hf⟩ := h
  have hC : Tryz.prog.cellsOf 24 = 3 := by kernel_rfl
  rcases open_slice Tryz.underlying22 hf with ⟨hcs, _⟩ | ⟨a', len', cap', m, n, D, Pl, hcs, hb, hl, hm, hmm, hx, hi⟩
  · simp [Value.cells] at hcs
    obtain ⟨rfl, rfl, rfl⟩ := hcs
    exact ⟨none, 0, [], rfl, fun _ => rfl, Nat.zero_le _, by unfold maxLen; omega, fun h => by simp at h⟩
  · simp [Value.cells] at hcs
    obtain ⟨rfl, rfl, rfl⟩ := hcs
    rw [hC] at hi hx
    have hle : len ≤ m := by rw [hmm]; split <;> omega
    have each : ∀ i, ∃ b : Ck.Bar, i < len → w.cell? (a'.add (i * 3)) = some (.int .i64 b.x) ∧ w.cell? ((a'.add (i * 3)).add 1) = some (.int .i64 b.y) ∧ w.cell? ((a'.add (i * 3)).add 2) = some (.int .i64 b.s) := fun i => by
      by_cases hi' : i < len
      · obtain ⟨cs', h1, h2⟩ := hi i (by omega)
        obtain ⟨b, rfl⟩ := bar_cells h2
        obtain ⟨_, _, h3⟩ := World.cells?_some h1
        exact ⟨b, fun _ => ⟨h3 0 (by omega), h3 1 (by omega), h3 2 (by omega)⟩⟩
      · exact ⟨⟨0, 0, 0⟩, fun h => absurd h hi'⟩
    obtain ⟨f, hf'⟩ := Classical.axiomOfChoice each
    have hlen : ((List.range len).map f).length = len := by simp
    refine ⟨some a', cap, (List.range len).map f, by rw [hlen], (fun h => by cases h), by rw [hlen]; exact hl, hm, fun hpos => ?_⟩
    rw [hlen] at hpos
    obtain ⟨blk, off, spot⟩ := a'
    have h0 := (hf' 0 hpos).1
    have hspot : spot = none := by
      cases spot with
      | none => rfl
      | some s =>
        simp [Addr.add, World.cell?] at h0
        split at h0 <;> simp at h0
    subst hspot
    have hadd : ∀ k, (⟨blk, off, none⟩ : Addr).add k = ⟨blk, off + k, none⟩ := fun k => by
      unfold Addr.add
      split
      · simp
      · rfl
    have hblk : blk < w.heap.size := by
      rw [hadd] at h0
      unfold World.cell? at h0
      cases hh : w.heap[blk]? with
      | none => simp [hh] at h0
      | some o => exact (Array.getElem?_eq_some_iff.1 hh).1
    refine ⟨blk, off, rfl, hblk, fun i hi' => ?_⟩
    rw [hlen] at hi'
    obtain ⟨k0, k1, k2⟩ := hf' i hi'
    rw [hadd] at k0 k1 k2
    have hadd2 : ∀ k j, (⟨blk, k, none⟩ : Addr).add j = ⟨blk, k + j, none⟩ := fun k j => by
      unfold Addr.add
      split
      · simp
      · rfl
    rw [hadd2] at k1 k2
    have hg : ((List.range len).map f)[i]'(by simpa using hi') = f i := by simp
    rw [hg]
    exact ⟨k0, k1, k2⟩
end Go.Proofs.YtdeplhihcifmeaaGreatDoor

/- A byte, an int8 as arguments. -/
namespace Go.Proofs.YtdeplhihcifmeaaGreatDoor
open Go.ChangeShapes Go.WideShapes Go.ChangeAt Go.WideMaps Go.WideElems Go.RowKit

set_option maxRecDepth 100000 in
theorem open_i8v {w : World} {r : Reach} {b0 : Nat} {v : Value} (h : Value.okWide Tryz.prog w r b0 110 v) : ∃ n, v = .int .i8 n ∧ -128 ≤ n ∧ n < 128 := by
  have hS := Tryz.underlying110
  simp only [Value.okWide, hS] at h
  obtain ⟨n, rfl, hn⟩ := cell_intT hS h
  simp only [IntKind.has, IntKind.min, IntKind.max, IntKind.signed, IntKind.bits] at hn
  refine ⟨n, rfl, ?_, ?_⟩ <;> simp at hn <;> omega
end Go.Proofs.YtdeplhihcifmeaaGreatDoor
