/- Helpers: DKnP4. -/
import Derived.Test.YtdeplhihcifmeaaGreatDoorDKnP3
import Derived.Deep.RegionHeld3
import Derived.ProofKit
import Derived.Deep.Slices
import Derived.Deep.Fields
/- The law of NettingKnots. -/
namespace Go.Proofs.YtdeplhihcifmeaaGreatDoor
open Go.RowKit Go.Shelf Ck

/-- A box of five numbers. -/
def Five (w : World) (b : Nat) (cs : Array Value) : Prop := b < w.heap.size ∧ w.heap[b]? = some (.cells cs 67 (0, 0))
theorem Five.below {w w' : World} {b : Nat} {cs : Array Value} (h : Five w b cs) (hb : Below w.heap.size w w') : Five w' b cs := ⟨Nat.lt_of_lt_of_le h.1 hb.size, (hb.block _ h.1).trans h.2⟩
theorem Five.at5 {w : World} {g : Nat} {a b c d e : Value} (h : Five w g #[a, b, c, d, e]) : w.cell? ⟨g, 0, none⟩ = some a ∧ w.cell? ⟨g, 1, none⟩ = some b ∧ w.cell? ⟨g, 2, none⟩ = some c ∧ w.cell? ⟨g, 3, none⟩ = some d ∧ w.cell? ⟨g, 4, none⟩ = some e := by
  obtain ⟨c0, c1, c2, c3, c4, -⟩ := five_of_block h.2
  exact ⟨c0, c1, c2, c3, c4⟩
set_option maxHeartbeats 16000000 in
set_option maxRecDepth 100000 in
theorem lawKnL (A : Option Addr) (c : Nat) (l : List Bar) (x y : Int) (w : World) (hL : LaidLen w) (hO : OKS w A c l) (hS : ∀ W : World, Calls Tryz.prog 16 #[.slice A l.length c, .int .i64 40] W fun e w' => e = .returned (.bool false) ∧ W = w') :
    Calls Tryz.prog 6 #[.slice A l.length c, .agg #[.int .i64 x, .int .i64 y]] w fun e w' => e = .returned (.bool true) ∧ Below w.heap.size w w' := by
  have ex0 : ∀ (a b : Value) (w : World), (Instr.extract (.tuple #[a, b]) 0).run Tryz.prog w = .ok a w := fun _ _ _ => by kernel_rfl
  have ex1 : ∀ (a b : Value) (w : World), (Instr.extract (.tuple #[a, b]) 1).run Tryz.prog w = .ok b w := fun _ _ _ => by kernel_rfl
  obtain ⟨w1, hw1, z0, z1, hb1, hz1⟩ := box2 w (.int .i64 x) (.int .i64 y) 26
  have Q : ∀ {W : World}, Below w1.heap.size w1 W → W.cell? ⟨w.heap.size, 0, none⟩ = some (.int .i64 x) ∧ W.cell? ⟨w.heap.size, 1, none⟩ = some (.int .i64 y) := fun hb => ⟨(hb.cell (p := ⟨w.heap.size, 0, none⟩) hz1).trans z0, (hb.cell (p := ⟨w.heap.size, 1, none⟩) hz1).trans z1⟩
  have HW1 := Lib.hid hw1
  have HLL := Lib.hid hL
  have HO := Lib.hid hO
  have fin : ∀ {W : World}, Below w1.heap.size w1 W → Below w.heap.size w W := fun hb => hb1.trans (hb.mono hb1.size)
  have BW := Below.refl w1.heap.size w1
  clear hw1 hL hO z0 z1
  go_enter Tryz.func6, Tryz.ntmps6
  go_wp2_with fail
  rw [← HW1.out]
  go_wp2_with fail
  refine (awake1 _ (HLL.out.below (fin BW) HLL.out.lt)).mono ?_
  rintro e w11 ⟨rfl, hb11⟩
  replace BW := hbT BW hb11
  clear hb11
  go_wp2_with fail
  refine (hS _).mono ?_
  rintro e w12 ⟨rfl, rfl⟩
  go_wp2_with fail
  refine (awake1 _ (HLL.out.below (fin BW) HLL.out.lt)).mono ?_
  rintro e w13 ⟨rfl, hb13⟩
  replace BW := hbT BW hb13
  clear hb13
  go_wp2
  go_ret
  exact ⟨rfl, fin BW⟩
set_option maxHeartbeats 16000000 in
set_option maxRecDepth 100000 in
theorem lawKnB (A : Option Addr) (c : Nat) (l : List Bar) (x y : Int) (w : World) (hL : LaidLen w) (hO : OKS w A c l) (hS : ∀ W : World, Calls Tryz.prog 16 #[.slice A l.length c, .int .i64 40] W fun e w' => e = .returned (.bool true) ∧ W = w') (hlm : l.length ≤ 4098) (E KE0 : Int) (hE : netE l = E) (hne : E ≠ 0) (hK : knotE x y = KE0) :
    Calls Tryz.prog 6 #[.slice A l.length c, .agg #[.int .i64 x, .int .i64 y]] w fun e w' => e = .returned (.bool true) ∧ Below w.heap.size w w' := by
  have ex0 : ∀ (a b : Value) (w : World), (Instr.extract (.tuple #[a, b]) 0).run Tryz.prog w = .ok a w := fun _ _ _ => by kernel_rfl
  have ex1 : ∀ (a b : Value) (w : World), (Instr.extract (.tuple #[a, b]) 1).run Tryz.prog w = .ok b w := fun _ _ _ => by kernel_rfl
  obtain ⟨w1, hw1, z0, z1, hb1, hz1⟩ := box2 w (.int .i64 x) (.int .i64 y) 26
  have Q : ∀ {W : World}, Below w1.heap.size w1 W → W.cell? ⟨w.heap.size, 0, none⟩ = some (.int .i64 x) ∧ W.cell? ⟨w.heap.size, 1, none⟩ = some (.int .i64 y) := fun hb => ⟨(hb.cell (p := ⟨w.heap.size, 0, none⟩) hz1).trans z0, (hb.cell (p := ⟨w.heap.size, 1, none⟩) hz1).trans z1⟩
  have HW1 := Lib.hid hw1
  have HLL := Lib.hid hL
  have HO := Lib.hid hO
  have fin : ∀ {W : World}, Below w1.heap.size w1 W → Below w.heap.size w W := fun hb => hb1.trans (hb.mono hb1.size)
  have BW := Below.refl w1.heap.size w1
  have HS := Lib.hid hS
  have HE := Lib.hid hE
  have HNE := Lib.hid hne
  have HKE := Lib.hid hK
  have en0 : (E != 0) = true := by rw [bne_iff_ne]; exact hne
  have q5 := eqFive 0 0 0 0 0
  have HF := Lib.hid (show firstE [E, KE0] = E by simp only [firstE]; rw [if_neg hne])
  clear hS hE hne hK
  clear hw1 hL hO z0 z1
  go_enter Tryz.func6, Tryz.ntmps6
  go_wp2_with fail
  rw [← HW1.out]
  go_wp2_with fail
  refine (awake1 _ (HLL.out.below (fin BW) HLL.out.lt)).mono ?_
  rintro e w11 ⟨rfl, hb11⟩
  replace BW := hbT BW hb11
  clear hb11
  go_wp2_with fail
  refine (HS.out _).mono ?_
  rintro e w12 ⟨rfl, rfl⟩
  go_wp2_with fail
  refine (lwCopied A c l _ hlm (HO.out.below (fin BW))).mono ?_
  rintro e w13 ⟨a13, c13, rfl, o13, hb13⟩
  replace BW := hbT BW hb13
  have O13 := Lib.hid o13
  clear o13 hb13
  go_wp2_with fail
  refine (netKnotsBad a13 c13 l E _ O13.out HE.out HNE.out).mono ?_
  rintro e w14 ⟨rfl, hb14⟩
  replace BW := hbT BW hb14
  replace O13 := Lib.hid (O13.out.below hb14)
  clear hb14
  clear O13
  go_wp2_with fail
  refine wp_region_held_drew (S := (fun w' => Below w14.heap.size w14 w')) (by kernel_rfl) ?_ (fun hHeld => ?_)
  · exact below_drew (Below.refl _ _)
  refine wpAnyH_take (i := 0) (oi := _) (v := ?vg10) rfl (by kernel_rfl) (by kernel_rfl) (by kernel_rfl) (fun _ _ _ h => h) (Or.inl ⟨by rfl, ?hyg10⟩) (by assumption) ?restg10
  case hyg10 => (intro w hSw; (try dsimp only at hSw); go_simp; first | done | rfl)
  try simp only [List.getElem_toArray, List.getElem_cons_succ, List.getElem_cons_zero, Act.put, List.setIfInBounds_toArray, List.set_cons_zero, List.set_cons_succ]
  refine wpAnyH_take (i := 2) (oi := _) (v := ?vg12) rfl (by kernel_rfl) (by kernel_rfl) (by kernel_rfl) (fun _ _ _ h => h) (Or.inl ⟨by rfl, ?hyg12⟩) (by assumption) ?restg12
  case hyg12 => (intro w hSw; (try dsimp only at hSw); obtain ⟨s0, s1⟩ := Q (hbT BW hSw); go_simp; first | done | rfl)
  try simp only [List.getElem_toArray, List.getElem_cons_succ, List.getElem_cons_zero, Act.put, List.setIfInBounds_toArray, List.set_cons_zero, List.set_cons_succ]
  refine wpAnyH_ready (rs := [1]) (by kernel_rfl) (by simp) ?_
  refine AllReadyH.cons (o := _) rfl (fun K hK => ?_) AllReadyH.nil
  simp only [List.getElem_toArray, List.getElem_cons_succ, List.getElem_cons_zero]
  go_simp
  go_at_call 21
  refine (lwCopied A c l _ hlm (HO.out.below (fin (hbT BW (by assumption))))).mono ?_
  rintro e w' ⟨ax, cx, rfl, ox, hbq⟩
  refine hK.out _ _ (hbT (by assumption) hbq) (fun hHeld => ?_)
  clear hK K
  try simp only [List.getElem_toArray, List.getElem_cons_succ, List.getElem_cons_zero, Act.put, List.setIfInBounds_toArray, List.set_cons_zero, List.set_cons_succ]
  refine wpAnyH_ready (rs := [3]) (by kernel_rfl) (by simp) ?_
  refine AllReadyH.cons (o := _) rfl (fun K hK => ?_) AllReadyH.nil
  simp only [List.getElem_toArray, List.getElem_cons_succ, List.getElem_cons_zero]
  go_simp
  go_at_call 42
  refine (netDegreeBad ax cx l x y E KE0 E _ ox HE.out HKE.out HF.out HNE.out).mono ?_
  rintro e w15 ⟨rfl, hbq⟩
  refine hK.out _ _ (hbT (by assumption) hbq) (fun hHeld => ?_)
  clear hK K
  try simp only [List.getElem_toArray, List.getElem_cons_succ, List.getElem_cons_zero, Act.put, List.setIfInBounds_toArray, List.set_cons_zero, List.set_cons_succ]
  refine wpAnyH_take (i := 4) (oi := _) (v := ?vg14) rfl (by kernel_rfl) (by kernel_rfl) (by kernel_rfl) (fun _ _ _ h => h) (Or.inl ⟨by rfl, ?hyg14⟩) (by assumption) ?restg14
  case hyg14 => (intro w hSw; (try dsimp only at hSw); go_simp; first | done | rfl)
  try simp only [List.getElem_toArray, List.getElem_cons_succ, List.getElem_cons_zero, Act.put, List.setIfInBounds_toArray, List.set_cons_zero, List.set_cons_succ]
  refine wpAnyH_take (i := 5) (oi := _) (v := ?vg15) rfl (by kernel_rfl) (by kernel_rfl) (by kernel_rfl) (fun _ _ _ h => h) (Or.inl ⟨by rfl, ?hyg15⟩) (by assumption) ?restg15
  case hyg15 => (intro w hSw; (try dsimp only at hSw); go_simp; first | done | rfl)
  try simp only [List.getElem_toArray, List.getElem_cons_succ, List.getElem_cons_zero, Act.put, List.setIfInBounds_toArray, List.set_cons_zero, List.set_cons_succ]
  refine wpAnyH_take (i := 6) (oi := _) (v := ?vg16) rfl (by kernel_rfl) (by kernel_rfl) (by kernel_rfl) (fun _ _ _ h => h) (Or.inl ⟨by rfl, ?hyg16⟩) (by assumption) ?restg16
  case hyg16 => (intro w hSw; (try dsimp only at hSw); go_simp; first | done | rfl)
  try simp only [List.getElem_toArray, List.getElem_cons_succ, List.getElem_cons_zero, Act.put, List.setIfInBounds_toArray, List.set_cons_zero, List.set_cons_succ]
  refine wpAnyH_take (i := 7) (oi := _) (v := ?vg17) rfl (by kernel_rfl) (by kernel_rfl) (by kernel_rfl) (fun _ _ _ h => h) (Or.inl ⟨by rfl, ?hyg17⟩) (by assumption) ?restg17
  case hyg17 => (intro w hSw; (try dsimp only at hSw); go_simp; first | done | rfl)
  try simp only [List.getElem_toArray, List.getElem_cons_succ, List.getElem_cons_zero, Act.put, List.setIfInBounds_toArray, List.set_cons_zero, List.set_cons_succ]
  refine wpAnyH_take (i := 8) (oi := _) (v := ?vg18) rfl (by kernel_rfl) (by kernel_rfl) (by kernel_rfl) (fun _ _ _ h => h) (Or.inl ⟨by rfl, ?hyg18⟩) (by assumption) ?restg18
  case hyg18 => (intro w hSw; (try dsimp only at hSw); go_simp; first | done | rfl)
  try simp only [List.getElem_toArray, List.getElem_cons_succ, List.getElem_cons_zero, Act.put, List.setIfInBounds_toArray, List.set_cons_zero, List.set_cons_succ]
  refine wpAnyH_done (by kernel_rfl) ?_ _
  replace BW := hbT BW hHeld
  clear ox
  go_wp2_with fail
  refine (lwCopied A c l _ hlm (HO.out.below (fin BW))).mono ?_
  rintro e w16 ⟨a16, c16, rfl, o16, hb16⟩
  replace BW := hbT BW hb16
  have O16 := Lib.hid o16
  clear o16 hb16
  go_wp2_with fail
  refine (netLegsBad a16 c16 l E _ O16.out HE.out HNE.out).mono ?_
  rintro e w17 ⟨rfl, hb17⟩
  replace BW := hbT BW hb17
  replace O16 := Lib.hid (O16.out.below hb17)
  clear hb17
  clear O16
  go_wp2_with fail
  obtain ⟨w18, hw, LG, hbq, LZ⟩ := box5H w17 (.int .i64 0) (.int .i64 0) (.int .i64 0) (.int .i64 0) (.int .i64 0) 67
  rw [← hw]
  have LF := Lib.hid (show Five w18 w17.heap.size #[.int .i64 0, .int .i64 0, .int .i64 0, .int .i64 0, .int .i64 0] from ⟨by omega, LG⟩)
  replace BW := hbT BW hbq
  clear hw LZ LG hbq
  generalize w17.heap.size = BL at *
  go_wp2_with fail
  refine (lwCopied A c l _ hlm (HO.out.below (fin BW))).mono ?_
  rintro e w19 ⟨a19, c19, rfl, o19, hb19⟩
  replace BW := hbT BW hb19
  replace LF := Lib.hid (LF.out.below hb19)
  have O19 := Lib.hid o19
  clear o19 hb19
  go_wp2_with fail
  refine (netMeshesBad a19 c19 l E _ O19.out HE.out HNE.out).mono ?_
  rintro e w20 ⟨rfl, hb20⟩
  replace BW := hbT BW hb20
  replace LF := Lib.hid (LF.out.below hb20)
  replace O19 := Lib.hid (O19.out.below hb20)
  clear hb20
  clear O19
  go_wp2_with fail
  refine (refCheckNetA A c l _ (HO.out.below (fin BW))).mono ?_
  rintro e w21 ⟨rfl, hb21⟩
  rw [HE.out]
  replace BW := hbT BW hb21
  replace LF := Lib.hid (LF.out.below hb21)
  clear hb21
  obtain ⟨t0, t1, t2, t3, t4⟩ := LF.out.at5
  go_wp2
  go_ret
  exact ⟨rfl, fin BW⟩
set_option maxHeartbeats 16000000 in
set_option maxRecDepth 100000 in
theorem lawKnO (A : Option Addr) (c : Nat) (l : List Bar) (x y : Int) (w : World) (hL : LaidLen w) (hO : OKS w A c l) (hS : ∀ W : World, Calls Tryz.prog 16 #[.slice A l.length c, .int .i64 40] W fun e w' => e = .returned (.bool true) ∧ W = w') (hl : l.length ≤ 40) (hN : Net l) (ks ms : List Knot) (n0 n1 n2 n3 n4 : Int) (hk : knotsL l = ks) (hm : meshK (meshL l l) = ms) (hv : legV l = #[.int .i64 n0, .int .i64 n1, .int .i64 n2, .int .i64 n3, .int .i64 n4]) (d : Nat) (hd : (ends l).count ⟨x, y⟩ = d) (hK : knotE x y = 0) :
    Calls Tryz.prog 6 #[.slice A l.length c, .agg #[.int .i64 x, .int .i64 y]] w fun e w' => e = .returned (.bool true) ∧ Below w.heap.size w w' := by
  have ex0 : ∀ (a b : Value) (w : World), (Instr.extract (.tuple #[a, b]) 0).run Tryz.prog w = .ok a w := fun _ _ _ => by kernel_rfl
  have ex1 : ∀ (a b : Value) (w : World), (Instr.extract (.tuple #[a, b]) 1).run Tryz.prog w = .ok b w := fun _ _ _ => by kernel_rfl
  obtain ⟨w1, hw1, z0, z1, hb1, hz1⟩ := box2 w (.int .i64 x) (.int .i64 y) 26
  have Q : ∀ {W : World}, Below w1.heap.size w1 W → W.cell? ⟨w.heap.size, 0, none⟩ = some (.int .i64 x) ∧ W.cell? ⟨w.heap.size, 1, none⟩ = some (.int .i64 y) := fun hb => ⟨(hb.cell (p := ⟨w.heap.size, 0, none⟩) hz1).trans z0, (hb.cell (p := ⟨w.heap.size, 1, none⟩) hz1).trans z1⟩
  have HW1 := Lib.hid hw1
  have HLL := Lib.hid hL
  have HO := Lib.hid hO
  have fin : ∀ {W : World}, Below w1.heap.size w1 W → Below w.heap.size w W := fun hb => hb1.trans (hb.mono hb1.size)
  have BW := Below.refl w1.heap.size w1
  have HN := Lib.hid hN
  have HK := Lib.hid hk
  have HM := Lib.hid hm
  have HV := Lib.hid hv
  have HS := Lib.hid hS
  have HKE := Lib.hid hK
  have HD := Lib.hid hd
  have hlm : l.length ≤ 4098 := by omega
  have HE := Lib.hid ((netE_zero l).2 ⟨by omega, hN⟩)
  have HKL := Lib.hid (show ks.length ≤ 10000 by rw [← hk]; have := knotsL_le l; omega)
  have HML := Lib.hid (show ms.length ≤ 10000 by rw [← hm, meshK_length]; have := meshL_le l l.length; rw [List.take_length] at this; omega)
  have q5 := eqFive n0 n1 n2 n3 n4
  clear hN hk hm hv hS hK hd
  clear hw1 hL hO z0 z1
  go_enter Tryz.func6, Tryz.ntmps6
  go_wp2_with fail
  rw [← HW1.out]
  go_wp2_with fail
  refine (awake1 _ (HLL.out.below (fin BW) HLL.out.lt)).mono ?_
  rintro e w11 ⟨rfl, hb11⟩
  replace BW := hbT BW hb11
  clear hb11
  go_wp2_with fail
  refine (HS.out _).mono ?_
  rintro e w12 ⟨rfl, rfl⟩
  go_wp2_with fail
  refine (lwCopied A c l _ hlm (HO.out.below (fin BW))).mono ?_
  rintro e w13 ⟨a13, c13, rfl, o13, hb13⟩
  replace BW := hbT BW hb13
  have O13 := Lib.hid o13
  clear o13 hb13
  go_wp2_with fail
  refine (knotsN a13 c13 l ks _ HK.out (by omega) HN.out O13.out).mono ?_
  rintro e w14 ⟨a14, c14, rfl, o14, hb14⟩
  replace BW := hbT BW hb14
  replace O13 := Lib.hid (O13.out.below hb14)
  have O14 := Lib.hid o14
  clear o14 hb14
  clear O13
  go_wp2_with fail
  refine wp_region_held_drew (S := (fun w' => Below w14.heap.size w14 w')) (by kernel_rfl) ?_ (fun hHeld => ?_)
  · exact below_drew (Below.refl _ _)
  refine wpAnyH_take (i := 0) (oi := _) (v := ?vg10) rfl (by kernel_rfl) (by kernel_rfl) (by kernel_rfl) (fun _ _ _ h => h) (Or.inl ⟨by rfl, ?hyg10⟩) (by assumption) ?restg10
  case hyg10 => (intro w hSw; (try dsimp only at hSw); go_simp; first | done | rfl)
  try simp only [List.getElem_toArray, List.getElem_cons_succ, List.getElem_cons_zero, Act.put, List.setIfInBounds_toArray, List.set_cons_zero, List.set_cons_succ]
  refine wpAnyH_take (i := 2) (oi := _) (v := ?vg12) rfl (by kernel_rfl) (by kernel_rfl) (by kernel_rfl) (fun _ _ _ h => h) (Or.inl ⟨by rfl, ?hyg12⟩) (by assumption) ?restg12
  case hyg12 => (intro w hSw; (try dsimp only at hSw); obtain ⟨s0, s1⟩ := Q (hbT BW hSw); go_simp; first | done | rfl)
  try simp only [List.getElem_toArray, List.getElem_cons_succ, List.getElem_cons_zero, Act.put, List.setIfInBounds_toArray, List.set_cons_zero, List.set_cons_succ]
  refine wpAnyH_ready (rs := [1]) (by kernel_rfl) (by simp) ?_
  refine AllReadyH.cons (o := _) rfl (fun K hK => ?_) AllReadyH.nil
  simp only [List.getElem_toArray, List.getElem_cons_succ, List.getElem_cons_zero]
  go_simp
  go_at_call 21
  refine (lwCopied A c l _ hlm (HO.out.below (fin (hbT BW (by assumption))))).mono ?_
  rintro e w' ⟨ax, cx, rfl, ox, hbq⟩
  refine hK.out _ _ (hbT (by assumption) hbq) (fun hHeld => ?_)
  clear hK K
  try simp only [List.getElem_toArray, List.getElem_cons_succ, List.getElem_cons_zero, Act.put, List.setIfInBounds_toArray, List.set_cons_zero, List.set_cons_succ]
  refine wpAnyH_ready (rs := [3]) (by kernel_rfl) (by simp) ?_
  refine AllReadyH.cons (o := _) rfl (fun K hK => ?_) AllReadyH.nil
  simp only [List.getElem_toArray, List.getElem_cons_succ, List.getElem_cons_zero]
  go_simp
  go_at_call 42
  refine (netDegreeOk ax cx l x y d _ HD.out (by omega) HN.out HKE.out ox).mono ?_
  rintro e w15 ⟨rfl, hbq⟩
  refine hK.out _ _ (hbT (by assumption) hbq) (fun hHeld => ?_)
  clear hK K
  try simp only [List.getElem_toArray, List.getElem_cons_succ, List.getElem_cons_zero, Act.put, List.setIfInBounds_toArray, List.set_cons_zero, List.set_cons_succ]
  refine wpAnyH_take (i := 4) (oi := _) (v := ?vg14) rfl (by kernel_rfl) (by kernel_rfl) (by kernel_rfl) (fun _ _ _ h => h) (Or.inl ⟨by rfl, ?hyg14⟩) (by assumption) ?restg14
  case hyg14 => (intro w hSw; (try dsimp only at hSw); go_simp; first | done | rfl)
  try simp only [List.getElem_toArray, List.getElem_cons_succ, List.getElem_cons_zero, Act.put, List.setIfInBounds_toArray, List.set_cons_zero, List.set_cons_succ]
  refine wpAnyH_take (i := 5) (oi := _) (v := ?vg15) rfl (by kernel_rfl) (by kernel_rfl) (by kernel_rfl) (fun _ _ _ h => h) (Or.inl ⟨by rfl, ?hyg15⟩) (by assumption) ?restg15
  case hyg15 => (intro w hSw; (try dsimp only at hSw); go_simp; first | done | rfl)
  try simp only [List.getElem_toArray, List.getElem_cons_succ, List.getElem_cons_zero, Act.put, List.setIfInBounds_toArray, List.set_cons_zero, List.set_cons_succ]
  refine wpAnyH_take (i := 6) (oi := _) (v := ?vg16) rfl (by kernel_rfl) (by kernel_rfl) (by kernel_rfl) (fun _ _ _ h => h) (Or.inl ⟨by rfl, ?hyg16⟩) (by assumption) ?restg16
  case hyg16 => (intro w hSw; (try dsimp only at hSw); go_simp; first | done | rfl)
  try simp only [List.getElem_toArray, List.getElem_cons_succ, List.getElem_cons_zero, Act.put, List.setIfInBounds_toArray, List.set_cons_zero, List.set_cons_succ]
  refine wpAnyH_take (i := 7) (oi := _) (v := ?vg17) rfl (by kernel_rfl) (by kernel_rfl) (by kernel_rfl) (fun _ _ _ h => h) (Or.inl ⟨by rfl, ?hyg17⟩) (by assumption) ?restg17
  case hyg17 => (intro w hSw; (try dsimp only at hSw); go_simp; first | done | rfl)
  try simp only [List.getElem_toArray, List.getElem_cons_succ, List.getElem_cons_zero, Act.put, List.setIfInBounds_toArray, List.set_cons_zero, List.set_cons_succ]
  refine wpAnyH_take (i := 8) (oi := _) (v := ?vg18) rfl (by kernel_rfl) (by kernel_rfl) (by kernel_rfl) (fun _ _ _ h => h) (Or.inl ⟨by rfl, ?hyg18⟩) (by assumption) ?restg18
  case hyg18 => (intro w hSw; (try dsimp only at hSw); go_simp; first | done | rfl)
  try simp only [List.getElem_toArray, List.getElem_cons_succ, List.getElem_cons_zero, Act.put, List.setIfInBounds_toArray, List.set_cons_zero, List.set_cons_succ]
  refine wpAnyH_done (by kernel_rfl) ?_ _
  replace BW := hbT BW hHeld
  replace O14 := Lib.hid (O14.out.below hHeld)
  clear ox
  go_wp2_with fail
  refine (lwCopied A c l _ hlm (HO.out.below (fin BW))).mono ?_
  rintro e w16 ⟨a16, c16, rfl, o16, hb16⟩
  replace BW := hbT BW hb16
  replace O14 := Lib.hid (O14.out.below hb16)
  have O16 := Lib.hid o16
  clear o16 hb16
  go_wp2_with fail
  refine (legsN a16 c16 l _ n0 n1 n2 n3 n4 HV.out (by omega) HN.out O16.out).mono ?_
  rintro e w17 ⟨rfl, hb17⟩
  replace BW := hbT BW hb17
  replace O14 := Lib.hid (O14.out.below hb17)
  replace O16 := Lib.hid (O16.out.below hb17)
  clear hb17
  clear O16
  go_wp2_with fail
  obtain ⟨w18, hw, LG, hbq, LZ⟩ := box5H w17 (.int .i64 n0) (.int .i64 n1) (.int .i64 n2) (.int .i64 n3) (.int .i64 n4) 67
  rw [← hw]
  have LF := Lib.hid (show Five w18 w17.heap.size #[.int .i64 n0, .int .i64 n1, .int .i64 n2, .int .i64 n3, .int .i64 n4] from ⟨by omega, LG⟩)
  replace BW := hbT BW hbq
  replace O14 := Lib.hid (O14.out.below hbq)
  clear hw LZ LG hbq
  generalize w17.heap.size = BL at *
  go_wp2_with fail
  refine (lwCopied A c l _ hlm (HO.out.below (fin BW))).mono ?_
  rintro e w19 ⟨a19, c19, rfl, o19, hb19⟩
  replace BW := hbT BW hb19
  replace O14 := Lib.hid (O14.out.below hb19)
  replace LF := Lib.hid (LF.out.below hb19)
  have O19 := Lib.hid o19
  clear o19 hb19
  go_wp2_with fail
  refine (meshesN a19 c19 l ms _ HM.out (by omega) HN.out O19.out).mono ?_
  rintro e w20 ⟨a20, c20, rfl, o20, hb20⟩
  replace BW := hbT BW hb20
  replace O14 := Lib.hid (O14.out.below hb20)
  replace LF := Lib.hid (LF.out.below hb20)
  replace O19 := Lib.hid (O19.out.below hb20)
  have O20 := Lib.hid o20
  clear o20 hb20
  clear O19
  go_wp2_with fail
  refine (refCheckNetA A c l _ (HO.out.below (fin BW))).mono ?_
  rintro e w21 ⟨rfl, hb21⟩
  rw [HE.out]
  replace BW := hbT BW hb21
  replace O14 := Lib.hid (O14.out.below hb21)
  replace LF := Lib.hid (LF.out.below hb21)
  replace O20 := Lib.hid (O20.out.below hb21)
  clear hb21
  obtain ⟨s0, s1⟩ := Q BW
  go_wp2_with fail
  refine (refCheckKnot x y _).mono ?_
  rintro e w22 ⟨rfl, hb22⟩
  rw [HKE.out]
  replace BW := hbT BW hb22
  replace O14 := Lib.hid (O14.out.below hb22)
  replace LF := Lib.hid (LF.out.below hb22)
  replace O20 := Lib.hid (O20.out.below hb22)
  clear hb22
  clear s0 s1
  obtain ⟨s0, s1⟩ := Q BW
  go_wp2_with fail
  refine (refDegree A c l x y d _ HD.out (by omega) HN.out.1 (HO.out.below (fin BW))).mono ?_
  rintro e w23 ⟨rfl, hb23⟩
  replace BW := hbT BW hb23
  replace O14 := Lib.hid (O14.out.below hb23)
  replace LF := Lib.hid (LF.out.below hb23)
  replace O20 := Lib.hid (O20.out.below hb23)
  clear hb23
  clear s0 s1
  go_wp2_with fail
  refine wp_region_held_drew (S := (fun w' => Below w23.heap.size w23 w')) (by kernel_rfl) ?_ (fun hHeld => ?_)
  · exact below_drew (Below.refl _ _)
  refine wpAnyH_take (i := 0) (oi := _) (v := ?ve0) rfl (by kernel_rfl) (by kernel_rfl) (by kernel_rfl) (fun _ _ _ h => h) (Or.inl ⟨by rfl, ?hye0⟩) (by assumption) ?reste0
  case hye0 => (intro w hSw; (try dsimp only at hSw); go_simp; first | done | rfl)
  try simp only [List.getElem_toArray, List.getElem_cons_succ, List.getElem_cons_zero, Act.put, List.setIfInBounds_toArray, List.set_cons_zero, List.set_cons_succ]
  refine wpAnyH_take (i := 1) (oi := _) (v := ?ve1) rfl (by kernel_rfl) (by kernel_rfl) (by kernel_rfl) (fun _ _ _ h => h) (Or.inl ⟨by rfl, ?hye1⟩) (by assumption) ?reste1
  case hye1 => (intro w hSw; (try dsimp only at hSw); go_simp; first | done | rfl)
  try simp only [List.getElem_toArray, List.getElem_cons_succ, List.getElem_cons_zero, Act.put, List.setIfInBounds_toArray, List.set_cons_zero, List.set_cons_succ]
  refine wpAnyH_take (i := 2) (oi := _) (v := ?ve2) rfl (by kernel_rfl) (by kernel_rfl) (by kernel_rfl) (fun _ _ _ h => h) (Or.inl ⟨by rfl, ?hye2⟩) (by assumption) ?reste2
  case hye2 => (intro w hSw; (try dsimp only at hSw); go_simp; first | done | rfl)
  try simp only [List.getElem_toArray, List.getElem_cons_succ, List.getElem_cons_zero, Act.put, List.setIfInBounds_toArray, List.set_cons_zero, List.set_cons_succ]
  refine wpAnyH_take (i := 3) (oi := _) (v := ?ve3) rfl (by kernel_rfl) (by kernel_rfl) (by kernel_rfl) (fun _ _ _ h => h) (Or.inl ⟨by rfl, ?hye3⟩) (by assumption) ?reste3
  case hye3 => (intro w hSw; (try dsimp only at hSw); go_simp; first | done | rfl)
  try simp only [List.getElem_toArray, List.getElem_cons_succ, List.getElem_cons_zero, Act.put, List.setIfInBounds_toArray, List.set_cons_zero, List.set_cons_succ]
  refine wpAnyH_take (i := 4) (oi := _) (v := ?ve4) rfl (by kernel_rfl) (by kernel_rfl) (by kernel_rfl) (fun _ _ _ h => h) (Or.inl ⟨by rfl, ?hye4⟩) (by assumption) ?reste4
  case hye4 => (intro w hSw; (try dsimp only at hSw); go_simp; first | done | rfl)
  try simp only [List.getElem_toArray, List.getElem_cons_succ, List.getElem_cons_zero, Act.put, List.setIfInBounds_toArray, List.set_cons_zero, List.set_cons_succ]
  refine wpAnyH_take (i := 5) (oi := _) (v := ?ve5) rfl (by kernel_rfl) (by kernel_rfl) (by kernel_rfl) (fun _ _ _ h => h) (Or.inl ⟨by rfl, ?hye5⟩) (by assumption) ?reste5
  case hye5 => (intro w hSw; (try dsimp only at hSw); go_simp; first | done | rfl)
  try simp only [List.getElem_toArray, List.getElem_cons_succ, List.getElem_cons_zero, Act.put, List.setIfInBounds_toArray, List.set_cons_zero, List.set_cons_succ]
  refine wpAnyH_take (i := 6) (oi := _) (v := ?ve6) rfl (by kernel_rfl) (by kernel_rfl) (by kernel_rfl) (fun _ _ _ h => h) (Or.inl ⟨by rfl, ?hye6⟩) (by assumption) ?reste6
  case hye6 => (intro w hSw; (try dsimp only at hSw); go_simp; first | done | rfl)
  try simp only [List.getElem_toArray, List.getElem_cons_succ, List.getElem_cons_zero, Act.put, List.setIfInBounds_toArray, List.set_cons_zero, List.set_cons_succ]
  refine wpAnyH_take (i := 7) (oi := _) (v := ?ve7) rfl (by kernel_rfl) (by kernel_rfl) (by kernel_rfl) (fun _ _ _ h => h) (Or.inl ⟨by rfl, ?hye7⟩) (by assumption) ?reste7
  case hye7 => (intro w hSw; (try dsimp only at hSw); go_simp; first | done | rfl)
  try simp only [List.getElem_toArray, List.getElem_cons_succ, List.getElem_cons_zero, Act.put, List.setIfInBounds_toArray, List.set_cons_zero, List.set_cons_succ]
  refine wpAnyH_take (i := 8) (oi := _) (v := ?ve8) rfl (by kernel_rfl) (by kernel_rfl) (by kernel_rfl) (fun _ _ _ h => h) (Or.inl ⟨by rfl, ?hye8⟩) (by assumption) ?reste8
  case hye8 => (intro w hSw; (try dsimp only at hSw); go_simp; first | done | rfl)
  try simp only [List.getElem_toArray, List.getElem_cons_succ, List.getElem_cons_zero, Act.put, List.setIfInBounds_toArray, List.set_cons_zero, List.set_cons_succ]
  refine wpAnyH_ready (rs := [9]) (by kernel_rfl) (by simp) ?_
  refine AllReadyH.cons (o := _) rfl (fun K hK => ?_) AllReadyH.nil
  simp only [List.getElem_toArray, List.getElem_cons_succ, List.getElem_cons_zero]
  rw [if_pos (by rfl)]
  go_simp
  go_at_call 47
  refine (knotsR A c l ks _ HK.out (by omega) HN.out (HO.out.below (fin (hbT BW (by assumption))))).mono ?_
  rintro e wa ⟨ak, ck, rfl, ok, hbq⟩
  refine hK.out _ _ (hbT (by assumption) hbq) (fun hHeld => ?_)
  clear hK K
  try simp only [List.getElem_toArray, List.getElem_cons_succ, List.getElem_cons_zero, Act.put, List.setIfInBounds_toArray, List.set_cons_zero, List.set_cons_succ]
  refine wpAnyH_ready (rs := [10]) (by kernel_rfl) (by simp) ?_
  refine AllReadyH.cons (o := _) rfl (fun K hK => ?_) AllReadyH.nil
  simp only [List.getElem_toArray, List.getElem_cons_succ, List.getElem_cons_zero]
  rw [if_pos (by rfl)]
  go_simp
  go_at_call 46
  refine (refSameKnots a14 ak c14 ck ks _ HKL.out (O14.out.below hHeld).2.2 ok.2.2).mono ?_
  clear ok
  rintro e wb ⟨rfl, hbq⟩
  refine hK.out _ _ (hbT (by assumption) hbq) (fun hHeld => ?_)
  clear hK K
  try simp only [List.getElem_toArray, List.getElem_cons_succ, List.getElem_cons_zero, Act.put, List.setIfInBounds_toArray, List.set_cons_zero, List.set_cons_succ]
  refine wpAnyH_take (i := 11) (oi := _) (v := ?ve11) rfl (by kernel_rfl) (by kernel_rfl) (by kernel_rfl) (fun _ _ _ h => h) (Or.inl ⟨by rfl, ?hye11⟩) (by assumption) ?reste11
  case hye11 => (intro w hSw; (try dsimp only at hSw); go_simp; first | done | rfl)
  try simp only [List.getElem_toArray, List.getElem_cons_succ, List.getElem_cons_zero, Act.put, List.setIfInBounds_toArray, List.set_cons_zero, List.set_cons_succ]
  refine wpAnyH_take (i := 12) (oi := _) (v := ?ve12) rfl (by kernel_rfl) (by kernel_rfl) (by kernel_rfl) (fun _ _ _ h => h) (Or.inl ⟨by rfl, ?hye12⟩) (by assumption) ?reste12
  case hye12 => (intro w hSw; (try dsimp only at hSw); go_simp; first | done | rfl)
  try simp only [List.getElem_toArray, List.getElem_cons_succ, List.getElem_cons_zero, Act.put, List.setIfInBounds_toArray, List.set_cons_zero, List.set_cons_succ]
  refine wpAnyH_take (i := 13) (oi := _) (v := ?ve13) rfl (by kernel_rfl) (by kernel_rfl) (by kernel_rfl) (fun _ _ _ h => h) (Or.inl ⟨by rfl, ?hye13⟩) (by assumption) ?reste13
  case hye13 => (intro w hSw; (try dsimp only at hSw); obtain ⟨t0, t1, t2, t3, t4⟩ := (LF.out.below hSw).at5; go_simp; first | done | rfl)
  try simp only [List.getElem_toArray, List.getElem_cons_succ, List.getElem_cons_zero, Act.put, List.setIfInBounds_toArray, List.set_cons_zero, List.set_cons_succ]
  refine wpAnyH_take (i := 14) (oi := _) (v := ?ve14) rfl (by kernel_rfl) (by kernel_rfl) (by kernel_rfl) (fun _ _ _ h => h) (Or.inl ⟨by rfl, ?hye14⟩) (by assumption) ?reste14
  case hye14 => (intro w hSw; (try dsimp only at hSw); go_simp; first | done | rfl)
  try simp only [List.getElem_toArray, List.getElem_cons_succ, List.getElem_cons_zero, Act.put, List.setIfInBounds_toArray, List.set_cons_zero, List.set_cons_succ]
  refine wpAnyH_ready (rs := [15]) (by kernel_rfl) (by simp) ?_
  refine AllReadyH.cons (o := _) rfl (fun K hK => ?_) AllReadyH.nil
  simp only [List.getElem_toArray, List.getElem_cons_succ, List.getElem_cons_zero]
  rw [if_pos (by rfl)]
  go_simp
  go_at_call 48
  refine (legsR A c l _ n0 n1 n2 n3 n4 HV.out (by omega) HN.out (HO.out.below (fin (hbT BW (by assumption))))).mono ?_
  rintro e wc ⟨rfl, hbq⟩
  refine hK.out _ _ (hbT (by assumption) hbq) (fun hHeld => ?_)
  clear hK K
  try simp only [List.getElem_toArray, List.getElem_cons_succ, List.getElem_cons_zero, Act.put, List.setIfInBounds_toArray, List.set_cons_zero, List.set_cons_succ]
  refine wpAnyH_take (i := 16) (oi := _) (v := ?ve16) rfl (by kernel_rfl) (by kernel_rfl) (by kernel_rfl) (fun _ _ _ h => h) (Or.inl ⟨by rfl, ?hye16⟩) (by assumption) ?reste16
  case hye16 => (intro w hSw; (try dsimp only at hSw); go_simp; first | done | rfl)
  try simp only [List.getElem_toArray, List.getElem_cons_succ, List.getElem_cons_zero, Act.put, List.setIfInBounds_toArray, List.set_cons_zero, List.set_cons_succ]
  refine wpAnyH_take (i := 17) (oi := _) (v := ?ve17) rfl (by kernel_rfl) (by kernel_rfl) (by kernel_rfl) (fun _ _ _ h => h) (Or.inl ⟨by rfl, ?hye17⟩) (by assumption) ?reste17
  case hye17 => (intro w hSw; (try dsimp only at hSw); go_simp; first | done | rfl)
  try simp only [List.getElem_toArray, List.getElem_cons_succ, List.getElem_cons_zero, Act.put, List.setIfInBounds_toArray, List.set_cons_zero, List.set_cons_succ]
  refine wpAnyH_take (i := 18) (oi := _) (v := ?ve18) rfl (by kernel_rfl) (by kernel_rfl) (by kernel_rfl) (fun _ _ _ h => h) (Or.inl ⟨by rfl, ?hye18⟩) (by assumption) ?reste18
  case hye18 => (intro w hSw; (try dsimp only at hSw); go_simp; first | done | rfl)
  try simp only [List.getElem_toArray, List.getElem_cons_succ, List.getElem_cons_zero, Act.put, List.setIfInBounds_toArray, List.set_cons_zero, List.set_cons_succ]
  refine wpAnyH_take (i := 19) (oi := _) (v := ?ve19) rfl (by kernel_rfl) (by kernel_rfl) (by kernel_rfl) (fun _ _ _ h => h) (Or.inl ⟨by rfl, ?hye19⟩) (by assumption) ?reste19
  case hye19 => (intro w hSw; (try dsimp only at hSw); go_simp; first | done | rfl)
  try simp only [List.getElem_toArray, List.getElem_cons_succ, List.getElem_cons_zero, Act.put, List.setIfInBounds_toArray, List.set_cons_zero, List.set_cons_succ]
  refine wpAnyH_take (i := 21) (oi := _) (v := ?ve21) rfl (by kernel_rfl) (by kernel_rfl) (by kernel_rfl) (fun _ _ _ h => h) (Or.inl ⟨by rfl, ?hye21⟩) (by assumption) ?reste21
  case hye21 => (intro w hSw; (try dsimp only at hSw); go_simp; first | done | rfl)
  try simp only [List.getElem_toArray, List.getElem_cons_succ, List.getElem_cons_zero, Act.put, List.setIfInBounds_toArray, List.set_cons_zero, List.set_cons_succ]
  refine wpAnyH_ready (rs := [20]) (by kernel_rfl) (by simp) ?_
  refine AllReadyH.cons (o := _) rfl (fun K hK => ?_) AllReadyH.nil
  simp only [List.getElem_toArray, List.getElem_cons_succ, List.getElem_cons_zero]
  rw [if_pos (by rfl)]
  go_simp
  go_at_call 50
  refine (meshesW a20 c20 ms _ HML.out (O20.out.below hHeld)).mono ?_
  rintro e wd ⟨am, cm, rfl, om, hbq⟩
  refine hK.out _ _ (hbT (by assumption) hbq) (fun hHeld => ?_)
  clear hK K
  try simp only [List.getElem_toArray, List.getElem_cons_succ, List.getElem_cons_zero, Act.put, List.setIfInBounds_toArray, List.set_cons_zero, List.set_cons_succ]
  refine wpAnyH_ready (rs := [22]) (by kernel_rfl) (by simp) ?_
  refine AllReadyH.cons (o := _) rfl (fun K hK => ?_) AllReadyH.nil
  simp only [List.getElem_toArray, List.getElem_cons_succ, List.getElem_cons_zero]
  rw [if_pos (by rfl)]
  go_simp
  go_at_call 51
  refine (meshesR A c l ms _ HM.out (by omega) HN.out (HO.out.below (fin (hbT BW (by assumption))))).mono ?_
  rintro e we ⟨an, cn, rfl, on2, hbq⟩
  replace om := om.below hbq
  refine hK.out _ _ (hbT (by assumption) hbq) (fun hHeld => ?_)
  clear hK K
  try simp only [List.getElem_toArray, List.getElem_cons_succ, List.getElem_cons_zero, Act.put, List.setIfInBounds_toArray, List.set_cons_zero, List.set_cons_succ]
  refine wpAnyH_ready (rs := [23]) (by kernel_rfl) (by simp) ?_
  refine AllReadyH.cons (o := _) rfl (fun K hK => ?_) AllReadyH.nil
  simp only [List.getElem_toArray, List.getElem_cons_succ, List.getElem_cons_zero]
  rw [if_pos (by rfl)]
  go_simp
  go_at_call 49
  refine (lwSameMeshes am an cm cn ms _ HML.out om.2.2 on2.2.2).mono ?_
  clear om on2
  rintro e wf ⟨rfl, hbq⟩
  refine hK.out _ _ (hbT (by assumption) hbq) (fun hHeld => ?_)
  clear hK K
  try simp only [List.getElem_toArray, List.getElem_cons_succ, List.getElem_cons_zero, Act.put, List.setIfInBounds_toArray, List.set_cons_zero, List.set_cons_succ]
  refine wpAnyH_take (i := 24) (oi := _) (v := ?ve24) rfl (by kernel_rfl) (by kernel_rfl) (by kernel_rfl) (fun _ _ _ h => h) (Or.inl ⟨by rfl, ?hye24⟩) (by assumption) ?reste24
  case hye24 => (intro w hSw; (try dsimp only at hSw); go_simp; first | done | rfl)
  try simp only [List.getElem_toArray, List.getElem_cons_succ, List.getElem_cons_zero, Act.put, List.setIfInBounds_toArray, List.set_cons_zero, List.set_cons_succ]
  refine wpAnyH_take (i := 25) (oi := _) (v := ?ve25) rfl (by kernel_rfl) (by kernel_rfl) (by kernel_rfl) (fun _ _ _ h => h) (Or.inl ⟨by rfl, ?hye25⟩) (by assumption) ?reste25
  case hye25 => (intro w hSw; (try dsimp only at hSw); go_simp; first | done | rfl)
  try simp only [List.getElem_toArray, List.getElem_cons_succ, List.getElem_cons_zero, Act.put, List.setIfInBounds_toArray, List.set_cons_zero, List.set_cons_succ]
  refine wpAnyH_done (by kernel_rfl) ?_ _
  go_wp2
  go_ret
  exact ⟨rfl, fin (hbT BW hHeld)⟩
set_option maxHeartbeats 16000000 in
set_option maxRecDepth 100000 in
theorem lawKnK (A : Option Addr) (c : Nat) (l : List Bar) (x y : Int) (w : World) (hL : LaidLen w) (hO : OKS w A c l) (hS : ∀ W : World, Calls Tryz.prog 16 #[.slice A l.length c, .int .i64 40] W fun e w' => e = .returned (.bool true) ∧ W = w') (hl : l.length ≤ 40) (hN : Net l) (ks ms : List Knot) (n0 n1 n2 n3 n4 : Int) (hk : knotsL l = ks) (hm : meshK (meshL l l) = ms) (hv : legV l = #[.int .i64 n0, .int .i64 n1, .int .i64 n2, .int .i64 n3, .int .i64 n4]) (KE : Int) (hK : knotE x y = KE) (hne : KE ≠ 0) :
    Calls Tryz.prog 6 #[.slice A l.length c, .agg #[.int .i64 x, .int .i64 y]] w fun e w' => e = .returned (.bool true) ∧ Below w.heap.size w w' := by
  have ex0 : ∀ (a b : Value) (w : World), (Instr.extract (.tuple #[a, b]) 0).run Tryz.prog w = .ok a w := fun _ _ _ => by kernel_rfl
  have ex1 : ∀ (a b : Value) (w : World), (Instr.extract (.tuple #[a, b]) 1).run Tryz.prog w = .ok b w := fun _ _ _ => by kernel_rfl
  obtain ⟨w1, hw1, z0, z1, hb1, hz1⟩ := box2 w (.int .i64 x) (.int .i64 y) 26
  have Q : ∀ {W : World}, Below w1.heap.size w1 W → W.cell? ⟨w.heap.size, 0, none⟩ = some (.int .i64 x) ∧ W.cell? ⟨w.heap.size, 1, none⟩ = some (.int .i64 y) := fun hb => ⟨(hb.cell (p := ⟨w.heap.size, 0, none⟩) hz1).trans z0, (hb.cell (p := ⟨w.heap.size, 1, none⟩) hz1).trans z1⟩
  have HW1 := Lib.hid hw1
  have HLL := Lib.hid hL
  have HO := Lib.hid hO
  have fin : ∀ {W : World}, Below w1.heap.size w1 W → Below w.heap.size w W := fun hb => hb1.trans (hb.mono hb1.size)
  have BW := Below.refl w1.heap.size w1
  have HN := Lib.hid hN
  have HK := Lib.hid hk
  have HM := Lib.hid hm
  have HV := Lib.hid hv
  have HS := Lib.hid hS
  have HKE := Lib.hid hK
  have hlm : l.length ≤ 4098 := by omega
  have HE := Lib.hid ((netE_zero l).2 ⟨by omega, hN⟩)
  have HKL := Lib.hid (show ks.length ≤ 10000 by rw [← hk]; have := knotsL_le l; omega)
  have HML := Lib.hid (show ms.length ≤ 10000 by rw [← hm, meshK_length]; have := meshL_le l l.length; rw [List.take_length] at this; omega)
  have q5 := eqFive n0 n1 n2 n3 n4
  have hk0 : (KE != 0) = true := by rw [bne_iff_ne]; exact hne
  have hk1 : (KE == 0) = false := by rw [beq_eq_false_iff_ne]; exact hne
  have HNE := Lib.hid hne
  clear hne
  clear hN hk hm hv hS hK
  clear hw1 hL hO z0 z1
  go_enter Tryz.func6, Tryz.ntmps6
  go_wp2_with fail
  rw [← HW1.out]
  go_wp2_with fail
  refine (awake1 _ (HLL.out.below (fin BW) HLL.out.lt)).mono ?_
  rintro e w11 ⟨rfl, hb11⟩
  replace BW := hbT BW hb11
  clear hb11
  go_wp2_with fail
  refine (HS.out _).mono ?_
  rintro e w12 ⟨rfl, rfl⟩
  go_wp2_with fail
  refine (lwCopied A c l _ hlm (HO.out.below (fin BW))).mono ?_
  rintro e w13 ⟨a13, c13, rfl, o13, hb13⟩
  replace BW := hbT BW hb13
  have O13 := Lib.hid o13
  clear o13 hb13
  go_wp2_with fail
  refine (knotsN a13 c13 l ks _ HK.out (by omega) HN.out O13.out).mono ?_
  rintro e w14 ⟨a14, c14, rfl, o14, hb14⟩
  replace BW := hbT BW hb14
  replace O13 := Lib.hid (O13.out.below hb14)
  have O14 := Lib.hid o14
  clear o14 hb14
  clear O13
  go_wp2_with fail
  refine wp_region_held_drew (S := (fun w' => Below w14.heap.size w14 w')) (by kernel_rfl) ?_ (fun hHeld => ?_)
  · exact below_drew (Below.refl _ _)
  refine wpAnyH_take (i := 0) (oi := _) (v := ?vg10) rfl (by kernel_rfl) (by kernel_rfl) (by kernel_rfl) (fun _ _ _ h => h) (Or.inl ⟨by rfl, ?hyg10⟩) (by assumption) ?restg10
  case hyg10 => (intro w hSw; (try dsimp only at hSw); go_simp; first | done | rfl)
  try simp only [List.getElem_toArray, List.getElem_cons_succ, List.getElem_cons_zero, Act.put, List.setIfInBounds_toArray, List.set_cons_zero, List.set_cons_succ]
  refine wpAnyH_take (i := 2) (oi := _) (v := ?vg12) rfl (by kernel_rfl) (by kernel_rfl) (by kernel_rfl) (fun _ _ _ h => h) (Or.inl ⟨by rfl, ?hyg12⟩) (by assumption) ?restg12
  case hyg12 => (intro w hSw; (try dsimp only at hSw); obtain ⟨s0, s1⟩ := Q (hbT BW hSw); go_simp; first | done | rfl)
  try simp only [List.getElem_toArray, List.getElem_cons_succ, List.getElem_cons_zero, Act.put, List.setIfInBounds_toArray, List.set_cons_zero, List.set_cons_succ]
  refine wpAnyH_ready (rs := [1]) (by kernel_rfl) (by simp) ?_
  refine AllReadyH.cons (o := _) rfl (fun K hK => ?_) AllReadyH.nil
  simp only [List.getElem_toArray, List.getElem_cons_succ, List.getElem_cons_zero]
  go_simp
  go_at_call 21
  refine (lwCopied A c l _ hlm (HO.out.below (fin (hbT BW (by assumption))))).mono ?_
  rintro e w' ⟨ax, cx, rfl, ox, hbq⟩
  refine hK.out _ _ (hbT (by assumption) hbq) (fun hHeld => ?_)
  clear hK K
  try simp only [List.getElem_toArray, List.getElem_cons_succ, List.getElem_cons_zero, Act.put, List.setIfInBounds_toArray, List.set_cons_zero, List.set_cons_succ]
  refine wpAnyH_ready (rs := [3]) (by kernel_rfl) (by simp) ?_
  refine AllReadyH.cons (o := _) rfl (fun K hK => ?_) AllReadyH.nil
  simp only [List.getElem_toArray, List.getElem_cons_succ, List.getElem_cons_zero]
  go_simp
  go_at_call 42
  refine (netDegreeBad ax cx l x y 0 KE KE _ ox HE.out HKE.out (by simp [firstE]; exact fun h => h.symm) HNE.out).mono ?_
  rintro e w15 ⟨rfl, hbq⟩
  refine hK.out _ _ (hbT (by assumption) hbq) (fun hHeld => ?_)
  clear hK K
  try simp only [List.getElem_toArray, List.getElem_cons_succ, List.getElem_cons_zero, Act.put, List.setIfInBounds_toArray, List.set_cons_zero, List.set_cons_succ]
  refine wpAnyH_take (i := 4) (oi := _) (v := ?vg14) rfl (by kernel_rfl) (by kernel_rfl) (by kernel_rfl) (fun _ _ _ h => h) (Or.inl ⟨by rfl, ?hyg14⟩) (by assumption) ?restg14
  case hyg14 => (intro w hSw; (try dsimp only at hSw); go_simp; first | done | rfl)
  try simp only [List.getElem_toArray, List.getElem_cons_succ, List.getElem_cons_zero, Act.put, List.setIfInBounds_toArray, List.set_cons_zero, List.set_cons_succ]
  refine wpAnyH_take (i := 5) (oi := _) (v := ?vg15) rfl (by kernel_rfl) (by kernel_rfl) (by kernel_rfl) (fun _ _ _ h => h) (Or.inl ⟨by rfl, ?hyg15⟩) (by assumption) ?restg15
  case hyg15 => (intro w hSw; (try dsimp only at hSw); go_simp; first | done | rfl)
  try simp only [List.getElem_toArray, List.getElem_cons_succ, List.getElem_cons_zero, Act.put, List.setIfInBounds_toArray, List.set_cons_zero, List.set_cons_succ]
  refine wpAnyH_take (i := 6) (oi := _) (v := ?vg16) rfl (by kernel_rfl) (by kernel_rfl) (by kernel_rfl) (fun _ _ _ h => h) (Or.inl ⟨by rfl, ?hyg16⟩) (by assumption) ?restg16
  case hyg16 => (intro w hSw; (try dsimp only at hSw); go_simp; first | done | rfl)
  try simp only [List.getElem_toArray, List.getElem_cons_succ, List.getElem_cons_zero, Act.put, List.setIfInBounds_toArray, List.set_cons_zero, List.set_cons_succ]
  refine wpAnyH_take (i := 7) (oi := _) (v := ?vg17) rfl (by kernel_rfl) (by kernel_rfl) (by kernel_rfl) (fun _ _ _ h => h) (Or.inl ⟨by rfl, ?hyg17⟩) (by assumption) ?restg17
  case hyg17 => (intro w hSw; (try dsimp only at hSw); go_simp; first | done | rfl)
  try simp only [List.getElem_toArray, List.getElem_cons_succ, List.getElem_cons_zero, Act.put, List.setIfInBounds_toArray, List.set_cons_zero, List.set_cons_succ]
  refine wpAnyH_take (i := 8) (oi := _) (v := ?vg18) rfl (by kernel_rfl) (by kernel_rfl) (by kernel_rfl) (fun _ _ _ h => h) (Or.inl ⟨by rfl, ?hyg18⟩) (by assumption) ?restg18
  case hyg18 => (intro w hSw; (try dsimp only at hSw); go_simp; first | done | rfl)
  try simp only [List.getElem_toArray, List.getElem_cons_succ, List.getElem_cons_zero, Act.put, List.setIfInBounds_toArray, List.set_cons_zero, List.set_cons_succ]
  refine wpAnyH_done (by kernel_rfl) ?_ _
  replace BW := hbT BW hHeld
  replace O14 := Lib.hid (O14.out.below hHeld)
  clear ox
  go_wp2_with fail
  refine (lwCopied A c l _ hlm (HO.out.below (fin BW))).mono ?_
  rintro e w16 ⟨a16, c16, rfl, o16, hb16⟩
  replace BW := hbT BW hb16
  replace O14 := Lib.hid (O14.out.below hb16)
  have O16 := Lib.hid o16
  clear o16 hb16
  go_wp2_with fail
  refine (legsN a16 c16 l _ n0 n1 n2 n3 n4 HV.out (by omega) HN.out O16.out).mono ?_
  rintro e w17 ⟨rfl, hb17⟩
  replace BW := hbT BW hb17
  replace O14 := Lib.hid (O14.out.below hb17)
  replace O16 := Lib.hid (O16.out.below hb17)
  clear hb17
  clear O16
  go_wp2_with fail
  obtain ⟨w18, hw, LG, hbq, LZ⟩ := box5H w17 (.int .i64 n0) (.int .i64 n1) (.int .i64 n2) (.int .i64 n3) (.int .i64 n4) 67
  rw [← hw]
  have LF := Lib.hid (show Five w18 w17.heap.size #[.int .i64 n0, .int .i64 n1, .int .i64 n2, .int .i64 n3, .int .i64 n4] from ⟨by omega, LG⟩)
  replace BW := hbT BW hbq
  replace O14 := Lib.hid (O14.out.below hbq)
  clear hw LZ LG hbq
  generalize w17.heap.size = BL at *
  go_wp2_with fail
  refine (lwCopied A c l _ hlm (HO.out.below (fin BW))).mono ?_
  rintro e w19 ⟨a19, c19, rfl, o19, hb19⟩
  replace BW := hbT BW hb19
  replace O14 := Lib.hid (O14.out.below hb19)
  replace LF := Lib.hid (LF.out.below hb19)
  have O19 := Lib.hid o19
  clear o19 hb19
  go_wp2_with fail
  refine (meshesN a19 c19 l ms _ HM.out (by omega) HN.out O19.out).mono ?_
  rintro e w20 ⟨a20, c20, rfl, o20, hb20⟩
  replace BW := hbT BW hb20
  replace O14 := Lib.hid (O14.out.below hb20)
  replace LF := Lib.hid (LF.out.below hb20)
  replace O19 := Lib.hid (O19.out.below hb20)
  have O20 := Lib.hid o20
  clear o20 hb20
  clear O19
  go_wp2_with fail
  refine (refCheckNetA A c l _ (HO.out.below (fin BW))).mono ?_
  rintro e w21 ⟨rfl, hb21⟩
  rw [HE.out]
  replace BW := hbT BW hb21
  replace O14 := Lib.hid (O14.out.below hb21)
  replace LF := Lib.hid (LF.out.below hb21)
  replace O20 := Lib.hid (O20.out.below hb21)
  clear hb21
  obtain ⟨s0, s1⟩ := Q BW
  go_wp2_with fail
  refine (refCheckKnot x y _).mono ?_
  rintro e w22 ⟨rfl, hb22⟩
  rw [HKE.out]
  replace BW := hbT BW hb22
  replace O14 := Lib.hid (O14.out.below hb22)
  replace LF := Lib.hid (LF.out.below hb22)
  replace O20 := Lib.hid (O20.out.below hb22)
  clear hb22
  clear s0 s1
  go_wp2_with fail
  refine wp_region_held_drew (S := (fun w' => Below w22.heap.size w22 w')) (by kernel_rfl) ?_ (fun hHeld => ?_)
  · exact below_drew (Below.refl _ _)
  refine wpAnyH_take (i := 0) (oi := _) (v := ?ve0) rfl (by kernel_rfl) (by kernel_rfl) (by kernel_rfl) (fun _ _ _ h => h) (Or.inl ⟨by rfl, ?hye0⟩) (by assumption) ?reste0
  case hye0 => (intro w hSw; (try dsimp only at hSw); go_simp; first | done | rfl)
  try simp only [List.getElem_toArray, List.getElem_cons_succ, List.getElem_cons_zero, Act.put, List.setIfInBounds_toArray, List.set_cons_zero, List.set_cons_succ]
  refine wpAnyH_take (i := 1) (oi := _) (v := ?ve1) rfl (by kernel_rfl) (by kernel_rfl) (by kernel_rfl) (fun _ _ _ h => h) (Or.inl ⟨by rfl, ?hye1⟩) (by assumption) ?reste1
  case hye1 => (intro w hSw; (try dsimp only at hSw); go_simp; first | done | rfl)
  try simp only [List.getElem_toArray, List.getElem_cons_succ, List.getElem_cons_zero, Act.put, List.setIfInBounds_toArray, List.set_cons_zero, List.set_cons_succ]
  refine wpAnyH_take (i := 2) (oi := _) (v := ?ve2) rfl (by kernel_rfl) (by kernel_rfl) (by kernel_rfl) (fun _ _ _ h => h) (Or.inl ⟨by rfl, ?hye2⟩) (by assumption) ?reste2
  case hye2 => (intro w hSw; (try dsimp only at hSw); go_simp; first | done | rfl)
  try simp only [List.getElem_toArray, List.getElem_cons_succ, List.getElem_cons_zero, Act.put, List.setIfInBounds_toArray, List.set_cons_zero, List.set_cons_succ]
  refine wpAnyH_take (i := 3) (oi := _) (v := ?ve3) rfl (by kernel_rfl) (by kernel_rfl) (by kernel_rfl) (fun _ _ _ h => h) (Or.inl ⟨by rfl, ?hye3⟩) (by assumption) ?reste3
  case hye3 => (intro w hSw; (try dsimp only at hSw); go_simp; first | done | rfl)
  try simp only [List.getElem_toArray, List.getElem_cons_succ, List.getElem_cons_zero, Act.put, List.setIfInBounds_toArray, List.set_cons_zero, List.set_cons_succ]
  refine wpAnyH_take (i := 4) (oi := _) (v := ?ve4) rfl (by kernel_rfl) (by kernel_rfl) (by kernel_rfl) (fun _ _ _ h => h) (Or.inl ⟨by rfl, ?hye4⟩) (by assumption) ?reste4
  case hye4 => (intro w hSw; (try dsimp only at hSw); go_simp; first | done | rfl)
  try simp only [List.getElem_toArray, List.getElem_cons_succ, List.getElem_cons_zero, Act.put, List.setIfInBounds_toArray, List.set_cons_zero, List.set_cons_succ]
  refine wpAnyH_take (i := 5) (oi := _) (v := ?ve5) rfl (by kernel_rfl) (by kernel_rfl) (by kernel_rfl) (fun _ _ _ h => h) (Or.inl ⟨by rfl, ?hye5⟩) (by assumption) ?reste5
  case hye5 => (intro w hSw; (try dsimp only at hSw); go_simp; first | done | rfl)
  try simp only [List.getElem_toArray, List.getElem_cons_succ, List.getElem_cons_zero, Act.put, List.setIfInBounds_toArray, List.set_cons_zero, List.set_cons_succ]
  refine wpAnyH_take (i := 6) (oi := _) (v := ?ve6) rfl (by kernel_rfl) (by kernel_rfl) (by kernel_rfl) (fun _ _ _ h => h) (Or.inl ⟨by rfl, ?hye6⟩) (by assumption) ?reste6
  case hye6 => (intro w hSw; (try dsimp only at hSw); go_simp; first | done | rfl)
  try simp only [List.getElem_toArray, List.getElem_cons_succ, List.getElem_cons_zero, Act.put, List.setIfInBounds_toArray, List.set_cons_zero, List.set_cons_succ]
  refine wpAnyH_take (i := 7) (oi := _) (v := ?ve7) rfl (by kernel_rfl) (by kernel_rfl) (by kernel_rfl) (fun _ _ _ h => h) (Or.inl ⟨by rfl, ?hye7⟩) (by assumption) ?reste7
  case hye7 => (intro w hSw; (try dsimp only at hSw); go_simp; first | done | rfl)
  try simp only [List.getElem_toArray, List.getElem_cons_succ, List.getElem_cons_zero, Act.put, List.setIfInBounds_toArray, List.set_cons_zero, List.set_cons_succ]
  refine wpAnyH_take (i := 8) (oi := _) (v := ?ve8) rfl (by kernel_rfl) (by kernel_rfl) (by kernel_rfl) (fun _ _ _ h => h) (Or.inl ⟨by rfl, ?hye8⟩) (by assumption) ?reste8
  case hye8 => (intro w hSw; (try dsimp only at hSw); go_simp; first | done | rfl)
  try simp only [List.getElem_toArray, List.getElem_cons_succ, List.getElem_cons_zero, Act.put, List.setIfInBounds_toArray, List.set_cons_zero, List.set_cons_succ]
  refine wpAnyH_ready (rs := [9]) (by kernel_rfl) (by simp) ?_
  refine AllReadyH.cons (o := _) rfl (fun K hK => ?_) AllReadyH.nil
  simp only [List.getElem_toArray, List.getElem_cons_succ, List.getElem_cons_zero]
  rw [if_pos (by rfl)]
  go_simp
  go_at_call 47
  refine (knotsR A c l ks _ HK.out (by omega) HN.out (HO.out.below (fin (hbT BW (by assumption))))).mono ?_
  rintro e wa ⟨ak, ck, rfl, ok, hbq⟩
  refine hK.out _ _ (hbT (by assumption) hbq) (fun hHeld => ?_)
  clear hK K
  try simp only [List.getElem_toArray, List.getElem_cons_succ, List.getElem_cons_zero, Act.put, List.setIfInBounds_toArray, List.set_cons_zero, List.set_cons_succ]
  refine wpAnyH_ready (rs := [10]) (by kernel_rfl) (by simp) ?_
  refine AllReadyH.cons (o := _) rfl (fun K hK => ?_) AllReadyH.nil
  simp only [List.getElem_toArray, List.getElem_cons_succ, List.getElem_cons_zero]
  rw [if_pos (by rfl)]
  go_simp
  go_at_call 46
  refine (refSameKnots a14 ak c14 ck ks _ HKL.out (O14.out.below hHeld).2.2 ok.2.2).mono ?_
  clear ok
  rintro e wb ⟨rfl, hbq⟩
  refine hK.out _ _ (hbT (by assumption) hbq) (fun hHeld => ?_)
  clear hK K
  try simp only [List.getElem_toArray, List.getElem_cons_succ, List.getElem_cons_zero, Act.put, List.setIfInBounds_toArray, List.set_cons_zero, List.set_cons_succ]
  refine wpAnyH_take (i := 11) (oi := _) (v := ?ve11) rfl (by kernel_rfl) (by kernel_rfl) (by kernel_rfl) (fun _ _ _ h => h) (Or.inl ⟨by rfl, ?hye11⟩) (by assumption) ?reste11
  case hye11 => (intro w hSw; (try dsimp only at hSw); go_simp; first | done | rfl)
  try simp only [List.getElem_toArray, List.getElem_cons_succ, List.getElem_cons_zero, Act.put, List.setIfInBounds_toArray, List.set_cons_zero, List.set_cons_succ]
  refine wpAnyH_take (i := 12) (oi := _) (v := ?ve12) rfl (by kernel_rfl) (by kernel_rfl) (by kernel_rfl) (fun _ _ _ h => h) (Or.inl ⟨by rfl, ?hye12⟩) (by assumption) ?reste12
  case hye12 => (intro w hSw; (try dsimp only at hSw); go_simp; first | done | rfl)
  try simp only [List.getElem_toArray, List.getElem_cons_succ, List.getElem_cons_zero, Act.put, List.setIfInBounds_toArray, List.set_cons_zero, List.set_cons_succ]
  refine wpAnyH_take (i := 13) (oi := _) (v := ?ve13) rfl (by kernel_rfl) (by kernel_rfl) (by kernel_rfl) (fun _ _ _ h => h) (Or.inl ⟨by rfl, ?hye13⟩) (by assumption) ?reste13
  case hye13 => (intro w hSw; (try dsimp only at hSw); obtain ⟨t0, t1, t2, t3, t4⟩ := (LF.out.below hSw).at5; go_simp; first | done | rfl)
  try simp only [List.getElem_toArray, List.getElem_cons_succ, List.getElem_cons_zero, Act.put, List.setIfInBounds_toArray, List.set_cons_zero, List.set_cons_succ]
  refine wpAnyH_take (i := 14) (oi := _) (v := ?ve14) rfl (by kernel_rfl) (by kernel_rfl) (by kernel_rfl) (fun _ _ _ h => h) (Or.inl ⟨by rfl, ?hye14⟩) (by assumption) ?reste14
  case hye14 => (intro w hSw; (try dsimp only at hSw); go_simp; first | done | rfl)
  try simp only [List.getElem_toArray, List.getElem_cons_succ, List.getElem_cons_zero, Act.put, List.setIfInBounds_toArray, List.set_cons_zero, List.set_cons_succ]
  refine wpAnyH_ready (rs := [15]) (by kernel_rfl) (by simp) ?_
  refine AllReadyH.cons (o := _) rfl (fun K hK => ?_) AllReadyH.nil
  simp only [List.getElem_toArray, List.getElem_cons_succ, List.getElem_cons_zero]
  rw [if_pos (by rfl)]
  go_simp
  go_at_call 48
  refine (legsR A c l _ n0 n1 n2 n3 n4 HV.out (by omega) HN.out (HO.out.below (fin (hbT BW (by assumption))))).mono ?_
  rintro e wc ⟨rfl, hbq⟩
  refine hK.out _ _ (hbT (by assumption) hbq) (fun hHeld => ?_)
  clear hK K
  try simp only [List.getElem_toArray, List.getElem_cons_succ, List.getElem_cons_zero, Act.put, List.setIfInBounds_toArray, List.set_cons_zero, List.set_cons_succ]
  refine wpAnyH_take (i := 16) (oi := _) (v := ?ve16) rfl (by kernel_rfl) (by kernel_rfl) (by kernel_rfl) (fun _ _ _ h => h) (Or.inl ⟨by rfl, ?hye16⟩) (by assumption) ?reste16
  case hye16 => (intro w hSw; (try dsimp only at hSw); go_simp; first | done | rfl)
  try simp only [List.getElem_toArray, List.getElem_cons_succ, List.getElem_cons_zero, Act.put, List.setIfInBounds_toArray, List.set_cons_zero, List.set_cons_succ]
  refine wpAnyH_take (i := 17) (oi := _) (v := ?ve17) rfl (by kernel_rfl) (by kernel_rfl) (by kernel_rfl) (fun _ _ _ h => h) (Or.inl ⟨by rfl, ?hye17⟩) (by assumption) ?reste17
  case hye17 => (intro w hSw; (try dsimp only at hSw); go_simp; first | done | rfl)
  try simp only [List.getElem_toArray, List.getElem_cons_succ, List.getElem_cons_zero, Act.put, List.setIfInBounds_toArray, List.set_cons_zero, List.set_cons_succ]
  refine wpAnyH_take (i := 18) (oi := _) (v := ?ve18) rfl (by kernel_rfl) (by kernel_rfl) (by kernel_rfl) (fun _ _ _ h => h) (Or.inl ⟨by rfl, ?hye18⟩) (by assumption) ?reste18
  case hye18 => (intro w hSw; (try dsimp only at hSw); go_simp; first | done | rfl)
  try simp only [List.getElem_toArray, List.getElem_cons_succ, List.getElem_cons_zero, Act.put, List.setIfInBounds_toArray, List.set_cons_zero, List.set_cons_succ]
  refine wpAnyH_take (i := 19) (oi := _) (v := ?ve19) rfl (by kernel_rfl) (by kernel_rfl) (by kernel_rfl) (fun _ _ _ h => h) (Or.inl ⟨by rfl, ?hye19⟩) (by assumption) ?reste19
  case hye19 => (intro w hSw; (try dsimp only at hSw); go_simp; first | done | rfl)
  try simp only [List.getElem_toArray, List.getElem_cons_succ, List.getElem_cons_zero, Act.put, List.setIfInBounds_toArray, List.set_cons_zero, List.set_cons_succ]
  refine wpAnyH_take (i := 21) (oi := _) (v := ?ve21) rfl (by kernel_rfl) (by kernel_rfl) (by kernel_rfl) (fun _ _ _ h => h) (Or.inl ⟨by rfl, ?hye21⟩) (by assumption) ?reste21
  case hye21 => (intro w hSw; (try dsimp only at hSw); go_simp; first | done | rfl)
  try simp only [List.getElem_toArray, List.getElem_cons_succ, List.getElem_cons_zero, Act.put, List.setIfInBounds_toArray, List.set_cons_zero, List.set_cons_succ]
  refine wpAnyH_ready (rs := [20]) (by kernel_rfl) (by simp) ?_
  refine AllReadyH.cons (o := _) rfl (fun K hK => ?_) AllReadyH.nil
  simp only [List.getElem_toArray, List.getElem_cons_succ, List.getElem_cons_zero]
  rw [if_pos (by rfl)]
  go_simp
  go_at_call 50
  refine (meshesW a20 c20 ms _ HML.out (O20.out.below hHeld)).mono ?_
  rintro e wd ⟨am, cm, rfl, om, hbq⟩
  refine hK.out _ _ (hbT (by assumption) hbq) (fun hHeld => ?_)
  clear hK K
  try simp only [List.getElem_toArray, List.getElem_cons_succ, List.getElem_cons_zero, Act.put, List.setIfInBounds_toArray, List.set_cons_zero, List.set_cons_succ]
  refine wpAnyH_ready (rs := [22]) (by kernel_rfl) (by simp) ?_
  refine AllReadyH.cons (o := _) rfl (fun K hK => ?_) AllReadyH.nil
  simp only [List.getElem_toArray, List.getElem_cons_succ, List.getElem_cons_zero]
  rw [if_pos (by rfl)]
  go_simp
  go_at_call 51
  refine (meshesR A c l ms _ HM.out (by omega) HN.out (HO.out.below (fin (hbT BW (by assumption))))).mono ?_
  rintro e we ⟨an, cn, rfl, on2, hbq⟩
  replace om := om.below hbq
  refine hK.out _ _ (hbT (by assumption) hbq) (fun hHeld => ?_)
  clear hK K
  try simp only [List.getElem_toArray, List.getElem_cons_succ, List.getElem_cons_zero, Act.put, List.setIfInBounds_toArray, List.set_cons_zero, List.set_cons_succ]
  refine wpAnyH_ready (rs := [23]) (by kernel_rfl) (by simp) ?_
  refine AllReadyH.cons (o := _) rfl (fun K hK => ?_) AllReadyH.nil
  simp only [List.getElem_toArray, List.getElem_cons_succ, List.getElem_cons_zero]
  rw [if_pos (by rfl)]
  go_simp
  go_at_call 49
  refine (lwSameMeshes am an cm cn ms _ HML.out om.2.2 on2.2.2).mono ?_
  clear om on2
  rintro e wf ⟨rfl, hbq⟩
  refine hK.out _ _ (hbT (by assumption) hbq) (fun hHeld => ?_)
  clear hK K
  try simp only [List.getElem_toArray, List.getElem_cons_succ, List.getElem_cons_zero, Act.put, List.setIfInBounds_toArray, List.set_cons_zero, List.set_cons_succ]
  refine wpAnyH_take (i := 24) (oi := _) (v := ?ve24) rfl (by kernel_rfl) (by kernel_rfl) (by kernel_rfl) (fun _ _ _ h => h) (Or.inl ⟨by rfl, ?hye24⟩) (by assumption) ?reste24
  case hye24 => (intro w hSw; (try dsimp only at hSw); go_simp; first | done | rfl)
  try simp only [List.getElem_toArray, List.getElem_cons_succ, List.getElem_cons_zero, Act.put, List.setIfInBounds_toArray, List.set_cons_zero, List.set_cons_succ]
  refine wpAnyH_take (i := 25) (oi := _) (v := ?ve25) rfl (by kernel_rfl) (by kernel_rfl) (by kernel_rfl) (fun _ _ _ h => h) (Or.inl ⟨by rfl, ?hye25⟩) (by assumption) ?reste25
  case hye25 => (intro w hSw; (try dsimp only at hSw); go_simp; first | done | rfl)
  try simp only [List.getElem_toArray, List.getElem_cons_succ, List.getElem_cons_zero, Act.put, List.setIfInBounds_toArray, List.set_cons_zero, List.set_cons_succ]
  refine wpAnyH_done (by kernel_rfl) ?_ _
  go_wp2
  go_ret
  exact ⟨rfl, fin (hbT BW hHeld)⟩
theorem lawKnots (A : Option Addr) (c : Nat) (l : List Bar) (x y : Int) (w : World) (hL : LaidLen w) (hO : OKS w A c l) :
    Calls Tryz.prog 6 #[.slice A l.length c, .agg #[.int .i64 x, .int .i64 y]] w fun e w' => e = .returned (.bool true) ∧ Below w.heap.size w w' := by
  have hk : l.length ≤ maxLen := Nat.le_trans hO.1 hO.2.1
  by_cases hs : (l.length : Int) ≤ 40 ∨ (4096 < (l.length : Int) ∧ (l.length : Int) ≤ 4098)
  · have hS : ∀ W : World, Calls Tryz.prog 16 #[.slice A l.length c, .int .i64 40] W fun e w' => e = .returned (.bool true) ∧ W = w' := fun W => refShortOk A c _ 40 W hk hs
    by_cases hE : netE l = 0
    · obtain ⟨hl, hN⟩ := (netE_zero l).1 hE
      have h40 : l.length ≤ 40 := by omega
      by_cases hK : knotE x y = 0
      · exact lawKnO A c l x y w hL hO hS h40 hN _ _ _ _ _ _ _ rfl rfl rfl _ rfl hK
      · exact lawKnK A c l x y w hL hO hS h40 hN _ _ _ _ _ _ _ rfl rfl rfl _ rfl hK
    · exact lawKnB A c l x y w hL hO hS (by omega) _ _ rfl hE rfl
  · exact lawKnL A c l x y w hL hO (fun W => refShortNo A c _ 40 W hk hs)
end Go.Proofs.YtdeplhihcifmeaaGreatDoor

/- A knot as an argument. -/
namespace Go.Proofs.YtdeplhihcifmeaaGreatDoor
open Go.ChangeShapes Go.WideShapes Go.ChangeAt Go.WideMaps Go.WideElems Go.RowKit

set_option maxRecDepth 100000 in
theorem open_knot {w : World} {r : Reach} {b0 : Nat} {v : Value} (h : Value.okWide Tryz.prog w r b0 26 v) : ∃ x y, v = .agg #[.int .i64 x, .int .i64 y] := by
  have hS : Tryz.prog.underlying 26 = some (.struct (Tryz.prog.fieldsOf 26)) := by kernel_rfl
  have hC : Tryz.prog.cellsOf 26 = 2 := by kernel_rfl
  simp only [Value.okWide, hS] at h
  obtain ⟨cs, rfl, hsz, hr⟩ := h
  rw [hC] at hsz
  obtain ⟨ts, hts, -, hrow⟩ := hr
  have ht : Tryz.prog.cellTypes Tryz.prog.depth 26 = some [3, 3] := by kernel_rfl
  rw [ht] at hts
  cases hts
  obtain ⟨l⟩ := cs
  match l, hsz with
  | [c0, c1], _ =>
    obtain ⟨u0, hu0, h0⟩ := hrow 0 c0 rfl
    obtain ⟨u1, hu1, h1⟩ := hrow 1 c1 rfl
    simp at hu0 hu1
    subst hu0 hu1
    obtain ⟨a, rfl, -⟩ := cell_intT Tryz.underlying3 h0
    obtain ⟨b, rfl, -⟩ := cell_intT Tryz.underlying3 h1
    exact ⟨a, b, rfl⟩
end Go.Proofs.YtdeplhihcifmeaaGreatDoor

/- An argument that is a list of bars, opened. -/
namespace Go.Proofs.YtdeplhihcifmeaaGreatDoor
open Go.ChangeShapes Go.WideShapes Go.ChangeAt Go.RowKit Go.Deep

variable {H : Type} {enc : TypeId × Value → H} {w : World} {spare : Nat → Bool} {held : Bool}
set_option maxRecDepth 100000 in
theorem bar_cells {n : Nat} {cs : List Value} {x : DataW H × List MemPlace} (h : DataW.trod enc Tryz.prog w 0 spare held n 24 cs = some x) : ∃ b : Ck.Bar, cs = bcells b := by
  obtain ⟨xs, m, _, _, hl, hx, hf⟩ := DataW.trod_struct Tryz.underlying24 h
  have hC : Tryz.prog.cellsOf 24 = 3 := by kernel_rfl
  have c3 : Tryz.prog.cellsOf 3 = 1 := by kernel_rfl
  rw [hC] at hl
  match cs, hl, xs, hx with
  | [c0, c1, c2], _, [x0, x1, x2], _ =>
    have h0 := hf 0 _ rfl
    have h1 := hf 1 _ rfl
    have h2 := hf 2 _ rfl
    simp [c3] at h0 h1 h2
    obtain ⟨n0, e0, _⟩ := DataW.trod_int Tryz.underlying3 h0
    obtain ⟨n1, e1, _⟩ := DataW.trod_int Tryz.underlying3 h1
    obtain ⟨n2, e2, _⟩ := DataW.trod_int Tryz.underlying3 h2
    simp only [List.cons.injEq, and_true] at e0 e1 e2
    exact ⟨⟨n0, n1, n2⟩, by rw [e0, e1, e2]; rfl⟩
set_option maxRecDepth 100000 in
/-- The argument is nil, or a slice that reads as bars. -/
theorem open_bars {v : Value} {d : DataW H} {p : List MemPlace} {r : Reach} {b0 : Nat} (hv : Value.okWide Tryz.prog w r b0 22 v) (h : DataW.Trod enc Tryz.prog w 0 spare held 22 v d p) (_ : ∀ x ∈ p, x.block < w.heap.size) :
    ∃ (A : Option Addr) (c : Nat) (l : List Ck.Bar), v = .slice A l.length c ∧ (A = none → c = 0) ∧ l.length ≤ c ∧ c ≤ maxLen ∧ RB w w.heap.size A l := by
  obtain ⟨a, len, cap, rfl⟩ := okWide_slice Tryz.underlying22 hv
  obtain ⟨fuel, hf⟩ := h
  have hC : Tryz.prog.cellsOf 24 = 3 := by kernel_rfl
  rcases open_slice Tryz.underlying22 hf with ⟨hcs, _⟩ | ⟨a', len', cap', m, n, D, Pl, hcs, hb, hl, hm, hmm, hx, hi⟩
  · simp [Value.cells] at hcs
    obtain ⟨rfl, rfl, rfl⟩ := hcs
    exact ⟨none, 0, [], rfl, fun _ => rfl, Nat.zero_le _, by unfold maxLen; omega, fun h => by simp at h⟩
  · simp [Value.cells] at hcs
    obtain ⟨rfl, rfl, rfl⟩ := hcs
    rw [hC] at hi hx
    have hle : len ≤ m := by rw [hmm]; split <;> omega
    have each : ∀ i, ∃ b : Ck.Bar, i < len → w.cell? (a'.add (i * 3)) = some (.int .i64 b.x) ∧ w.cell? ((a'.add (i * 3)).add 1) = some (.int .i64 b.y) ∧ w.cell? ((a'.add (i * 3)).add 2) = some (.int .i64 b.s) := fun i => by
      by_cases hi' : i < len
      · obtain ⟨cs', h1, h2⟩ := hi i (by omega)
        obtain ⟨b, rfl⟩ := bar_cells h2
        obtain ⟨_, _, h3⟩ := World.cells?_some h1
        exact ⟨b, fun _ => ⟨h3 0 (by omega), h3 1 (by omega), h3 2 (by omega)⟩⟩
      · exact ⟨⟨0, 0, 0⟩, fun h => absurd h hi'⟩
    obtain ⟨f, hf'⟩ := Classical.axiomOfChoice each
    have hlen : ((List.range len).map f).length = len := by simp
    refine ⟨some a', cap, (List.range len).map f, by rw [hlen], (fun h => by cases h), by rw [hlen]; exact hl, hm, fun hpos => ?_⟩
    rw [hlen] at hpos
    obtain ⟨blk, off, spot⟩ := a'
    have h0 := (hf' 0 hpos).1
    have hspot : spot = none := by
      cases spot with
      | none => rfl
      | some s =>
        simp [Addr.add, World.cell?] at h0
        split at h0 <;> simp at h0
    subst hspot
    have hadd : ∀ k, (⟨blk, off, none⟩ : Addr).add k = ⟨blk, off + k, none⟩ := fun k => by
      unfold Addr.add
      split
      · simp
      · rfl
    have hblk : blk < w.heap.size := by
      rw [hadd] at h0
      unfold World.cell? at h0
      cases hh : w.heap[blk]? with
      | none => simp [hh] at h0
      | some o => exact (Array.getElem?_eq_some_iff.1 hh).1
    refine ⟨blk, off, rfl, hblk, fun i hi' => ?_⟩
    rw [hlen] at hi'
    obtain ⟨k0, k1, k2⟩ := hf' i hi'
    rw [hadd] at k0 k1 k2
    have hadd2 : ∀ k j, (⟨blk, k, none⟩ : Addr).add j = ⟨blk, k + j, none⟩ := fun k j => by
      unfold Addr.add
      split
      · simp
      · rfl
    rw [hadd2] at k1 k2
    have hg : ((List.range len).map f)[i]'(by simpa using hi') = f i := by simp
    rw [hg]
    exact ⟨k0, k1, k2⟩
end Go.Proofs.YtdeplhihcifmeaaGreatDoor
