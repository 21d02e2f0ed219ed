/- TaperFarey returns true for every three numbers; the library's tables that its row lists are tied to the program's text. Conditions: none beside that. -/
import Derived.Test.YtfmfpnnglogkmaaGreatDoorN7
import Derived.Deep.RegionHeld3
/- Plain mathematics for TaperFarey: words with the exact rate. -/
namespace Go.Proofs.YtfmfpnnglogkmaaGreatDoor
open Go.RowKit Go.Shelf Ck

theorem share_mul {P D : Nat} (hD : 1 ≤ D) : ∃ g, 0 < g ∧ 2 * min P D = g * shareB P D ∧ P + D = g * shareL P D ∧ (shareB P D).gcd (shareL P D) = 1 := by
  have hg : 0 < (2 * min P D).gcd (P + D) := Nat.gcd_pos_of_pos_right _ (by omega)
  refine ⟨(2 * min P D).gcd (P + D), hg, ?_, ?_, ?_⟩
  · rw [shareB, Nat.mul_div_cancel' (Nat.gcd_dvd_left _ _)]
  · rw [shareL, Nat.mul_div_cancel' (Nat.gcd_dvd_right _ _)]
  · rw [shareB, shareL]
    exact Nat.gcd_div_gcd_div_gcd_of_pos_right (by omega)
theorem gW_zero {P D B L : Nat} (hD : 1 ≤ D) : gW P D B L = 0 ↔ B * shareL P D = shareB P D * L := by
  obtain ⟨g, hg, h1, h2, -⟩ := share_mul (P := P) hD
  rw [gW_eq, h1]
  have h3 : (P : Int) + D = ((g * shareL P D : Nat) : Int) := by rw [← h2]; push_cast; rfl
  rw [h3]
  have e : (B : Int) * ((g * shareL P D : Nat) : Int) - ((g * shareB P D : Nat) : Int) * (L : Int) = (g : Int) * ((B * shareL P D : Nat) - (shareB P D * L : Nat)) := by
    push_cast
    grind
  rw [e]
  generalize B * shareL P D = u
  generalize shareB P D * L = v
  constructor
  · intro h
    have : (g : Int) * ((u : Int) - (v : Int)) = 0 := by omega
    rcases Int.mul_eq_zero.1 this with k | k
    · omega
    · omega
  · intro h
    rw [h]
    simp
theorem share_dvd {P D B L : Nat} (hD : 1 ≤ D) (h : B * shareL P D = shareB P D * L) : shareL P D ∣ L := by
  obtain ⟨g, hg, h1, h2, h3⟩ := share_mul (P := P) hD
  refine Nat.Coprime.dvd_of_dvd_mul_left (k := shareL P D) (n := L) (m := shareB P D) ?_ ⟨B, by rw [← h, Nat.mul_comm]⟩
  rw [Nat.coprime_comm]
  exact h3
theorem dW_zero {P D B L : Nat} (hD : 1 ≤ D) (hL : 1 ≤ L) (hlt : L < shareL P D) : xW P D B L * D ≠ P * yW P D B L := by
  intro h
  have h0 : gW P D B L = 0 := by rw [gW, dW]; omega
  have := Nat.le_of_dvd hL (share_dvd hD ((gW_zero hD).1 h0))
  omega
theorem yW_share {P D : Nat} (hD : 1 ≤ D) : 0 < yW P D (shareB P D) (shareL P D) := by
  obtain ⟨h1, h2, h3⟩ := shareL_pos (P := P) hD
  refine yW_pos h3 h1 fun hs => ?_
  obtain ⟨g, hg, k1, -, -⟩ := share_mul (P := P) hD
  rcases Nat.eq_zero_or_pos (shareB P D) with h0 | h0
  · rw [h0] at k1; omega
  · exact h0
theorem dW_share {P D : Nat} (hD : 1 ≤ D) : xW P D (shareB P D) (shareL P D) * D = P * yW P D (shareB P D) (shareL P D) := by
  have h : gW P D (shareB P D) (shareL P D) = 0 := (gW_zero hD).2 rfl
  rw [gW, dW] at h
  omega
theorem best_share {P D : Nat} {m : Nat × Nat} (hD : 1 ≤ D) (h : BestOf P D (AllW (shareL P D)) m) : m = (shareB P D, shareL P D) := by
  obtain ⟨h1, h2, h3⟩ := shareL_pos (P := P) hD
  have hg0 : gW P D (shareB P D) (shareL P D) = 0 := (gW_zero hD).2 rfl
  have hle := (h.le (shareB P D, shareL P D) ⟨h1, Nat.le_refl _, h3⟩ (yW_share hD)).1
  simp only [hg0, Int.zero_mul] at hle
  have hy := yW_share (P := P) hD
  have hn : 0 ≤ gW P D m.1 m.2 := by rw [gW]; omega
  have hz : gW P D m.1 m.2 = 0 := by
    rcases Int.lt_or_eq_of_le hn with k | k
    · have := Int.mul_pos k hy
      omega
    · exact k.symm
  have e := (gW_zero hD).1 hz
  have hd := share_dvd hD e
  obtain ⟨i1, i2, i3⟩ := h.is
  have e2 : m.2 = shareL P D := Nat.le_antisymm i2 (Nat.le_of_dvd (by omega) hd)
  rw [e2] at e
  have e1 : m.1 = shareB P D := Nat.eq_of_mul_eq_mul_right (by omega) e
  exact Prod.ext e1 e2
theorem prv_true {N D n a b c d : Nat} (h : NbE N D n a b c d) : prvB N D n a b c d = true := by
  refine decide_eq_true ⟨?_, ?_, by exact_mod_cast h.lo, by exact_mod_cast h.hi, ?_⟩
  · exact decide_eq_true ⟨by have := h.b1; omega, by have := h.bn; omega, by omega, by have := h.ab; omega, by simpa using h.ga⟩
  · exact decide_eq_true ⟨by have := h.d1; omega, by have := h.dn; omega, by omega, by have := h.cd; omega, by simpa using h.gc⟩
  · rcases h.fin with ⟨h1, h2⟩ | ⟨h1, h2, -, -⟩
    · exact .inl ⟨by omega, by omega⟩
    · refine .inr ⟨?_, by omega⟩
      have : (c : Int) * b = a * d + 1 := by exact_mod_cast h1
      omega
end Go.Proofs.YtfmfpnnglogkmaaGreatDoor

/- nearer, and what the walk of TaperFarey wants to know. -/
namespace Go.Proofs.YtfmfpnnglogkmaaGreatDoor
open Go.RowKit Go.Shelf Ck

/-- Does the first vector's rate differ less? -/
def nrB (P D : Nat) (x y u v : Int) : Bool := decide (max (x * D - P * y) (-(x * D - P * y)) * v < max (u * D - P * v) (-(u * D - P * v)) * y)
theorem mulB {a : Int} {b A : Nat} (h0 : 0 ≤ a) (h1 : a ≤ (A : Int)) (hb : b ≤ 100) : 0 ≤ a * (b : Int) ∧ a * (b : Int) ≤ (A : Int) * 100 := ⟨Int.mul_nonneg h0 (by omega), Int.mul_le_mul h1 (by omega) (by omega) (by omega)⟩
set_option maxHeartbeats 4000000 in
set_option maxRecDepth 100000 in
theorem lawNearer (P D : Nat) (x y u v : Int) (w : World) (hP : P ≤ 100) (hD : D ≤ 100) (x0 : 0 ≤ x) (x1 : x ≤ 200) (y0 : 0 ≤ y) (y1 : y ≤ 200) (u0 : 0 ≤ u) (u1 : u ≤ 200) (v0 : 0 ≤ v) (v1 : v ≤ 200) :
    Calls Tryz.prog 31 #[.agg #[.int .i64 P, .int .i64 D], .agg #[.int .i64 x, .int .i64 y], .agg #[.int .i64 u, .int .i64 v]] w fun e w' => e = .returned (.bool (nrB P D x y u v)) ∧ Below w.heap.size w w' := by
  obtain ⟨m1, m2⟩ := mulB (A := 200) x0 x1 hD
  obtain ⟨m3, m4⟩ := mulB (A := 200) y0 y1 hP
  obtain ⟨m5, m6⟩ := mulB (A := 200) u0 u1 hD
  obtain ⟨m7, m8⟩ := mulB (A := 200) v0 v1 hP
  rw [Int.mul_comm y] at m3 m4
  rw [Int.mul_comm v] at m7 m8
  have HC := Lib.hid (show nrB P D x y u v = decide (max (x * D - P * y) (-(x * D - P * y)) * v < max (u * D - P * v) (-(u * D - P * v)) * y) from rfl)
  obtain ⟨p1, hp1⟩ : ∃ p, x * (D : Int) = p := ⟨_, rfl⟩
  obtain ⟨p2, hp2⟩ : ∃ p, (P : Int) * y = p := ⟨_, rfl⟩
  obtain ⟨p3, hp3⟩ : ∃ p, u * (D : Int) = p := ⟨_, rfl⟩
  obtain ⟨p4, hp4⟩ : ∃ p, (P : Int) * v = p := ⟨_, rfl⟩
  rw [hp1] at m1 m2 HC
  rw [hp2] at m3 m4 HC
  rw [hp3] at m5 m6 HC
  rw [hp4] at m7 m8 HC
  obtain ⟨d0, hd0⟩ : ∃ p, p1 - p2 = p := ⟨_, rfl⟩
  obtain ⟨g0, hg0⟩ : ∃ p, p3 - p4 = p := ⟨_, rfl⟩
  rw [hd0, hg0] at HC
  have w1 : IntKind.i64.wrap p1 = p1 := by rw [IntKind.wrap_i64]; omega
  have w2 : IntKind.i64.wrap p2 = p2 := by rw [IntKind.wrap_i64]; omega
  have w3 : IntKind.i64.wrap p3 = p3 := by rw [IntKind.wrap_i64]; omega
  have w4 : IntKind.i64.wrap p4 = p4 := by rw [IntKind.wrap_i64]; omega
  have w5 : IntKind.i64.wrap d0 = d0 := by rw [IntKind.wrap_i64]; omega
  have w6 : IntKind.i64.wrap g0 = g0 := by rw [IntKind.wrap_i64]; omega
  have r1 : -20000 ≤ d0 := by omega
  have r2 : d0 ≤ 20000 := by omega
  have r3 : -20000 ≤ g0 := by omega
  have r4 : g0 ≤ 20000 := by omega
  obtain ⟨E1, hE1⟩ : ∃ E, max d0 (-d0) = E := ⟨_, rfl⟩
  obtain ⟨E2, hE2⟩ : ∃ E, max g0 (-g0) = E := ⟨_, rfl⟩
  have t3 : 0 ≤ E1 ∧ E1 ≤ 20000 := by omega
  have t4 : 0 ≤ E2 ∧ E2 ≤ 20000 := by omega
  have q1 : 0 ≤ E1 * v ∧ E1 * v ≤ 20000 * 200 := ⟨Int.mul_nonneg t3.1 (by omega), Int.mul_le_mul t3.2 (by omega) (by omega) (by omega)⟩
  have q2 : 0 ≤ E2 * y ∧ E2 * y ≤ 20000 * 200 := ⟨Int.mul_nonneg t4.1 (by omega), Int.mul_le_mul t4.2 (by omega) (by omega) (by omega)⟩
  rw [hE1, hE2] at HC
  obtain ⟨g1, hg1⟩ : ∃ g, E1 * v = g := ⟨_, rfl⟩
  obtain ⟨g2, hg2⟩ : ∃ g, E2 * y = g := ⟨_, rfl⟩
  rw [hg1] at q1 HC
  rw [hg2] at q2 HC
  obtain ⟨q1, q1'⟩ := q1
  obtain ⟨q2, q2'⟩ := q2
  obtain ⟨W1, hW1, k0, k1, k2, hb1, hz1⟩ := boxH3 w (.cells #[.int .i64 P, .int .i64 D] 23) (.cells #[.int .i64 x, .int .i64 y] 66) (.cells #[.int .i64 u, .int .i64 v] 66)
  have HW1 := Lib.hid hW1
  obtain ⟨c0, c1, -, -⟩ := two_cell k0
  obtain ⟨d1, d2, -, -⟩ := two_cell k1
  obtain ⟨e0, e1, -, -⟩ := two_cell k2
  clear hW1 hz1 k0 k1 k2 t3 t4 m1 m2 m3 m4 m5 m6 m7 m8
  go_enter Tryz.func31, Tryz.ntmps31
  go_wp2_with fail
  rw [← HW1.out]
  go_quiet (fail)
  go_wp2
  go_ret
  exact ⟨ret_b HC.out.symm, below_drewN hb1 _⟩
/-- What is known of the nearest word. -/
structure FaF (P D n x y : Nat) (S : ByteArray) : Prop where
  word : Word S
  size : S.size = y
  y1 : 1 ≤ y
  yn : y ≤ n
  xy : x ≤ y
  mem : ∀ c ∈ S.data.toList, c = 66 ∨ c = otherC P D
  bars : barsN S.data.toList = x
  yp : 0 < yW P D x y
  rw : ∀ w, Calls Tryz.prog 29 #[.agg #[.int .i64 P, .int .i64 D], .agg #[.int .i64 x, .int .i64 y]] w fun e w' => e = .returned (.string S) ∧ Below w.heap.size w w'
  vec : ∀ w, Calls Tryz.prog 30 #[.string S] w fun e w' => e = .returned (.agg #[.int .i64 (xW P D x y), .int .i64 (yW P D x y)]) ∧ Below w.heap.size w w'
  best : ∀ B L, 1 ≤ L → L ≤ n → B ≤ L → 0 < yW P D B L → nrB P D (xW P D B L) (yW P D B L) (xW P D x y) (yW P D x y) = false
theorem near_isL {P D p q : Nat} : ∀ c ∈ (nearWord P D p q).data.toList, c = 66 ∨ c = otherC P D := fun c h => by
  rw [near_data] at h
  exact spreadL_mem q c h
theorem fa_rw {P D x y : Nat} (hxy : x ≤ y) (hy : y ≤ 64) (w : World) : Calls Tryz.prog 29 #[.agg #[.int .i64 P, .int .i64 D], .agg #[.int .i64 x, .int .i64 y]] w fun e w' => e = .returned (.string (nearWord P D x y)) ∧ Below w.heap.size w w' :=
  rfWord P D x y w hxy (by omega)
theorem fa_vec {P D x y : Nat} (hxy : x ≤ y) (h1 : 1 ≤ y) (hy : y ≤ 64) (w : World) : Calls Tryz.prog 30 #[.string (nearWord P D x y)] w fun e w' => e = .returned (.agg #[.int .i64 (xW P D x y), .int .i64 (yW P D x y)]) ∧ Below w.heap.size w w' := by
  have h := rfVector (nearWord P D x y) w (nearWord_word h1 hy)
  rwa [near_vec hxy h1] at h
theorem fa_facts {P D n : Nat} {m : Nat × Nat} (hn : n ≤ 64) (h : BestOf P D (AllW n) m) : FaF P D n m.1 m.2 (nearWord P D m.1 m.2) := by
  obtain ⟨i1, i2, i3⟩ := h.is
  refine ⟨nearWord_word i1 (by omega), near_size _ _ _ _, i1, i2, i3, near_isL, near_barsN i3 i1, h.y, fa_rw i3 (by omega), fa_vec i3 i1 (by omega), fun B L h1 h2 h3 h4 => ?_⟩
  refine decide_eq_false fun hlt => ?_
  have hle := (h.le (B, L) ⟨h1, h2, h3⟩ h4).1
  simp only at hle
  rw [gW, gW, dW, dW] at hle
  have e1 : ∀ z : Int, max z (-z) = (z.natAbs : Int) := fun z => by omega
  rw [e1, e1] at hlt
  omega
theorem xW_le {P D B L : Nat} (hB : B ≤ L) (hL : L ≤ 64) : 0 ≤ xW P D B L ∧ xW P D B L ≤ 128 ∧ 0 ≤ yW P D B L ∧ yW P D B L ≤ 128 := by
  unfold xW yW
  split <;> omega
/-- What is known of the word that has the rate. -/
structure FaX (P D L : Nat) (X : ByteArray) : Prop where
  word : Word X
  size : X.size = L
  l1 : 1 ≤ L
  l64 : L ≤ 64
  ex : ∀ w, Calls Tryz.prog 32 #[.agg #[.int .i64 P, .int .i64 D]] w fun e w' => e = .returned (.tuple #[.string X, .int .i64 0]) ∧ Below w.heap.size w w'
  ne : ∀ w, Calls Tryz.prog 10 #[.agg #[.int .i64 P, .int .i64 D], .int .i64 L] w fun e w' => e = .returned (.tuple #[.string X, .int .i64 0]) ∧ Below w.heap.size w w'
  vec : ∃ x y : Int, 0 ≤ x ∧ x ≤ 128 ∧ 0 ≤ y ∧ y ≤ 128 ∧ x * D = P * y ∧ ∀ w, Calls Tryz.prog 30 #[.string X] w fun e w' => e = .returned (.agg #[.int .i64 x, .int .i64 y]) ∧ Below w.heap.size w w'
  no : ∀ B M, 1 ≤ M → M < L → xW P D B M * D ≠ P * yW P D B M
theorem fa_exact {P D : Nat} (h : ratE (P : Int) (D : Int) = 0) (hD : 1 ≤ D) (hm : shareL P D ≤ 64) : FaX P D (shareL P D) (slB P D) := by
  obtain ⟨h1, h2, h3⟩ := shareL_pos (P := P) hD
  have e : slB P D = nearWord P D (shareB P D) (shareL P D) := rfl
  obtain ⟨b1, b2, b3, b4⟩ := xW_le (P := P) (D := D) h3 hm
  refine ⟨by rw [e]; exact nearWord_word h1 hm, by rw [e]; exact near_size _ _ _ _, h1, hm, fun w => tpExactOk P D w h hm, fun w => ?_, ⟨_, _, b1, b2, b3, b4, dW_share hD, fun w => by rw [e]; exact fa_vec h3 h1 hm w⟩, fun B M m1 m2 => dW_zero hD m1 m2⟩
  obtain ⟨p, q, r, s, hR⟩ : ∃ p q r s, nbF (shareB P D) (shareL P D) (shareL P D) (shareL P D) 0 1 1 1 = (p, q, r, s) := ⟨_, _, _, _, rfl⟩
  have F := nr_facts hD h1 hR
  have k := tpNearestC P D (shareL P D) p q r s w h h1 hm hR
  rw [best_share hD F.best] at k
  exact k
end Go.Proofs.YtfmfpnnglogkmaaGreatDoor

/- The walk of TaperFarey: ratios up to 1. -/
namespace Go.Proofs.YtfmfpnnglogkmaaGreatDoor
open Go.RowKit Go.Shelf Ck

theorem faWordE {s : ByteArray} (h : Word s) : wordE s.data.toList = 0 := by
  have hz := Lib.size_eq s
  have h1 : s.data.toList ≠ [] := fun e => by
    rw [e, List.length_nil] at hz
    have := h.2.1
    omega
  have h2 : ¬ 64 < s.data.toList.length := by have := h.2.2; omega
  rw [wordE, if_neg h1, if_neg h2, if_pos]
  rw [List.all_eq_true]
  exact fun c hc => (okC_iff c).2 (h.1 c hc)
theorem barsN_take {L : List UInt8} {k : Nat} (h : k < L.length) : barsN (L.take (k + 1)) = barsN (L.take k) + if L[k] = 66 then 1 else 0 := by
  rw [List.take_succ_eq_append_getElem h, barsN, barsN, List.countP_append]
  congr 1
  by_cases hc : L[k] = 66
  · rw [if_pos hc]
    simp [hc]
  · rw [if_neg hc]
    simp [hc]
theorem keepFL {W0 w1 w2 : World} {g h : Nat} {a b x y : Value}
    (hh : (w1.cell? ⟨g, 0, none⟩ = some a ∧ w1.cell? ⟨g, 1, none⟩ = some b) ∧ (w1.cell? ⟨h, 0, none⟩ = some x ∧ w1.cell? ⟨h, 1, none⟩ = some y) ∧ (g < w1.heap.size ∧ h < w1.heap.size) ∧ Below W0.heap.size W0 w1)
    (hb : Below w1.heap.size w1 w2) : (w2.cell? ⟨g, 0, none⟩ = some a ∧ w2.cell? ⟨g, 1, none⟩ = some b) ∧ (w2.cell? ⟨h, 0, none⟩ = some x ∧ w2.cell? ⟨h, 1, none⟩ = some y) ∧ (g < w2.heap.size ∧ h < w2.heap.size) ∧ Below W0.heap.size W0 w2 := by
  obtain ⟨⟨a0, a1⟩, ⟨b0, b1⟩, ⟨c0, c1⟩, e⟩ := hh
  have hz := hb.size
  exact ⟨⟨(hb.cell (p := ⟨g, 0, none⟩) c0).trans a0, (hb.cell (p := ⟨g, 1, none⟩) c0).trans a1⟩, ⟨(hb.cell (p := ⟨h, 0, none⟩) c1).trans b0, (hb.cell (p := ⟨h, 1, none⟩) c1).trans b1⟩, ⟨by omega, by omega⟩, e.trans (hb.mono e.size)⟩
set_option maxHeartbeats 16000000 in
set_option maxRecDepth 100000 in
theorem lawFareyL (p d t : Int) (P D n x y e f g h : Nat) (S : ByteArray) (w : World) (p0 : 0 ≤ p) (p1 : p < 256) (d0 : 0 ≤ d) (d1 : d < 256) (t0 : 0 ≤ t) (t1 : t < 256) (ha : p % 41 = (P : Int)) (hb : 1 + d % 40 = (D : Int)) (hc : 1 + t % 12 = (n : Int))
    (hg : P.gcd D = 1) (hst : ¬ D < P) (F : NeFacts P D n true e f g h e f g h S) (G : FaF P D n x y S) (hX : shareL P D ≤ 64 → FaX P D (shareL P D) (slB P D)) :
    Calls Tryz.prog 5 #[.int .u8 p, .int .u8 d, .int .u8 t] w fun e w' => e = .returned (.bool true) ∧ Below w.heap.size w w' := by
  have ex0 : ∀ (a b : Value) (w : World), (Instr.extract (.tuple #[a, b]) 0).run Tryz.prog w = .ok a w := fun _ _ _ => by kernel_rfl
  have ex1 : ∀ (a b : Value) (w : World), (Instr.extract (.tuple #[a, b]) 1).run Tryz.prog w = .ok b w := fun _ _ _ => by kernel_rfl
  have hP40 : P ≤ 40 := by omega
  have hD1 : 1 ≤ D := by omega
  have hD40 : D ≤ 40 := by omega
  have hn1 : 1 ≤ n := by omega
  have hn12 : n ≤ 12 := by omega
  have hcw1 : IntKind.i64.wrap p = p := by rw [IntKind.wrap_i64]; omega
  have hcw2 : IntKind.i64.wrap d = d := by rw [IntKind.wrap_i64]; omega
  have hcw3 : IntKind.i64.wrap t = t := by rw [IntKind.wrap_i64]; omega
  have HF := Lib.hid F
  have HG := Lib.hid G
  have HX := Lib.hid hX
  have HGC := Lib.hid hg
  have HSZ := Lib.hid G.size
  have HY1 := Lib.hid G.y1
  have HYN := Lib.hid G.yn
  clear F G hX hg
  go_enter Tryz.func5, Tryz.ntmps5
  go_wp2_with fail
  refine (awake2 _).mono ?_
  rintro e' w1 ⟨rfl, hb1⟩
  go_wp2_with fail
  refine (refGcd P D _ (by omega) (by omega)).mono ?_
  rintro e' w2 ⟨rfl, hb2⟩
  rw [HGC.out]
  have B2 := hb1.trans (hb2.mono hb1.size)
  clear hb1 hb2
  obtain ⟨w3, hw3, k3, hb3, hz3⟩ := boxH2 w2 (.int .i64 P) (.int .i64 D) 23
  have hw3' := hw3.symm
  have B3 := B2.trans (hb3.mono B2.size)
  have hgr := B2.size
  obtain ⟨gr, hgrE⟩ : ∃ g, w2.heap.size = g := ⟨_, rfl⟩
  rw [hgrE] at k3 hz3 hgr
  obtain ⟨c0, c1, -, -⟩ := two_cell k3
  clear hw3 B2 hb3
  go_wp2_with fail
  clear hw3'
  clear ha hb hc hcw1 hcw2 hcw3 hgrE p0 p1 d0 d1 t0 t1
  refine (HF.out.nb _).mono ?_
  rintro e' w4 ⟨rfl, hb4⟩
  have k4 := (hb4.block _ (Array.getElem?_eq_some_iff.1 k3).1).trans k3
  have B4 := B3.trans (hb4.mono B3.size)
  clear k3 hz3 B3 hb4 c0 c1
  obtain ⟨w5, hw5, m5, hb5⟩ := boxB w4 (.cells #[.int .i64 e, .int .i64 f, .int .i64 g, .int .i64 h] 29)
  have hw5' := hw5.symm
  have k5 := (hb5.block _ (Array.getElem?_eq_some_iff.1 k4).1).trans k4
  have B5 := B4.trans (hb5.mono B4.size)
  obtain ⟨gn, hgnE⟩ : ∃ g, w4.heap.size = g := ⟨_, rfl⟩
  rw [hgnE] at m5
  obtain ⟨c0, c1, -, -⟩ := two_cell k5
  clear k4 hw5 B4 hb5
  go_wp2_with fail
  clear hw5' hgnE
  refine (HF.out.ne _).mono ?_
  rintro e' w6 ⟨rfl, hb6⟩
  have k6 := (hb6.block _ (Array.getElem?_eq_some_iff.1 k5).1).trans k5
  have m6 := (hb6.block _ (Array.getElem?_eq_some_iff.1 m5).1).trans m5
  have B6 := B5.trans (hb6.mono B5.size)
  have z1 := (Array.getElem?_eq_some_iff.1 k6).1
  have z2 := (Array.getElem?_eq_some_iff.1 m6).1
  clear k5 m5 B5 hb6 c0 c1
  obtain ⟨c0, c1, -, -⟩ := two_cell k6
  obtain ⟨⟨n0, n1, n2, n3⟩, -, -, -, -⟩ := four_cell m6
  have HWE := Lib.hid (show ∀ W : World, Calls Tryz.prog 28 #[.string S] W fun e w' => e = .returned (.int .i64 0) ∧ W = w' from fun W => by
    have h := refCheckWord S W (by have := HG.out.word.2.2; omega)
    rwa [faWordE HG.out.word] at h)
  have hlen : ¬ (n : Int) < (S.size : Int) := by rw [HSZ.out]; have := HYN.out; omega
  clear k6 m6
  go_wp2_with fail
  go_region_held3 (fun w' => (w'.cell? ⟨gr, 0, none⟩ = some (.int .i64 P) ∧ w'.cell? ⟨gr, 1, none⟩ = some (.int .i64 D)) ∧ (w'.cell? ⟨gn, 0, none⟩ = some (.int .i64 e) ∧ w'.cell? ⟨gn, 1, none⟩ = some (.int .i64 f) ∧ w'.cell? ⟨gn, 2, none⟩ = some (.int .i64 g) ∧ w'.cell? ⟨gn, 3, none⟩ = some (.int .i64 h)) ∧ (gr < w'.heap.size ∧ gn < w'.heap.size) ∧ Below w.heap.size w w')
    (first | exact ⟨⟨c0, c1⟩, ⟨n0, n1, n2, n3⟩, ⟨z1, z2⟩, below_drew B6⟩ | exact keepTF (by assumption) (by assumption) | assumption | go_keep)
    (first
      | (go_at_call 9; refine (HF.out.ck _).mono ?_; rintro e' w' ⟨rfl, hbq⟩)
      | (go_at_call 15; refine (lawParts _ _ _ _ _).mono ?_; rintro e' w' ⟨rfl, hbq⟩)
      | (go_at_call 14; refine (HF.out.rpr _).mono ?_; rintro e' w' ⟨rfl, hbq⟩)
      | (go_at_call 28; refine (HWE.out _).mono ?_; rintro e' w' ⟨rfl, rfl⟩))
  rename_i hH
  obtain ⟨⟨e0, e1⟩, -, ⟨z3, -⟩, B7⟩ := hH
  obtain ⟨L, hL⟩ : ∃ L, S.data.toList = L := ⟨_, rfl⟩
  have hLz : L.length = S.size := by rw [← hL]; exact (Lib.size_eq S).symm
  have HLB := Lib.hid (show ∀ (k : Nat) (h : k < S.size) (h' : k < L.length), S[k] = L[k] from fun k h h' => by subst hL; exact (byte_at S k h h').symm)
  have HLM := Lib.hid (show ∀ c ∈ L, c = 66 ∨ c = 78 from fun c hc => by
    have h := HG.out.mem c (by rw [hL]; exact hc)
    rwa [show otherC P D = 78 by rw [otherC, if_neg hst]] at h)
  have HLZ := Lib.hid hLz
  have HBX := Lib.hid (show barsN (L.take S.size) = x by rw [List.take_of_length_le (by omega), ← hL]; exact HG.out.bars)
  obtain ⟨X0, hX0⟩ : ∃ v, xW P D x y = v := ⟨_, rfl⟩
  obtain ⟨Y0, hY0⟩ : ∃ v, yW P D x y = v := ⟨_, rfl⟩
  have HVEC := Lib.hid (show ∀ w, Calls Tryz.prog 30 #[.string S] w fun e w' => e = .returned (.agg #[.int .i64 X0, .int .i64 Y0]) ∧ Below w.heap.size w w' from fun w => by
    have h := HG.out.vec w
    rwa [hX0, hY0] at h)
  have hYp : (Y0 == 0) = false := by rw [beq_eq_false_iff_ne, ← hY0]; have := HG.out.yp; omega
  have HXB := Lib.hid (show 0 ≤ X0 ∧ X0 ≤ 128 ∧ 0 ≤ Y0 ∧ Y0 ≤ 128 by
    rw [← hX0, ← hY0]
    exact xW_le HG.out.xy (by have := HYN.out; omega))
  have HNR := Lib.hid (show ∀ (B M : Nat) (u v : Int) (W : World), 1 ≤ M → M ≤ n → B ≤ M → xW P D B M = u → yW P D B M = v → 0 < v → Calls Tryz.prog 31 #[.agg #[.int .i64 P, .int .i64 D], .agg #[.int .i64 u, .int .i64 v], .agg #[.int .i64 X0, .int .i64 Y0]] W fun e w' => e = .returned (.bool false) ∧ Below W.heap.size W w' from fun B M u v W h1 h2 h3 h4 h5 h6 => by
    subst h4 h5
    obtain ⟨b1, b2, b3, b4⟩ := xW_le (P := P) (D := D) h3 (show M ≤ 64 by omega)
    have hb := HG.out.best B M h1 h2 h3 h6
    rw [hX0, hY0] at hb
    have h := lawNearer P D (xW P D B M) (yW P D B M) X0 Y0 W (by omega) (by omega) b1 (by omega) b3 (by omega) HXB.out.1 (by have := HXB.out.2.1; omega) HXB.out.2.2.1 (by have := HXB.out.2.2.2; omega)
    rwa [hb] at h)
  have HRW := Lib.hid (show ∀ w, Calls Tryz.prog 29 #[.agg #[.int .i64 P, .int .i64 D], .agg #[.int .i64 x, .int .i64 S.size]] w fun e w' => e = .returned (.string S) ∧ Below w.heap.size w w' from fun w => by
    rw [HSZ.out]
    exact HG.out.rw w)
  clear hL hLz hX0 hY0 HG c0 c1 n0 n1 n2 n3 z1 z2 B6
  go_wp2_with fail
  go_loop [16, 17, 101] (fun a _ iv => ∃ m : Nat, m ≤ S.size ∧ iv = .int .i64 m ∧ a = .int .i64 (barsN (L.take m) : Nat)) (fun _ _ iv => S.size - (intOf iv).toNat)
  case atStart => exact ⟨0, Nat.zero_le _, rfl, by simp [barsN]⟩
  case round =>
    obtain ⟨m, hm, rfl, rfl⟩ := hrel
    by_cases hlt : m < S.size
    · have k0 : (0 : Int) ≤ (m : Int) := by omega
      have k1 : (m : Int) < (S.size : Int) := by omega
      have hmL : m < L.length := by rw [HLZ.out]; exact hlt
      have hel := HLB.out m hlt hmL
      have hcl : barsN (L.take m) ≤ 1000 := Nat.le_trans List.countP_le_length (by rw [List.length_take]; omega)
      have HN := Lib.hid (barsN_take hmL)
      obtain ⟨v, hv⟩ : ∃ v, barsN (L.take m) = v := ⟨_, rfl⟩
      rw [hv] at hcl HN ⊢
      clear hv
      by_cases hc : L[m] = 66
      · have q1 : S[m].toNat = 66 := by rw [hel, hc]; rfl
        have HN2 := Lib.hid (show barsN (L.take (m + 1)) = v + 1 by rw [HN.out, if_pos hc])
        clear hc hel HN
        go_wp2
        go_round
        case rel => exact ⟨m + 1, by omega, by go_num, by rw [HN2.out]; go_num⟩
        case measure => simp [intOf]; omega
      · have q1 : S[m].toNat = 78 := by rw [hel, (HLM.out _ (List.getElem_mem hmL)).resolve_left hc]; rfl
        have HN2 := Lib.hid (show barsN (L.take (m + 1)) = v by rw [HN.out, if_neg hc]; rfl)
        clear hc hel HN
        go_wp2
        go_round
        case rel => exact ⟨m + 1, by omega, by go_num, by rw [HN2.out]⟩
        case measure => simp [intOf]; omega
    · obtain rfl : m = S.size := by omega
      rw [HBX.out]
      have ex := idxI1
      go_wp2_with fail
      refine (HRW.out _).mono ?_
      rintro e' w8 ⟨rfl, hb8⟩
      have B8 := B7.trans (hb8.mono B7.size)
      replace e0 := (hb8.cell (p := ⟨gr, 0, none⟩) z3).trans e0
      replace e1 := (hb8.cell (p := ⟨gr, 1, none⟩) z3).trans e1
      replace z3 := Nat.lt_of_lt_of_le z3 hb8.size
      clear B7 hb8
      go_wp2_with fail
      refine (HVEC.out _).mono ?_
      rintro e' w9 ⟨rfl, hb9⟩
      have B9 := B8.trans (hb9.mono B8.size)
      replace e0 := (hb9.cell (p := ⟨gr, 0, none⟩) z3).trans e0
      replace e1 := (hb9.cell (p := ⟨gr, 1, none⟩) z3).trans e1
      replace z3 := Nat.lt_of_lt_of_le z3 hb9.size
      clear B8 hb9
      go_wp2_with fail
      go_loopg [18, 19, 20] n (fun k sv _ _ wi => ∃ M : Nat, k = n + 1 - M ∧ 1 ≤ M ∧ M ≤ n + 1 ∧ sv = .int .i64 M ∧ (wi.cell? ⟨gr, 0, none⟩ = some (.int .i64 P) ∧ wi.cell? ⟨gr, 1, none⟩ = some (.int .i64 D)) ∧ gr < wi.heap.size ∧ Below w.heap.size w wi)
      case atStart => exact ⟨1, by omega, by omega, by omega, rfl, ⟨e0, e1⟩, z3, B9⟩
      case round =>
        clear e0 e1 z3 B9
        obtain ⟨M, hk, hM1, hM, rfl, ⟨e0, e1⟩, z3, B9⟩ := hrel
        by_cases hMn : M ≤ n
        · go_wp2_with fail
          go_loopg [19, 20] (M + 1) (fun k bv _ wi => ∃ B : Nat, k = M + 1 - B ∧ B ≤ M + 1 ∧ bv = .int .i64 B ∧ (wi.cell? ⟨gr, 0, none⟩ = some (.int .i64 P) ∧ wi.cell? ⟨gr, 1, none⟩ = some (.int .i64 D)) ∧ gr < wi.heap.size ∧ Below w.heap.size w wi)
          case atStart => exact ⟨0, by omega, by omega, rfl, ⟨e0, e1⟩, z3, B9⟩
          case round =>
            clear e0 e1 z3 B9
            obtain ⟨B, hk2, hB, rfl, ⟨e0, e1⟩, z3, B9⟩ := hrel
            by_cases hBM : B ≤ M
            · obtain ⟨V, hV⟩ : ∃ V, (B : Int) + 2 * ((M : Int) - (B : Int)) = V := ⟨_, rfl⟩
              have hV0 : 0 ≤ V := by omega
              have hV2 : V ≤ 200 := by omega
              obtain ⟨W1, hW1, m0, bb1, bz1⟩ := boxH2 wr (.int .i64 B) (.int .i64 V) 66
              have hW1' := hW1.symm
              have B10 := B9.trans (bb1.mono B9.size)
              replace e0 := (bb1.cell (p := ⟨gr, 0, none⟩) z3).trans e0
              replace e1 := (bb1.cell (p := ⟨gr, 1, none⟩) z3).trans e1
              obtain ⟨gv, hgv⟩ : ∃ g, wr.heap.size = g := ⟨_, rfl⟩
              rw [hgv] at m0 z3
              have zv := (Array.getElem?_eq_some_iff.1 m0).1
              have zr : gr < W1.heap.size := by omega
              have HXW := Lib.hid (show xW P D B M = B ∧ yW P D B M = V by
                rw [xW, yW, if_neg hst, if_neg hst]
                exact ⟨rfl, by omega⟩)
              have hpos : 0 < V := by omega
              obtain ⟨v0, v1, -, -⟩ := two_cell m0
              clear hW1 m0 bb1 bz1 B9
              go_wp2_with fail
              clear hW1'
              go_region_held3 (fun w' => (w'.cell? ⟨gr, 0, none⟩ = some (.int .i64 P) ∧ w'.cell? ⟨gr, 1, none⟩ = some (.int .i64 D)) ∧ (w'.cell? ⟨gv, 0, none⟩ = some (.int .i64 B) ∧ w'.cell? ⟨gv, 1, none⟩ = some (.int .i64 V)) ∧ (gr < w'.heap.size ∧ gv < w'.heap.size) ∧ Below w.heap.size w w')
                (first | exact ⟨⟨e0, e1⟩, ⟨v0, v1⟩, ⟨zr, zv⟩, below_drew B10⟩ | exact keepFL (by assumption) (by assumption) | assumption | go_keep)
                (first
                  | (go_at_call 30; refine (HVEC.out _).mono ?_; rintro e' w' ⟨rfl, hbq⟩)
                  | (go_at_call 31; refine (HNR.out B M _ _ _ hM1 hMn hBM HXW.out.1 HXW.out.2 (by omega)).mono ?_; rintro e' w' ⟨rfl, hbq⟩))
              all_goals
                rename_i hH
                obtain ⟨f01, -, ⟨zq, -⟩, BB⟩ := hH
                go_wp2
                go_roundg (M + 1 - (B + 1))
                case rel => exact ⟨B + 1, by omega, by omega, by go_num, f01, zq, BB⟩
                case measure => omega
            · obtain rfl : B = M + 1 := by omega
              go_wp2
              go_roundg (n + 1 - (M + 1))
              case rel => exact ⟨M + 1, by omega, by omega, by omega, by go_num, ⟨e0, e1⟩, z3, B9⟩
              case measure => omega
        · obtain rfl : M = n + 1 := by omega
          clear HNR HVEC HXB HLB HLM HLZ HBX HRW
          by_cases hm : shareL P D ≤ 64
          · have HXX := Lib.hid (HX.out hm)
            obtain ⟨K, hK⟩ : ∃ K, shareL P D = K := ⟨_, rfl⟩
            obtain ⟨T, hT⟩ : ∃ T, slB P D = T := ⟨_, rfl⟩
            rw [hK, hT] at HXX
            obtain rfl : K = T.size := HXX.out.size.symm
            obtain ⟨xs, ys, b1, b2, b3, b4, heq, hvec⟩ := HXX.out.vec
            have HVX := Lib.hid hvec
            have hT1 : 1 ≤ T.size := HXX.out.l1
            have hT64 : T.size ≤ 64 := HXX.out.l64
            clear hvec hK hT hm HX
            go_wp2_with fail
            refine (HXX.out.ex _).mono ?_
            rintro e' u1 ⟨rfl, hc1⟩
            have C1 := B9.trans (hc1.mono B9.size)
            replace e0 := (hc1.cell (p := ⟨gr, 0, none⟩) z3).trans e0
            replace e1 := (hc1.cell (p := ⟨gr, 1, none⟩) z3).trans e1
            replace z3 := Nat.lt_of_lt_of_le z3 hc1.size
            clear B9 hc1
            go_wp2_with fail
            refine (HVX.out _).mono ?_
            rintro e' u2 ⟨rfl, hc2⟩
            have C2 := C1.trans (hc2.mono C1.size)
            replace e0 := (hc2.cell (p := ⟨gr, 0, none⟩) z3).trans e0
            replace e1 := (hc2.cell (p := ⟨gr, 1, none⟩) z3).trans e1
            replace z3 := Nat.lt_of_lt_of_le z3 hc2.size
            clear C1 hc2
            obtain ⟨u3, hu3, n3, hc3, hy3⟩ := boxH2 u2 (.int .i64 xs) (.int .i64 ys) 66
            have hu3' := hu3.symm
            have C3 := C2.trans (hc3.mono C2.size)
            replace e0 := (hc3.cell (p := ⟨gr, 0, none⟩) z3).trans e0
            replace e1 := (hc3.cell (p := ⟨gr, 1, none⟩) z3).trans e1
            replace z3 := Nat.lt_of_lt_of_le z3 hc3.size
            obtain ⟨gx, hgx⟩ : ∃ g, u2.heap.size = g := ⟨_, rfl⟩
            rw [hgx] at n3
            obtain ⟨j0, j1, -, -⟩ := two_cell n3
            have HWT := Lib.hid (show ∀ W : World, Calls Tryz.prog 28 #[.string T] W fun e w' => e = .returned (.int .i64 0) ∧ W = w' from fun W => by
              have h := refCheckWord T W (by omega)
              rwa [faWordE HXX.out.word] at h)
            obtain ⟨m1, m2⟩ := mulB (A := 128) b1 b2 (show D ≤ 100 by omega)
            obtain ⟨qq, hq1⟩ : ∃ q, xs * (D : Int) = q := ⟨_, rfl⟩
            rw [hq1] at m1 m2 heq
            have hq2 := heq.symm
            have wq : IntKind.i64.wrap qq = qq := by rw [IntKind.wrap_i64]; omega
            clear hu3 n3 hc3 hy3 C2 heq
            go_wp2_with fail
            clear hu3' hgx
            refine (HWT.out _).mono ?_
            rintro e' u4 ⟨rfl, rfl⟩
            go_wp2_with fail
            clear j0 j1 hq1 hq2 m1 m2 wq b1 b2 b3 b4 HWT HVX
            go_loopg [24, 25, 26] (T.size - 1) (fun k sv _ _ wi => ∃ M : Nat, k = T.size - M ∧ 1 ≤ M ∧ M ≤ T.size ∧ sv = .int .i64 M ∧ (wi.cell? ⟨gr, 0, none⟩ = some (.int .i64 P) ∧ wi.cell? ⟨gr, 1, none⟩ = some (.int .i64 D)) ∧ gr < wi.heap.size ∧ Below w.heap.size w wi)
            case atStart => exact ⟨1, by omega, by omega, by omega, rfl, ⟨e0, e1⟩, z3, C3⟩
            case round =>
              clear e0 e1 z3 C3
              obtain ⟨M, hk3, hM1, hM, rfl, ⟨e0, e1⟩, z3, B9⟩ := hrel
              by_cases hMn : M < T.size
              · go_wp2_with fail
                go_loopg [25, 26] (M + 1) (fun k bv _ wi => ∃ B : Nat, k = M + 1 - B ∧ B ≤ M + 1 ∧ bv = .int .i64 B ∧ (wi.cell? ⟨gr, 0, none⟩ = some (.int .i64 P) ∧ wi.cell? ⟨gr, 1, none⟩ = some (.int .i64 D)) ∧ gr < wi.heap.size ∧ Below w.heap.size w wi)
                case atStart => exact ⟨0, by omega, by omega, rfl, ⟨e0, e1⟩, z3, B9⟩
                case round =>
                  clear e0 e1 z3 B9
                  obtain ⟨B, hk4, hB, rfl, ⟨e0, e1⟩, z3, B9⟩ := hrel
                  by_cases hBM : B ≤ M
                  · obtain ⟨V, hV⟩ : ∃ V, (B : Int) + 2 * ((M : Int) - (B : Int)) = V := ⟨_, rfl⟩
                    have hV0 : 0 ≤ V := by omega
                    have hV2 : V ≤ 200 := by omega
                    obtain ⟨W1, hW1, m0, bb1, bz1⟩ := boxH2 wr (.int .i64 B) (.int .i64 V) 66
                    have hW1' := hW1.symm
                    have B10 := B9.trans (bb1.mono B9.size)
                    replace e0 := (bb1.cell (p := ⟨gr, 0, none⟩) z3).trans e0
                    replace e1 := (bb1.cell (p := ⟨gr, 1, none⟩) z3).trans e1
                    obtain ⟨gv, hgv⟩ : ∃ g, wr.heap.size = g := ⟨_, rfl⟩
                    rw [hgv] at m0 z3
                    have zv := (Array.getElem?_eq_some_iff.1 m0).1
                    have zr : gr < W1.heap.size := by omega
                    have hno := HXX.out.no B M hM1 hMn
                    rw [show xW P D B M = B by rw [xW, if_neg hst], show yW P D B M = V by rw [yW, if_neg hst]; omega] at hno
                    obtain ⟨m1, m2⟩ := mulB (a := (B : Int)) (A := 200) (by omega) (by omega) (show D ≤ 100 by omega)
                    obtain ⟨m3, m4⟩ := mulB (a := V) (A := 200) (by omega) (by omega) (show P ≤ 100 by omega)
                    rw [Int.mul_comm V] at m3 m4
                    obtain ⟨g1, hg1⟩ : ∃ q, (B : Int) * (D : Int) = q := ⟨_, rfl⟩
                    obtain ⟨g2, hg2⟩ : ∃ q, (P : Int) * V = q := ⟨_, rfl⟩
                    rw [hg1] at m1 m2 hno
                    rw [hg2] at m3 m4 hno
                    have hne : (g1 == g2) = false := by rw [beq_eq_false_iff_ne]; exact hno
                    have hpos : 0 < V := by omega
                    obtain ⟨v0, v1, -, -⟩ := two_cell m0
                    clear hW1 m0 bb1 bz1 B9 hno
                    go_wp2_with fail
                    go_roundg (M + 1 - (B + 1))
                    case rel => exact ⟨B + 1, by omega, by omega, by go_num, ⟨e0, e1⟩, zr, B10⟩
                    case measure => omega
                  · obtain rfl : B = M + 1 := by omega
                    go_wp2
                    go_roundg (T.size - (M + 1))
                    case rel => exact ⟨M + 1, by omega, by omega, by omega, by go_num, ⟨e0, e1⟩, z3, B9⟩
                    case measure => omega
              · obtain rfl : M = T.size := by omega
                go_wp2_with fail
                refine (HXX.out.ne _).mono ?_
                rintro e' u5 ⟨rfl, hc5⟩
                have C5 := B9.trans (hc5.mono B9.size)
                go_wp2
                go_ret
                exact ⟨rfl, C5⟩
          · go_wp2_with fail
            refine (tpExactLong P D _ HF.out.rat (by omega)).mono ?_
            rintro e' u1 ⟨rfl, hc1⟩
            have C1 := B9.trans (hc1.mono B9.size)
            go_wp2
            go_ret
            exact ⟨rfl, C1⟩
end Go.Proofs.YtfmfpnnglogkmaaGreatDoor

/- The walk of TaperFarey: ratios above 1. -/
namespace Go.Proofs.YtfmfpnnglogkmaaGreatDoor
open Go.RowKit Go.Shelf Ck

theorem keepFS {W0 w1 w2 : World} {g h : Nat} {a b x y : Value}
    (hh : (w1.cell? ⟨g, 0, none⟩ = some a ∧ w1.cell? ⟨g, 1, none⟩ = some b) ∧ (w1.cell? ⟨h, 0, none⟩ = some x ∧ w1.cell? ⟨h, 1, none⟩ = some y) ∧ (g < w1.heap.size ∧ h < w1.heap.size) ∧ Below W0.heap.size W0 w1)
    (hb : Below w1.heap.size w1 w2) : (w2.cell? ⟨g, 0, none⟩ = some a ∧ w2.cell? ⟨g, 1, none⟩ = some b) ∧ (w2.cell? ⟨h, 0, none⟩ = some x ∧ w2.cell? ⟨h, 1, none⟩ = some y) ∧ (g < w2.heap.size ∧ h < w2.heap.size) ∧ Below W0.heap.size W0 w2 := by
  obtain ⟨⟨a0, a1⟩, ⟨b0, b1⟩, ⟨c0, c1⟩, e⟩ := hh
  have hz := hb.size
  exact ⟨⟨(hb.cell (p := ⟨g, 0, none⟩) c0).trans a0, (hb.cell (p := ⟨g, 1, none⟩) c0).trans a1⟩, ⟨(hb.cell (p := ⟨h, 0, none⟩) c1).trans b0, (hb.cell (p := ⟨h, 1, none⟩) c1).trans b1⟩, ⟨by omega, by omega⟩, e.trans (hb.mono e.size)⟩
set_option maxHeartbeats 16000000 in
set_option maxRecDepth 100000 in
theorem lawFareyS (p d t : Int) (P D n x y e f g h : Nat) (S : ByteArray) (w : World) (p0 : 0 ≤ p) (p1 : p < 256) (d0 : 0 ≤ d) (d1 : d < 256) (t0 : 0 ≤ t) (t1 : t < 256) (ha : p % 41 = (P : Int)) (hb : 1 + d % 40 = (D : Int)) (hc : 1 + t % 12 = (n : Int))
    (hg : P.gcd D = 1) (hst : D < P) (F : NeFacts P D n true e f g h e f g h S) (G : FaF P D n x y S) (hX : shareL P D ≤ 64 → FaX P D (shareL P D) (slB P D)) :
    Calls Tryz.prog 5 #[.int .u8 p, .int .u8 d, .int .u8 t] w fun e w' => e = .returned (.bool true) ∧ Below w.heap.size w w' := by
  have ex0 : ∀ (a b : Value) (w : World), (Instr.extract (.tuple #[a, b]) 0).run Tryz.prog w = .ok a w := fun _ _ _ => by kernel_rfl
  have ex1 : ∀ (a b : Value) (w : World), (Instr.extract (.tuple #[a, b]) 1).run Tryz.prog w = .ok b w := fun _ _ _ => by kernel_rfl
  have hP40 : P ≤ 40 := by omega
  have hD1 : 1 ≤ D := by omega
  have hD40 : D ≤ 40 := by omega
  have hn1 : 1 ≤ n := by omega
  have hn12 : n ≤ 12 := by omega
  have hcw1 : IntKind.i64.wrap p = p := by rw [IntKind.wrap_i64]; omega
  have hcw2 : IntKind.i64.wrap d = d := by rw [IntKind.wrap_i64]; omega
  have hcw3 : IntKind.i64.wrap t = t := by rw [IntKind.wrap_i64]; omega
  have HF := Lib.hid F
  have HG := Lib.hid G
  have HX := Lib.hid hX
  have HGC := Lib.hid hg
  have HSZ := Lib.hid G.size
  have HY1 := Lib.hid G.y1
  have HYN := Lib.hid G.yn
  clear F G hX hg
  go_enter Tryz.func5, Tryz.ntmps5
  go_wp2_with fail
  refine (awake2 _).mono ?_
  rintro e' w1 ⟨rfl, hb1⟩
  go_wp2_with fail
  refine (refGcd P D _ (by omega) (by omega)).mono ?_
  rintro e' w2 ⟨rfl, hb2⟩
  rw [HGC.out]
  have B2 := hb1.trans (hb2.mono hb1.size)
  clear hb1 hb2
  obtain ⟨w3, hw3, k3, hb3, hz3⟩ := boxH2 w2 (.int .i64 P) (.int .i64 D) 23
  have hw3' := hw3.symm
  have B3 := B2.trans (hb3.mono B2.size)
  have hgr := B2.size
  obtain ⟨gr, hgrE⟩ : ∃ g, w2.heap.size = g := ⟨_, rfl⟩
  rw [hgrE] at k3 hz3 hgr
  obtain ⟨c0, c1, -, -⟩ := two_cell k3
  clear hw3 B2 hb3
  go_wp2_with fail
  clear hw3'
  clear ha hb hc hcw1 hcw2 hcw3 hgrE p0 p1 d0 d1 t0 t1
  refine (HF.out.nb _).mono ?_
  rintro e' w4 ⟨rfl, hb4⟩
  have k4 := (hb4.block _ (Array.getElem?_eq_some_iff.1 k3).1).trans k3
  have B4 := B3.trans (hb4.mono B3.size)
  clear k3 hz3 B3 hb4 c0 c1
  obtain ⟨w5, hw5, m5, hb5⟩ := boxB w4 (.cells #[.int .i64 e, .int .i64 f, .int .i64 g, .int .i64 h] 29)
  have hw5' := hw5.symm
  have k5 := (hb5.block _ (Array.getElem?_eq_some_iff.1 k4).1).trans k4
  have B5 := B4.trans (hb5.mono B4.size)
  obtain ⟨gn, hgnE⟩ : ∃ g, w4.heap.size = g := ⟨_, rfl⟩
  rw [hgnE] at m5
  obtain ⟨c0, c1, -, -⟩ := two_cell k5
  clear k4 hw5 B4 hb5
  go_wp2_with fail
  clear hw5' hgnE
  refine (HF.out.ne _).mono ?_
  rintro e' w6 ⟨rfl, hb6⟩
  have k6 := (hb6.block _ (Array.getElem?_eq_some_iff.1 k5).1).trans k5
  have m6 := (hb6.block _ (Array.getElem?_eq_some_iff.1 m5).1).trans m5
  have B6 := B5.trans (hb6.mono B5.size)
  have z1 := (Array.getElem?_eq_some_iff.1 k6).1
  have z2 := (Array.getElem?_eq_some_iff.1 m6).1
  clear k5 m5 B5 hb6 c0 c1
  obtain ⟨c0, c1, -, -⟩ := two_cell k6
  obtain ⟨⟨n0, n1, n2, n3⟩, -, -, -, -⟩ := four_cell m6
  have HWE := Lib.hid (show ∀ W : World, Calls Tryz.prog 28 #[.string S] W fun e w' => e = .returned (.int .i64 0) ∧ W = w' from fun W => by
    have h := refCheckWord S W (by have := HG.out.word.2.2; omega)
    rwa [faWordE HG.out.word] at h)
  have hlen : ¬ (n : Int) < (S.size : Int) := by rw [HSZ.out]; have := HYN.out; omega
  clear k6 m6
  go_wp2_with fail
  go_region_held3 (fun w' => (w'.cell? ⟨gr, 0, none⟩ = some (.int .i64 P) ∧ w'.cell? ⟨gr, 1, none⟩ = some (.int .i64 D)) ∧ (w'.cell? ⟨gn, 0, none⟩ = some (.int .i64 e) ∧ w'.cell? ⟨gn, 1, none⟩ = some (.int .i64 f) ∧ w'.cell? ⟨gn, 2, none⟩ = some (.int .i64 g) ∧ w'.cell? ⟨gn, 3, none⟩ = some (.int .i64 h)) ∧ (gr < w'.heap.size ∧ gn < w'.heap.size) ∧ Below w.heap.size w w')
    (first | exact ⟨⟨c0, c1⟩, ⟨n0, n1, n2, n3⟩, ⟨z1, z2⟩, below_drew B6⟩ | exact keepTF (by assumption) (by assumption) | assumption | go_keep)
    (first
      | (go_at_call 9; refine (HF.out.ck _).mono ?_; rintro e' w' ⟨rfl, hbq⟩)
      | (go_at_call 15; refine (lawParts _ _ _ _ _).mono ?_; rintro e' w' ⟨rfl, hbq⟩)
      | (go_at_call 14; refine (HF.out.rpr _).mono ?_; rintro e' w' ⟨rfl, hbq⟩)
      | (go_at_call 28; refine (HWE.out _).mono ?_; rintro e' w' ⟨rfl, rfl⟩))
  rename_i hH
  obtain ⟨⟨e0, e1⟩, -, ⟨z3, -⟩, B7⟩ := hH
  obtain ⟨L, hL⟩ : ∃ L, S.data.toList = L := ⟨_, rfl⟩
  have hLz : L.length = S.size := by rw [← hL]; exact (Lib.size_eq S).symm
  have HLB := Lib.hid (show ∀ (k : Nat) (h : k < S.size) (h' : k < L.length), S[k] = L[k] from fun k h h' => by subst hL; exact (byte_at S k h h').symm)
  have HLM := Lib.hid (show ∀ c ∈ L, c = 66 ∨ c = 84 from fun c hc => by
    have h := HG.out.mem c (by rw [hL]; exact hc)
    rwa [show otherC P D = 84 by rw [otherC, if_pos hst]] at h)
  have HLZ := Lib.hid hLz
  have HBX := Lib.hid (show barsN (L.take S.size) = x by rw [List.take_of_length_le (by omega), ← hL]; exact HG.out.bars)
  obtain ⟨X0, hX0⟩ : ∃ v, xW P D x y = v := ⟨_, rfl⟩
  obtain ⟨Y0, hY0⟩ : ∃ v, yW P D x y = v := ⟨_, rfl⟩
  have HVEC := Lib.hid (show ∀ w, Calls Tryz.prog 30 #[.string S] w fun e w' => e = .returned (.agg #[.int .i64 X0, .int .i64 Y0]) ∧ Below w.heap.size w w' from fun w => by
    have h := HG.out.vec w
    rwa [hX0, hY0] at h)
  have hYp : (Y0 == 0) = false := by rw [beq_eq_false_iff_ne, ← hY0]; have := HG.out.yp; omega
  have HXB := Lib.hid (show 0 ≤ X0 ∧ X0 ≤ 128 ∧ 0 ≤ Y0 ∧ Y0 ≤ 128 by
    rw [← hX0, ← hY0]
    exact xW_le HG.out.xy (by have := HYN.out; omega))
  have HNR := Lib.hid (show ∀ (B M : Nat) (u v : Int) (W : World), 1 ≤ M → M ≤ n → B ≤ M → xW P D B M = u → yW P D B M = v → 0 < v → Calls Tryz.prog 31 #[.agg #[.int .i64 P, .int .i64 D], .agg #[.int .i64 u, .int .i64 v], .agg #[.int .i64 X0, .int .i64 Y0]] W fun e w' => e = .returned (.bool false) ∧ Below W.heap.size W w' from fun B M u v W h1 h2 h3 h4 h5 h6 => by
    subst h4 h5
    obtain ⟨b1, b2, b3, b4⟩ := xW_le (P := P) (D := D) h3 (show M ≤ 64 by omega)
    have hb := HG.out.best B M h1 h2 h3 h6
    rw [hX0, hY0] at hb
    have h := lawNearer P D (xW P D B M) (yW P D B M) X0 Y0 W (by omega) (by omega) b1 (by omega) b3 (by omega) HXB.out.1 (by have := HXB.out.2.1; omega) HXB.out.2.2.1 (by have := HXB.out.2.2.2; omega)
    rwa [hb] at h)
  have HRW := Lib.hid (show ∀ w, Calls Tryz.prog 29 #[.agg #[.int .i64 P, .int .i64 D], .agg #[.int .i64 x, .int .i64 S.size]] w fun e w' => e = .returned (.string S) ∧ Below w.heap.size w w' from fun w => by
    rw [HSZ.out]
    exact HG.out.rw w)
  clear hL hLz hX0 hY0 HG c0 c1 n0 n1 n2 n3 z1 z2 B6
  go_wp2_with fail
  go_loop [16, 17, 101] (fun a _ iv => ∃ m : Nat, m ≤ S.size ∧ iv = .int .i64 m ∧ a = .int .i64 (barsN (L.take m) : Nat)) (fun _ _ iv => S.size - (intOf iv).toNat)
  case atStart => exact ⟨0, Nat.zero_le _, rfl, by simp [barsN]⟩
  case round =>
    obtain ⟨m, hm, rfl, rfl⟩ := hrel
    by_cases hlt : m < S.size
    · have k0 : (0 : Int) ≤ (m : Int) := by omega
      have k1 : (m : Int) < (S.size : Int) := by omega
      have hmL : m < L.length := by rw [HLZ.out]; exact hlt
      have hel := HLB.out m hlt hmL
      have hcl : barsN (L.take m) ≤ 1000 := Nat.le_trans List.countP_le_length (by rw [List.length_take]; omega)
      have HN := Lib.hid (barsN_take hmL)
      obtain ⟨v, hv⟩ : ∃ v, barsN (L.take m) = v := ⟨_, rfl⟩
      rw [hv] at hcl HN ⊢
      clear hv
      by_cases hc : L[m] = 66
      · have q1 : S[m].toNat = 66 := by rw [hel, hc]; rfl
        have HN2 := Lib.hid (show barsN (L.take (m + 1)) = v + 1 by rw [HN.out, if_pos hc])
        clear hc hel HN
        go_wp2
        go_round
        case rel => exact ⟨m + 1, by omega, by go_num, by rw [HN2.out]; go_num⟩
        case measure => simp [intOf]; omega
      · have q1 : S[m].toNat = 84 := by rw [hel, (HLM.out _ (List.getElem_mem hmL)).resolve_left hc]; rfl
        have HN2 := Lib.hid (show barsN (L.take (m + 1)) = v by rw [HN.out, if_neg hc]; rfl)
        clear hc hel HN
        go_wp2
        go_round
        case rel => exact ⟨m + 1, by omega, by go_num, by rw [HN2.out]⟩
        case measure => simp [intOf]; omega
    · obtain rfl : m = S.size := by omega
      rw [HBX.out]
      have ex := idxI1
      go_wp2_with fail
      refine (HRW.out _).mono ?_
      rintro e' w8 ⟨rfl, hb8⟩
      have B8 := B7.trans (hb8.mono B7.size)
      replace e0 := (hb8.cell (p := ⟨gr, 0, none⟩) z3).trans e0
      replace e1 := (hb8.cell (p := ⟨gr, 1, none⟩) z3).trans e1
      replace z3 := Nat.lt_of_lt_of_le z3 hb8.size
      clear B7 hb8
      go_wp2_with fail
      refine (HVEC.out _).mono ?_
      rintro e' w9 ⟨rfl, hb9⟩
      have B9 := B8.trans (hb9.mono B8.size)
      replace e0 := (hb9.cell (p := ⟨gr, 0, none⟩) z3).trans e0
      replace e1 := (hb9.cell (p := ⟨gr, 1, none⟩) z3).trans e1
      replace z3 := Nat.lt_of_lt_of_le z3 hb9.size
      clear B8 hb9
      go_wp2_with fail
      go_loopg [18, 19, 20] n (fun k sv _ _ wi => ∃ M : Nat, k = n + 1 - M ∧ 1 ≤ M ∧ M ≤ n + 1 ∧ sv = .int .i64 M ∧ (wi.cell? ⟨gr, 0, none⟩ = some (.int .i64 P) ∧ wi.cell? ⟨gr, 1, none⟩ = some (.int .i64 D)) ∧ gr < wi.heap.size ∧ Below w.heap.size w wi)
      case atStart => exact ⟨1, by omega, by omega, by omega, rfl, ⟨e0, e1⟩, z3, B9⟩
      case round =>
        clear e0 e1 z3 B9
        obtain ⟨M, hk, hM1, hM, rfl, ⟨e0, e1⟩, z3, B9⟩ := hrel
        by_cases hMn : M ≤ n
        · go_wp2_with fail
          go_loopg [19, 20] (M + 1) (fun k bv _ wi => ∃ B : Nat, k = M + 1 - B ∧ B ≤ M + 1 ∧ bv = .int .i64 B ∧ (wi.cell? ⟨gr, 0, none⟩ = some (.int .i64 P) ∧ wi.cell? ⟨gr, 1, none⟩ = some (.int .i64 D)) ∧ gr < wi.heap.size ∧ Below w.heap.size w wi)
          case atStart => exact ⟨0, by omega, by omega, rfl, ⟨e0, e1⟩, z3, B9⟩
          case round =>
            clear e0 e1 z3 B9
            obtain ⟨B, hk2, hB, rfl, ⟨e0, e1⟩, z3, B9⟩ := hrel
            by_cases hBM : B ≤ M
            · by_cases hB0 : B = 0
              · obtain rfl : B = 0 := hB0
                obtain ⟨V, hV⟩ : ∃ V, 2 * (M : Int) = V := ⟨_, rfl⟩
                have hV0 : 0 ≤ V := by omega
                have hV2 : V ≤ 200 := by omega
                obtain ⟨W1, hW1, m0, bb1, bz1⟩ := boxH2 wr (.int .i64 0) (.int .i64 V) 66
                have hW1' := hW1.symm
                have B10 := B9.trans (bb1.mono B9.size)
                replace e0 := (bb1.cell (p := ⟨gr, 0, none⟩) z3).trans e0
                replace e1 := (bb1.cell (p := ⟨gr, 1, none⟩) z3).trans e1
                obtain ⟨gv, hgv⟩ : ∃ g, wr.heap.size = g := ⟨_, rfl⟩
                rw [hgv] at m0 z3
                have zv := (Array.getElem?_eq_some_iff.1 m0).1
                have zr : gr < W1.heap.size := by omega
                obtain ⟨v0, v1, f0, f1⟩ := two_cell m0
                obtain ⟨s3, s4⟩ := two_set m0 (.int .i64 V) (.int .i64 0)
                obtain ⟨W2, hW2⟩ : ∃ W2, (W1.setCell ⟨gv, 0, none⟩ (.int .i64 V)).setCell ⟨gv, 1, none⟩ (.int .i64 0) = W2 := ⟨_, rfl⟩
                rw [hW2] at s3 s4
                have zw0 : w.heap.size ≤ gv := by have := B9.size; omega
                have B11 := B10.grown s4 B10.size (fun j e => by cases e; omega)
                have x0 := s4.cell e0 (show some gr ≠ some gv from fun e => by injection e; omega)
                have x1 := s4.cell e1 (show some gr ≠ some gv from fun e => by injection e; omega)
                have y0 := (two_cell s3).1
                have y1 := (two_cell s3).2.1
                have zz := (Array.getElem?_eq_some_iff.1 s3).1
                have zzr : gr < W2.heap.size := by omega
                clear hW1 m0 bb1 bz1 B9 s3 s4 zr zv
                go_wp2_with fail
                clear hW1' hW2 v0 v1 e0 e1
                refine wp_region_held_drew (S := (fun w' => (w'.cell? ⟨gr, 0, none⟩ = some (.int .i64 P) ∧ w'.cell? ⟨gr, 1, none⟩ = some (.int .i64 D)) ∧ (w'.cell? ⟨gv, 0, none⟩ = some (.int .i64 V) ∧ w'.cell? ⟨gv, 1, none⟩ = some (.int .i64 0)) ∧ (gr < w'.heap.size ∧ gv < w'.heap.size) ∧ Below w.heap.size w w')) (by kernel_rfl) ?_ (fun hHeld => ?_)
                · exact ⟨⟨x0, x1⟩, ⟨y0, y1⟩, ⟨zzr, zz⟩, below_drew B11⟩
                refine wpAnyH_take (i := 0) (oi := _) (v := ?vm0) rfl (by kernel_rfl) (by kernel_rfl) (by kernel_rfl) (fun _ _ _ h => h) (Or.inl ⟨by rfl, ?hym0⟩) (by assumption) ?restm0
                case hym0 => (intro w hSw; (try dsimp only at hSw); go_simp; first | done | rfl)
                try simp only [List.getElem_toArray, List.getElem_cons_zero, Act.put, List.setIfInBounds_toArray, List.set_cons_zero, List.set_cons_succ]
                refine wpAnyH_take (i := 1) (oi := _) (v := ?vm1) rfl (by kernel_rfl) (by kernel_rfl) (by kernel_rfl) (fun _ _ _ h => h) (Or.inl ⟨by rfl, ?hym1⟩) (by assumption) ?restm1
                case hym1 => (intro w hSw; (try dsimp only at hSw); go_simp; first | done | rfl)
                try simp only [List.getElem_toArray, List.getElem_cons_succ, List.getElem_cons_zero, Act.put, List.setIfInBounds_toArray, List.set_cons_zero, List.set_cons_succ]
                refine wpAnyH_take (i := 2) (oi := _) (v := ?vm2) rfl (by kernel_rfl) (by kernel_rfl) (by kernel_rfl) (fun _ _ _ h => h) (Or.inl ⟨by rfl, ?hym2⟩) (by assumption) ?restm2
                case hym2 => (intro w hSw; (try dsimp only at hSw); go_simp; first | done | rfl)
                try simp only [List.getElem_toArray, List.getElem_cons_succ, List.getElem_cons_zero, Act.put, List.setIfInBounds_toArray, List.set_cons_zero, List.set_cons_succ]
                refine wpAnyH_take (i := 3) (oi := _) (v := ?vm3) rfl (by kernel_rfl) (by kernel_rfl) (by kernel_rfl) (fun _ _ _ h => h) (Or.inl ⟨by rfl, ?hym3⟩) (by assumption) ?restm3
                case hym3 => (intro w hSw; (try dsimp only at hSw); go_simp; first | done | rfl)
                try simp only [List.getElem_toArray, List.getElem_cons_succ, List.getElem_cons_zero, Act.put, List.setIfInBounds_toArray, List.set_cons_zero, List.set_cons_succ]
                refine wpAnyH_take (i := 4) (oi := _) (v := undef) rfl (by kernel_rfl) (by kernel_rfl) (by kernel_rfl) (fun _ _ _ h => h) (Or.inr ⟨by rfl, rfl⟩) (by assumption) ?restm4
                try simp only [List.getElem_toArray, List.getElem_cons_succ, List.getElem_cons_zero, Act.put, List.setIfInBounds_toArray, List.set_cons_zero, List.set_cons_succ]
                refine wpAnyH_take (i := 5) (oi := _) (v := undef) rfl (by kernel_rfl) (by kernel_rfl) (by kernel_rfl) (fun _ _ _ h => h) (Or.inr ⟨by rfl, rfl⟩) (by assumption) ?restm5
                try simp only [List.getElem_toArray, List.getElem_cons_succ, List.getElem_cons_zero, Act.put, List.setIfInBounds_toArray, List.set_cons_zero, List.set_cons_succ]
                refine wpAnyH_take (i := 6) (oi := _) (v := undef) rfl (by kernel_rfl) (by kernel_rfl) (by kernel_rfl) (fun _ _ _ h => h) (Or.inr ⟨by rfl, rfl⟩) (by assumption) ?restm6
                try simp only [List.getElem_toArray, List.getElem_cons_succ, List.getElem_cons_zero, Act.put, List.setIfInBounds_toArray, List.set_cons_zero, List.set_cons_succ]
                refine wpAnyH_take (i := 7) (oi := _) (v := undef) rfl (by kernel_rfl) (by kernel_rfl) (by kernel_rfl) (fun _ _ _ h => h) (Or.inr ⟨by rfl, rfl⟩) (by assumption) ?restm7
                try simp only [List.getElem_toArray, List.getElem_cons_succ, List.getElem_cons_zero, Act.put, List.setIfInBounds_toArray, List.set_cons_zero, List.set_cons_succ]
                refine wpAnyH_take (i := 8) (oi := _) (v := undef) rfl (by kernel_rfl) (by kernel_rfl) (by kernel_rfl) (fun _ _ _ h => h) (Or.inr ⟨by rfl, rfl⟩) (by assumption) ?restm8
                try simp only [List.getElem_toArray, List.getElem_cons_succ, List.getElem_cons_zero, Act.put, List.setIfInBounds_toArray, List.set_cons_zero, List.set_cons_succ]
                refine wpAnyH_take (i := 9) (oi := _) (v := ?vm9) rfl (by kernel_rfl) (by kernel_rfl) (by kernel_rfl) (fun _ _ _ h => h) (Or.inl ⟨by rfl, ?hym9⟩) (by assumption) ?restm9
                case hym9 => (intro w hSw; (try dsimp only at hSw); go_simp; first | done | rfl)
                try simp only [List.getElem_toArray, List.getElem_cons_succ, List.getElem_cons_zero, Act.put, List.setIfInBounds_toArray, List.set_cons_zero, List.set_cons_succ]
                refine wpAnyH_done (by kernel_rfl) ?_ _
                obtain ⟨f01, -, ⟨zq, -⟩, BB⟩ := hHeld
                go_wp2
                go_roundg (M + 1 - (0 + 1))
                case rel => exact ⟨0 + 1, by omega, by omega, by go_num, f01, zq, BB⟩
                case measure => omega
              · obtain ⟨V, hV⟩ : ∃ V, (B : Int) + 2 * ((M : Int) - (B : Int)) = V := ⟨_, rfl⟩
                have hV0 : 0 ≤ V := by omega
                have hV2 : V ≤ 200 := by omega
                obtain ⟨W1, hW1, m0, bb1, bz1⟩ := boxH2 wr (.int .i64 B) (.int .i64 V) 66
                have hW1' := hW1.symm
                have B10 := B9.trans (bb1.mono B9.size)
                replace e0 := (bb1.cell (p := ⟨gr, 0, none⟩) z3).trans e0
                replace e1 := (bb1.cell (p := ⟨gr, 1, none⟩) z3).trans e1
                obtain ⟨gv, hgv⟩ : ∃ g, wr.heap.size = g := ⟨_, rfl⟩
                rw [hgv] at m0 z3
                have zv := (Array.getElem?_eq_some_iff.1 m0).1
                have zr : gr < W1.heap.size := by omega
                have HXW := Lib.hid (show xW P D B M = V ∧ yW P D B M = B by
                  rw [xW, yW, if_pos hst, if_pos hst]
                  exact ⟨by omega, rfl⟩)
                obtain ⟨v0, v1, f0, f1⟩ := two_cell m0
                obtain ⟨s3, s4⟩ := two_set m0 (.int .i64 V) (.int .i64 B)
                obtain ⟨W2, hW2⟩ : ∃ W2, (W1.setCell ⟨gv, 0, none⟩ (.int .i64 V)).setCell ⟨gv, 1, none⟩ (.int .i64 B) = W2 := ⟨_, rfl⟩
                rw [hW2] at s3 s4
                have zw0 : w.heap.size ≤ gv := by have := B9.size; omega
                have B11 := B10.grown s4 B10.size (fun j e => by cases e; omega)
                have x0 := s4.cell e0 (show some gr ≠ some gv from fun e => by injection e; omega)
                have x1 := s4.cell e1 (show some gr ≠ some gv from fun e => by injection e; omega)
                have y0 := (two_cell s3).1
                have y1 := (two_cell s3).2.1
                have zz := (Array.getElem?_eq_some_iff.1 s3).1
                have zzr : gr < W2.heap.size := by omega
                clear hW1 m0 bb1 bz1 B9 s3 s4 zr zv
                have hpos : 0 < B := by omega
                have hpd : decide (0 < B) = true := decide_eq_true hpos
                clear hB0
                go_wp2_with fail
                clear hW1' hW2 v0 v1 e0 e1
                have e0 := x0
                have e1 := x1
                have v0 := y0
                have v1 := y1
                have zr := zzr
                have zv := zz
                clear x0 x1 y0 y1 zzr zz
                go_region_held3 (fun w' => (w'.cell? ⟨gr, 0, none⟩ = some (.int .i64 P) ∧ w'.cell? ⟨gr, 1, none⟩ = some (.int .i64 D)) ∧ (w'.cell? ⟨gv, 0, none⟩ = some (.int .i64 V) ∧ w'.cell? ⟨gv, 1, none⟩ = some (.int .i64 B)) ∧ (gr < w'.heap.size ∧ gv < w'.heap.size) ∧ Below w.heap.size w w')
                  (first | exact ⟨⟨e0, e1⟩, ⟨v0, v1⟩, ⟨zr, zv⟩, below_drew B11⟩ | exact keepFS (by assumption) (by assumption) | assumption | go_keep)
                  (first
                    | (go_at_call 30; refine (HVEC.out _).mono ?_; rintro e' w' ⟨rfl, hbq⟩)
                    | (go_at_call 31; refine (HNR.out B M _ _ _ hM1 hMn hBM HXW.out.1 HXW.out.2 (by omega)).mono ?_; rintro e' w' ⟨rfl, hbq⟩))
                all_goals
                  rename_i hH
                  obtain ⟨f01, -, ⟨zq, -⟩, BB⟩ := hH
                  go_wp2
                  go_roundg (M + 1 - (B + 1))
                  case rel => exact ⟨B + 1, by omega, by omega, by go_num, f01, zq, BB⟩
                  case measure => omega
            · obtain rfl : B = M + 1 := by omega
              go_wp2
              go_roundg (n + 1 - (M + 1))
              case rel => exact ⟨M + 1, by omega, by omega, by omega, by go_num, ⟨e0, e1⟩, z3, B9⟩
              case measure => omega
        · obtain rfl : M = n + 1 := by omega
          clear HNR HVEC HXB HLB HLM HLZ HBX HRW
          by_cases hm : shareL P D ≤ 64
          · have HXX := Lib.hid (HX.out hm)
            obtain ⟨K, hK⟩ : ∃ K, shareL P D = K := ⟨_, rfl⟩
            obtain ⟨T, hT⟩ : ∃ T, slB P D = T := ⟨_, rfl⟩
            rw [hK, hT] at HXX
            obtain rfl : K = T.size := HXX.out.size.symm
            obtain ⟨xs, ys, b1, b2, b3, b4, heq, hvec⟩ := HXX.out.vec
            have HVX := Lib.hid hvec
            have hT1 : 1 ≤ T.size := HXX.out.l1
            have hT64 : T.size ≤ 64 := HXX.out.l64
            clear hvec hK hT hm HX
            go_wp2_with fail
            refine (HXX.out.ex _).mono ?_
            rintro e' u1 ⟨rfl, hc1⟩
            have C1 := B9.trans (hc1.mono B9.size)
            replace e0 := (hc1.cell (p := ⟨gr, 0, none⟩) z3).trans e0
            replace e1 := (hc1.cell (p := ⟨gr, 1, none⟩) z3).trans e1
            replace z3 := Nat.lt_of_lt_of_le z3 hc1.size
            clear B9 hc1
            go_wp2_with fail
            refine (HVX.out _).mono ?_
            rintro e' u2 ⟨rfl, hc2⟩
            have C2 := C1.trans (hc2.mono C1.size)
            replace e0 := (hc2.cell (p := ⟨gr, 0, none⟩) z3).trans e0
            replace e1 := (hc2.cell (p := ⟨gr, 1, none⟩) z3).trans e1
            replace z3 := Nat.lt_of_lt_of_le z3 hc2.size
            clear C1 hc2
            obtain ⟨u3, hu3, n3, hc3, hy3⟩ := boxH2 u2 (.int .i64 xs) (.int .i64 ys) 66
            have hu3' := hu3.symm
            have C3 := C2.trans (hc3.mono C2.size)
            replace e0 := (hc3.cell (p := ⟨gr, 0, none⟩) z3).trans e0
            replace e1 := (hc3.cell (p := ⟨gr, 1, none⟩) z3).trans e1
            replace z3 := Nat.lt_of_lt_of_le z3 hc3.size
            obtain ⟨gx, hgx⟩ : ∃ g, u2.heap.size = g := ⟨_, rfl⟩
            rw [hgx] at n3
            obtain ⟨j0, j1, -, -⟩ := two_cell n3
            have HWT := Lib.hid (show ∀ W : World, Calls Tryz.prog 28 #[.string T] W fun e w' => e = .returned (.int .i64 0) ∧ W = w' from fun W => by
              have h := refCheckWord T W (by omega)
              rwa [faWordE HXX.out.word] at h)
            obtain ⟨m1, m2⟩ := mulB (A := 128) b1 b2 (show D ≤ 100 by omega)
            obtain ⟨qq, hq1⟩ : ∃ q, xs * (D : Int) = q := ⟨_, rfl⟩
            rw [hq1] at m1 m2 heq
            have hq2 := heq.symm
            have wq : IntKind.i64.wrap qq = qq := by rw [IntKind.wrap_i64]; omega
            clear hu3 n3 hc3 hy3 C2 heq
            go_wp2_with fail
            clear hu3' hgx
            refine (HWT.out _).mono ?_
            rintro e' u4 ⟨rfl, rfl⟩
            go_wp2_with fail
            clear j0 j1 hq1 hq2 m1 m2 wq b1 b2 b3 b4 HWT HVX
            go_loopg [24, 25, 26] (T.size - 1) (fun k sv _ _ wi => ∃ M : Nat, k = T.size - M ∧ 1 ≤ M ∧ M ≤ T.size ∧ sv = .int .i64 M ∧ (wi.cell? ⟨gr, 0, none⟩ = some (.int .i64 P) ∧ wi.cell? ⟨gr, 1, none⟩ = some (.int .i64 D)) ∧ gr < wi.heap.size ∧ Below w.heap.size w wi)
            case atStart => exact ⟨1, by omega, by omega, by omega, rfl, ⟨e0, e1⟩, z3, C3⟩
            case round =>
              clear e0 e1 z3 C3
              obtain ⟨M, hk3, hM1, hM, rfl, ⟨e0, e1⟩, z3, B9⟩ := hrel
              by_cases hMn : M < T.size
              · go_wp2_with fail
                go_loopg [25, 26] (M + 1) (fun k bv _ wi => ∃ B : Nat, k = M + 1 - B ∧ B ≤ M + 1 ∧ bv = .int .i64 B ∧ (wi.cell? ⟨gr, 0, none⟩ = some (.int .i64 P) ∧ wi.cell? ⟨gr, 1, none⟩ = some (.int .i64 D)) ∧ gr < wi.heap.size ∧ Below w.heap.size w wi)
                case atStart => exact ⟨0, by omega, by omega, rfl, ⟨e0, e1⟩, z3, B9⟩
                case round =>
                  clear e0 e1 z3 B9
                  obtain ⟨B, hk4, hB, rfl, ⟨e0, e1⟩, z3, B9⟩ := hrel
                  by_cases hBM : B ≤ M
                  · by_cases hB0 : B = 0
                    · obtain rfl : B = 0 := hB0
                      obtain ⟨V, hV⟩ : ∃ V, 2 * (M : Int) = V := ⟨_, rfl⟩
                      have hV0 : 0 ≤ V := by omega
                      have hV2 : V ≤ 200 := by omega
                      obtain ⟨W1, hW1, m0, bb1, bz1⟩ := boxH2 wr (.int .i64 0) (.int .i64 V) 66
                      have hW1' := hW1.symm
                      have B10 := B9.trans (bb1.mono B9.size)
                      replace e0 := (bb1.cell (p := ⟨gr, 0, none⟩) z3).trans e0
                      replace e1 := (bb1.cell (p := ⟨gr, 1, none⟩) z3).trans e1
                      obtain ⟨gv, hgv⟩ : ∃ g, wr.heap.size = g := ⟨_, rfl⟩
                      rw [hgv] at m0 z3
                      have zv := (Array.getElem?_eq_some_iff.1 m0).1
                      have zr : gr < W1.heap.size := by omega
                      obtain ⟨v0, v1, f0, f1⟩ := two_cell m0
                      obtain ⟨s3, s4⟩ := two_set m0 (.int .i64 V) (.int .i64 0)
                      obtain ⟨W2, hW2⟩ : ∃ W2, (W1.setCell ⟨gv, 0, none⟩ (.int .i64 V)).setCell ⟨gv, 1, none⟩ (.int .i64 0) = W2 := ⟨_, rfl⟩
                      rw [hW2] at s3 s4
                      have zw0 : w.heap.size ≤ gv := by have := B9.size; omega
                      have B11 := B10.grown s4 B10.size (fun j e => by cases e; omega)
                      have x0 := s4.cell e0 (show some gr ≠ some gv from fun e => by injection e; omega)
                      have x1 := s4.cell e1 (show some gr ≠ some gv from fun e => by injection e; omega)
                      have y0 := (two_cell s3).1
                      have y1 := (two_cell s3).2.1
                      have zz := (Array.getElem?_eq_some_iff.1 s3).1
                      have zzr : gr < W2.heap.size := by omega
                      clear hW1 m0 bb1 bz1 B9 s3 s4 zr zv
                      go_wp2_with fail
                      go_roundg (M + 1 - (0 + 1))
                      case rel => exact ⟨0 + 1, by omega, by omega, by go_num, ⟨x0, x1⟩, zzr, B11⟩
                      case measure => omega
                    · obtain ⟨V, hV⟩ : ∃ V, (B : Int) + 2 * ((M : Int) - (B : Int)) = V := ⟨_, rfl⟩
                      have hV0 : 0 ≤ V := by omega
                      have hV2 : V ≤ 200 := by omega
                      obtain ⟨W1, hW1, m0, bb1, bz1⟩ := boxH2 wr (.int .i64 B) (.int .i64 V) 66
                      have hW1' := hW1.symm
                      have B10 := B9.trans (bb1.mono B9.size)
                      replace e0 := (bb1.cell (p := ⟨gr, 0, none⟩) z3).trans e0
                      replace e1 := (bb1.cell (p := ⟨gr, 1, none⟩) z3).trans e1
                      obtain ⟨gv, hgv⟩ : ∃ g, wr.heap.size = g := ⟨_, rfl⟩
                      rw [hgv] at m0 z3
                      have zv := (Array.getElem?_eq_some_iff.1 m0).1
                      have zr : gr < W1.heap.size := by omega
                      have hno := HXX.out.no B M hM1 hMn
                      rw [show xW P D B M = V by rw [xW, if_pos hst]; omega, show yW P D B M = B by rw [yW, if_pos hst]] at hno
                      obtain ⟨m1, m2⟩ := mulB (a := V) (A := 200) (by omega) (by omega) (show D ≤ 100 by omega)
                      obtain ⟨m3, m4⟩ := mulB (a := (B : Int)) (A := 200) (by omega) (by omega) (show P ≤ 100 by omega)
                      rw [Int.mul_comm (B : Int)] at m3 m4
                      obtain ⟨g1, hg1⟩ : ∃ q, V * (D : Int) = q := ⟨_, rfl⟩
                      obtain ⟨g2, hg2⟩ : ∃ q, (P : Int) * (B : Int) = q := ⟨_, rfl⟩
                      rw [hg1] at m1 m2 hno
                      rw [hg2] at m3 m4 hno
                      have hne : (g1 == g2) = false := by rw [beq_eq_false_iff_ne]; exact hno
                      clear hno
                      obtain ⟨v0, v1, f0, f1⟩ := two_cell m0
                      obtain ⟨s3, s4⟩ := two_set m0 (.int .i64 V) (.int .i64 B)
                      obtain ⟨W2, hW2⟩ : ∃ W2, (W1.setCell ⟨gv, 0, none⟩ (.int .i64 V)).setCell ⟨gv, 1, none⟩ (.int .i64 B) = W2 := ⟨_, rfl⟩
                      rw [hW2] at s3 s4
                      have zw0 : w.heap.size ≤ gv := by have := B9.size; omega
                      have B11 := B10.grown s4 B10.size (fun j e => by cases e; omega)
                      have x0 := s4.cell e0 (show some gr ≠ some gv from fun e => by injection e; omega)
                      have x1 := s4.cell e1 (show some gr ≠ some gv from fun e => by injection e; omega)
                      have y0 := (two_cell s3).1
                      have y1 := (two_cell s3).2.1
                      have zz := (Array.getElem?_eq_some_iff.1 s3).1
                      have zzr : gr < W2.heap.size := by omega
                      clear hW1 m0 bb1 bz1 B9 s3 s4 zr zv
                      have hpos : 0 < B := by omega
                      have hpd : decide (0 < B) = true := decide_eq_true hpos
                      clear hB0
                      go_wp2_with fail
                      go_roundg (M + 1 - (B + 1))
                      case rel => exact ⟨B + 1, by omega, by omega, by go_num, ⟨x0, x1⟩, zzr, B11⟩
                      case measure => omega
                  · obtain rfl : B = M + 1 := by omega
                    go_wp2
                    go_roundg (T.size - (M + 1))
                    case rel => exact ⟨M + 1, by omega, by omega, by omega, by go_num, ⟨e0, e1⟩, z3, B9⟩
                    case measure => omega
              · obtain rfl : M = T.size := by omega
                go_wp2_with fail
                refine (HXX.out.ne _).mono ?_
                rintro e' u5 ⟨rfl, hc5⟩
                have C5 := B9.trans (hc5.mono B9.size)
                go_wp2
                go_ret
                exact ⟨rfl, C5⟩
          · go_wp2_with fail
            refine (tpExactLong P D _ HF.out.rat (by omega)).mono ?_
            rintro e' u1 ⟨rfl, hc1⟩
            have C1 := B9.trans (hc1.mono B9.size)
            go_wp2
            go_ret
            exact ⟨rfl, C1⟩
end Go.Proofs.YtfmfpnnglogkmaaGreatDoor

/- The walk of TaperFarey at all numbers. -/
namespace Go.Proofs.YtfmfpnnglogkmaaGreatDoor
open Go.RowKit Go.Shelf Ck

set_option maxHeartbeats 2000000 in
set_option maxRecDepth 100000 in
theorem lawFareyN (p d t : Int) (P D : Nat) (w : World) (p0 : 0 ≤ p) (p1 : p < 256) (d0 : 0 ≤ d) (d1 : d < 256) (ha : p % 41 = (P : Int)) (hb : 1 + d % 40 = (D : Int)) (hg : P.gcd D ≠ 1) :
    Calls Tryz.prog 5 #[.int .u8 p, .int .u8 d, .int .u8 t] w fun e w' => e = .returned (.bool true) ∧ Below w.heap.size w w' := by
  have hP40 : P ≤ 40 := by omega
  have hD40 : D ≤ 40 := by omega
  have hcw1 : IntKind.i64.wrap p = p := by rw [IntKind.wrap_i64]; omega
  have hcw2 : IntKind.i64.wrap d = d := by rw [IntKind.wrap_i64]; omega
  obtain ⟨g, hgg⟩ : ∃ g, P.gcd D = g := ⟨_, rfl⟩
  rw [hgg] at hg
  have HGC := Lib.hid hgg
  have hne : ((g : Int) != 1) = true := by rw [bne_iff_ne]; omega
  clear hg hgg
  go_enter Tryz.func5, Tryz.ntmps5
  go_wp2_with fail
  refine (awake2 _).mono ?_
  rintro e' w1 ⟨rfl, hb1⟩
  go_wp2_with fail
  refine (refGcd P D _ (by omega) (by omega)).mono ?_
  rintro e' w2 ⟨rfl, hb2⟩
  rw [HGC.out]
  have B2 := hb1.trans (hb2.mono hb1.size)
  clear hb1 hb2
  go_wp2_with fail
  refine (awake2 _).mono ?_
  rintro e' w3 ⟨rfl, hb3⟩
  go_wp2
  go_ret
  exact ⟨rfl, B2.trans (hb3.mono B2.size)⟩
theorem lawFareyO (p d t : Int) (w : World) (p0 : 0 ≤ p) (p1 : p < 256) (d0 : 0 ≤ d) (d1 : d < 256) (t0 : 0 ≤ t) (t1 : t < 256) :
    Calls Tryz.prog 5 #[.int .u8 p, .int .u8 d, .int .u8 t] w fun e w' => e = .returned (.bool true) ∧ Below w.heap.size w w' := by
  obtain ⟨P, ha⟩ : ∃ a : Nat, p % 41 = (a : Int) := ⟨(p % 41).toNat, by omega⟩
  obtain ⟨D, hb⟩ : ∃ b : Nat, 1 + d % 40 = (b : Int) := ⟨(1 + d % 40).toNat, by omega⟩
  obtain ⟨n, hc⟩ : ∃ c : Nat, 1 + t % 12 = (c : Int) := ⟨(1 + t % 12).toNat, by omega⟩
  by_cases hg : P.gcd D = 1
  · have hP : P ≤ 40 := by omega
    have hD1 : 1 ≤ D := by omega
    have hD : D ≤ 40 := by omega
    have hn1 : 1 ≤ n := by omega
    have hn : n ≤ 12 := by omega
    have hr : ratE (P : Int) (D : Int) = 0 := by
      have h0 : rat0 (P : Int) (D : Int) = 0 := by
        rw [rat0]
        have a1 : rngE (P : Int) 0 999999999 = 0 := by rw [rngE, if_neg (by omega)]
        have a2 : rngE (D : Int) 1 999999999 = 0 := by rw [rngE, if_neg (by omega)]
        rw [a1, a2]
        rfl
      rw [ratE, if_pos h0, Int.toNat_natCast, Int.toNat_natCast, hg]
      rfl
    have ht : tgtE (P : Int) (D : Int) (n : Int) = 0 := by
      rw [tgtE, hr, show rngE (n : Int) 1 64 = 0 by rw [rngE, if_neg (by omega)]]
      rfl
    obtain ⟨e, f, g, k, hR⟩ : ∃ e f g k, nbF (shareB P D) (shareL P D) n n 0 1 1 1 = (e, f, g, k) := ⟨_, _, _, _, rfl⟩
    have R := nr_facts hD1 hn1 hR
    have hp : prvB (shareB P D) (shareL P D) n e f g k = true := prv_true R.e
    have F : NeFacts P D n true e f g k e f g k (nearWord P D (nearC P D e f g k).1 (nearC P D e f g k).2) :=
      ⟨ht, hr, fun w => tpNeighbours P D n e f g k w hr hn1 (by omega) hR, fun w => by
        have h := tpCheckNeighbours P D n e f g k w ht (by omega) hD1 (by omega) (by omega)
        rwa [hp] at h, fun w => tpNearestC P D n e f g k w hr hn1 (by omega) hR,
       fun w => rfNeighbours P D n e f g k w (by omega) hD1 (by omega) hn1 (by omega) hR, fun w => rfNearest P D n _ w (by omega) hD1 (by omega) (by omega) (fun s hs => hs.last R), fun w => rfProves P D n e f g k _ w (by omega) hD1 (by omega) (by omega) hp⟩
    have G := fa_facts (P := P) (D := D) (show n ≤ 64 by omega) R.best
    by_cases hs : D < P
    · exact lawFareyS p d t P D n _ _ e f g k _ w p0 p1 d0 d1 t0 t1 ha hb hc hg hs F G (fun hm => fa_exact hr hD1 hm)
    · exact lawFareyL p d t P D n _ _ e f g k _ w p0 p1 d0 d1 t0 t1 ha hb hc hg hs F G (fun hm => fa_exact hr hD1 hm)
  · exact lawFareyN p d t P D w p0 p1 d0 d1 ha hb hg
end Go.Proofs.YtfmfpnnglogkmaaGreatDoor

namespace Go.Proofs.YtfmfpnnglogkmaaGreatDoor
open Go.ChangeShapes Go.WideShapes Go.ChangeAt Go.WideMaps Go.WideElems Go.RowKit

set_option maxRecDepth 100000 in
theorem farey_lifted (os : Os) (started : os.Started) (H : Type) (enc : TypeId × Value → H) :
    ReturnsInHanded {} Tryz.checked os 5 .any (fun w args => (Rows.taperFareySpec.pre enc Tryz.prog Tryz.f5 [] false w args ∧ laidMetH Tryz.prog taLaid w) ∧ sizedMet enc Tryz.prog Tryz.f5 (OpenSpec.ofChange Rows.taperFareySpec) false w args)
      (Rows.taperFareySpec.post enc Tryz.prog Tryz.f5 false true false false) := by
  refine returnsInHanded_of_change_and (C := Tryz.checked) (X := fun w _ => laidMetH Tryz.prog taLaid w) (fun _ _ _ hh h => h.of_heap hh) Tryz.ownT started (by kernel_rfl) Tryz.func5
    (ChangeSpec.witness_shaped (enc := enc) (C := Tryz.checked) (os := os) (X := fun w _ => laidMetH Tryz.prog taLaid w) false (World.doorLaid Tryz.prog 400 os) #[.int .u8 0, .int .u8 0, .int .u8 0] 8 rfl (World.shaped_of_RefB (by kernel_rfl) (by kernel_rfl)) (by kernel_rfl) (by kernel_rfl) (by kernel_rfl) (door_met os _)) ?_
  intro W base args ds gs before hval0 hW _ _ hL _
  have hval : ∀ (j : Nat) t v, Tryz.f5.params[j]? = some t → args[j]? = some v → Value.okWide Tryz.prog W .any base t v := hval0
  have hW' := hW
  obtain ⟨p, q, hA0, hV, rfl, hfz, hnd⟩ := hW
  have hA : DataW.TrodAll enc Tryz.prog W 0 (fun _ => true) true Tryz.f5.params.toList args.toList ds p := hA0
  rw [Tryz.params5] at hA hval
  obtain ⟨v0, v1, v2, d0, d1, d2, p0, p1, p2, rfl, rfl, rfl, h0, h1, h2⟩ := trodAll_three hA
  obtain ⟨rfl, rfl⟩ := trodVars_none hV
  clear hA0 hval0
  simp only [List.append_nil] at hW'
  have hlt : ∀ x ∈ p0 ++ p1 ++ p2, x.block < W.heap.size := fun x hx => by simpa using hW'.lt x hx
  obtain ⟨z00, rfl, b00, b01⟩ := open_bytev (hval 0 5 v0 rfl rfl)
  obtain ⟨z10, rfl, b10, b11⟩ := open_bytev (hval 1 5 v1 rfl rfl)
  obtain ⟨z20, rfl, b20, b21⟩ := open_bytev (hval 2 5 v2 rfl rfl)
  have harg0 : ∀ (W' : World), Below W.heap.size W W' → DataW.Trod enc Tryz.prog W' 0 (fun b => decide (b < W.heap.size)) true 5 (.int .u8 z00) d0 p0 :=
    fun W' hn => Below.trod Tryz.laidOutT (by kernel_rfl) (of_decide_eq_true (by kernel_rfl)) h0 hn (fun x hx => hlt x (List.mem_append_left _ (List.mem_append_left _ hx)))
  have harg1 : ∀ (W' : World), Below W.heap.size W W' → DataW.Trod enc Tryz.prog W' 0 (fun b => decide (b < W.heap.size)) true 5 (.int .u8 z10) d1 p1 :=
    fun W' hn => Below.trod Tryz.laidOutT (by kernel_rfl) (of_decide_eq_true (by kernel_rfl)) h1 hn (fun x hx => hlt x (List.mem_append_left _ (List.mem_append_right _ hx)))
  have harg2 : ∀ (W' : World), Below W.heap.size W W' → DataW.Trod enc Tryz.prog W' 0 (fun b => decide (b < W.heap.size)) true 5 (.int .u8 z20) d2 p2 :=
    fun W' hn => Below.trod Tryz.laidOutT (by kernel_rfl) (of_decide_eq_true (by kernel_rfl)) h2 hn (fun x hx => hlt x (List.mem_append_right _ hx))
  refine (lawFareyO z00 z10 z20 W b00 b01 b10 b11 b20 b21).mono fun e W' ⟨he, hb⟩ => ?_
  subst he
  refine ⟨_, rfl, _, _, _, [], p0 ++ p1 ++ p2, [], hW', ?_, by rw [List.append_assoc]; exact trodAll_mk3 (harg0 W' hb) (harg1 W' hb) (harg2 W' hb), rfl, hb.frame _, fun h => by cases h⟩
  exact trodAll_mk1 (shut_bool Tryz.underlying4 true)
theorem farey_holds : Rows.TaperFareySaid :=
  OpenClaim.holds_of_wide 5 Tryz.f5 rfl rfl rfl rfl rfl rfl rfl ⟨rfl, rfl, rfl, rfl, rfl⟩ rfl rfl rfl rfl rfl (by kernel_rfl) Tryz.func5 (by kernel_rfl)
    (of_decide_eq_true (by kernel_rfl)) (by unfold Func.isWrapper; first | (rw [if_pos (by decide +kernel)]; kernel_rfl) | (rw [if_neg (by decide +kernel)]; exact ⟨rfl, rfl⟩))
    (fun os started H enc _ => farey_lifted os started H enc)
theorem farey_card : Rows.TaperFareyCardSaid :=
  Claim7.holds_tied_plain_at .later [] [.data, .data, .data] true (true, "3823d907170410e42e340bbfdfca02892b9123d616746790992431e86ef115c4") false
    farey_holds (fun _ h => by cases h) (by kernel_rfl) (fun _ h => by cases h) taperFarey_row_tie rfl ⟨rfl, rfl⟩ (by kernel_rfl) rfl
    (fun f fn hf hfn => by
      obtain rfl : f = 5 := Option.some.inj ((show Tryz.prog.funcNamed "codend/codendlaw02.TaperFarey" = some 5 by kernel_rfl).symm.trans hf) |>.symm
      obtain rfl : fn = Tryz.f5 := (Option.some.inj (Tryz.func5.symm.trans hfn)).symm
      exact ⟨by kernel_rfl, fun j t ht => by
        rw [Tryz.params5] at ht
        have hm : t ∈ [5, 5, 5] := by simpa using Array.mem_of_getElem? ht
        have hall : ([5, 5, 5].all fun u => !Tryz.prog.wantsStandIn u) = true := by kernel_rfl
        exact (show Tryz.prog.wantsStandIn t = false by simpa using List.all_eq_true.1 hall t hm)⟩)
    (by kernel_rfl)
#print axioms farey_card
end Go.Proofs.YtfmfpnnglogkmaaGreatDoor
