/- HangSpreads: ties are as many as asked, add up to the meshes, and are spread evenly, for all bytes. -/
import Derived.Test.YtlkeejhaodedmaaGreatDoorH4
import Derived.BigQuiet
/- Ties that are spread evenly: plain mathematics. -/
namespace Go.Proofs.YtlkeejhaodedmaaGreatDoor
open Go.RowKit

theorem div_lo (a b : Nat) {n : Nat} (h : 0 < n) : a / n + b / n ≤ (a + b) / n := by
  rw [Nat.le_div_iff_mul_le h, Nat.add_mul]
  have := Nat.div_mul_le_self a n
  have := Nat.div_mul_le_self b n
  omega
theorem div_hi (a b : Nat) {n : Nat} (h : 0 < n) : (a + b) / n ≤ a / n + b / n + 1 := by
  have h1 : (a + b) / n < a / n + b / n + 2 := by
    rw [Nat.div_lt_iff_lt_mul h, Nat.add_mul, Nat.add_mul]
    have e1 := Nat.div_add_mod a n
    have e2 := Nat.div_add_mod b n
    have := Nat.mod_lt a h
    have := Nat.mod_lt b h
    rw [Nat.mul_comm] at e1 e2
    omega
  omega
def preN (m n j : Nat) : Nat := j * m / n
def preL (m n k : Nat) : List Int := (List.range k).map fun j => ((preN m n j : Nat) : Int)
theorem preN_succ (m n j : Nat) : ((preN m n j : Nat) : Int) + tieN m n j = ((preN m n (j + 1) : Nat) : Int) := by unfold tieN preN; omega
theorem tie_ge {m n : Nat} (i : Nat) (h0 : 0 < n) (h : n ≤ m) : 1 ≤ tieN m n i := by
  have h1 := div_lo (i * m) m h0
  have h2 : 1 ≤ m / n := by rw [Nat.le_div_iff_mul_le h0]; omega
  have e : (i + 1) * m = i * m + m := by rw [Nat.add_mul]; omega
  unfold tieN
  rw [e]
  omega
theorem tie_le {m n : Nat} (i : Nat) (h0 : 0 < n) : tieN m n i ≤ m := by
  have h1 : (i * m + m) / n ≤ i * m / n + m := by
    have h2 : i * m + m ≤ i * m + n * m := by have := Nat.mul_le_mul (show 1 ≤ n from h0) (Nat.le_refl m); omega
    have h3 := Nat.div_le_div_right (c := n) h2
    rw [Nat.add_mul_div_left _ _ h0] at h3
    exact h3
  have e : (i + 1) * m = i * m + m := by rw [Nat.add_mul]; omega
  unfold tieN
  rw [e]
  omega
theorem tie_one (m i : Nat) (h : 0 < m) : tieN m m i = 1 := by
  unfold tieN
  rw [Nat.mul_div_cancel _ h, Nat.mul_div_cancel _ h]
  omega
theorem pre_le {m n k : Nat} (h0 : 0 < n) (h : k ≤ n) : preN m n k ≤ m := by
  unfold preN
  have := Nat.div_le_div_right (c := n) (Nat.mul_le_mul h (Nat.le_refl m))
  rw [Nat.mul_div_cancel_left _ h0] at this
  exact this
theorem pre_end (m : Nat) {n : Nat} (h0 : 0 < n) : preN m n n = m := by unfold preN; exact Nat.mul_div_cancel_left _ h0
theorem pre_far (m : Nat) {n : Nat} (h0 : 0 < n) (i k : Nat) : preN m n i + preN m n k ≤ preN m n (i + k) ∧ preN m n (i + k) ≤ preN m n i + preN m n k + 1 := by
  unfold preN
  rw [Nat.add_mul]
  exact ⟨div_lo _ _ h0, div_hi _ _ h0⟩
end Go.Proofs.YtlkeejhaodedmaaGreatDoor

/- The law HangSpreads. -/
namespace Go.Proofs.YtlkeejhaodedmaaGreatDoor
open Go.RowKit

theorem tieE_ok {M T : Nat} (h1 : 1 ≤ T) (h2 : T ≤ M) (h3 : M ≤ 300) : tieE (M : Int) (T : Int) = 0 := by
  unfold tieE
  simp only [fstE, rngH]
  repeat' split
  all_goals first | rfl | omega
theorem tiesN (M T : Nat) (w : World) (h1 : 1 ≤ T) (h2 : T ≤ M) (h3 : M ≤ 300) :
    Calls Tryz.prog 42 #[.int .i64 M, .int .i64 T] w fun e w' => ∃ a c, e = .returned (.tuple #[.slice a T c, .int .i64 0]) ∧ OKV ic 1 w' a c (tiesL M T T) ∧ Below w.heap.size w w' := by
  have h := hgTies (M : Int) (T : Int) w
  rw [tieE_ok h1 h2 h3, ozL0] at h
  simp only [Int.toNat_natCast] at h
  refine h.mono ?_
  rintro e w' ⟨a, c, he, ho, hb⟩
  rw [tiesL_length] at he
  exact ⟨a, c, he, ho, hb⟩
theorem preL_length (m n k : Nat) : (preL m n k).length = k := by simp [preL]
theorem preL_succ (m n k : Nat) : (preL m n (k + 1)).flatMap ic = (preL m n k).flatMap ic ++ [.int .i64 ((preN m n k : Nat) : Int)] := by simp [preL, List.range_succ, ic]
theorem preL_at {m n k j : Nat} (h : j < k) : ((preL m n k).flatMap ic)[j]? = some (.int .i64 ((preN m n j : Nat) : Int)) := by
  induction k with
  | zero => omega
  | succ k ih =>
    rw [preL_succ]
    have hl : ((preL m n k).flatMap ic).length = k := by rw [flatMap_len ic1, preL_length, Nat.mul_one]
    rcases Nat.lt_or_ge j k with h' | h'
    · rw [List.getElem?_append_left (by omega)]
      exact ih h'
    · obtain rfl : j = k := by omega
      rw [List.getElem?_append_right (by omega), hl, Nat.sub_self]
      rfl
theorem tiesL_at {m t c i : Nat} (h : i < (tiesL m t c).length) : (tiesL m t c)[i] = tieN m t i := by simp [tiesL]
set_option maxHeartbeats 4000000 in
set_option maxRecDepth 100000 in
theorem lawSpreadsN (P Q M T : Nat) (w : World) (hT : Tab w) (hP : P < 256) (hQ : Q < 256) (hM : 1 + P % 60 = M) (hQT : 1 + Q % M = T) :
    Calls Tryz.prog 12 #[.int .u8 P, .int .u8 Q] w fun e w' => e = .returned (.bool true) ∧ Below w.heap.size w w' := by
  have hM1 : 1 ≤ M ∧ M ≤ 60 := by omega
  have hT1 : 1 ≤ T ∧ T ≤ M := by have := Nat.mod_lt Q (show 0 < M by omega); omega
  obtain ⟨m1, m2⟩ := hM1
  obtain ⟨t1, t2⟩ := hT1
  have r1 : (P : Int).tmod 60 = ((P % 60 : Nat) : Int) := modN P 60
  have r2 := modN Q M
  have e1 : (1 : Int) + ((P % 60 : Nat) : Int) = (M : Int) := by omega
  have e2 : (1 : Int) + ((Q % M : Nat) : Int) = (T : Int) := by omega
  have x1 : P % 60 < 60 := Nat.mod_lt _ (by decide)
  have x2 : Q % M < 60 := by have := Nat.mod_lt Q (show 0 < M by omega); omega
  generalize P % 60 = X1 at r1 e1 x1
  generalize Q % M = X2 at r2 e2 x2
  clear hM hQT
  have hM0 : ¬ (M : Int) = 0 := by omega
  have hM0' : ((M : Int) != 0) = true := by rw [bne_iff_ne]; omega
  have wP : IntKind.i64.wrap (P : Int) = (P : Int) := wr64 (by omega) (by omega)
  have wQ : IntKind.i64.wrap (Q : Int) = (Q : Int) := wr64 (by omega) (by omega)
  have wx1 : IntKind.i64.wrap (X1 : Int) = (X1 : Int) := wr64 (by omega) (by omega)
  have wx2 : IntKind.i64.wrap (X2 : Int) = (X2 : Int) := wr64 (by omega) (by omega)
  have wM : IntKind.i64.wrap (M : Int) = (M : Int) := wr64 (by omega) (by omega)
  have wT : IntKind.i64.wrap (T : Int) = (T : Int) := wr64 (by omega) (by omega)
  have HT1 := fun w => tiesN M T w t1 t2 (by omega)
  have HT2 := fun w => tiesN M M w m1 (Nat.le_refl _) (by omega)
  obtain ⟨i0, hi, hz0, hz1, hz2⟩ := info_parts infoHI
  have HI := Lib.hid hi
  have HZ0 := Lib.hid hz0
  have HZ1 := Lib.hid hz1
  have HZ2 := Lib.hid hz2
  clear hi hz0 hz1 hz2
  go_enter Tryz.func12, Tryz.ntmps12
  go_wp2_with fail
  refine (HT1 _).mono ?_
  rintro e w1 ⟨a1, c1, rfl, h1, hb1⟩
  go_wp2_with fail
  refine (HT2 _).mono ?_
  rintro e w2 ⟨a2, c2, rfl, h2, hb2⟩
  have B2 := tw hb1 hb2
  have H1 := Lib.hid (h1.below hb2)
  have H2 := Lib.hid h2
  clear h1 h2 hb1 hb2
  obtain ⟨w3, hw3, k3, hb3, hz3⟩ := boxS w2 (.cells #[.int .i64 0] 3)
  have HO := World.ownsRow_lit (base := w2.heap.size) (e := 3) (size := 1) w2 #[.int .i64 0] 1 (Nat.le_refl _) (by unfold maxLen; omega) rfl
  rw [hw3] at HO
  have HO3 := Lib.hid (show w3.ownsRow w2.heap.size 3 1 (.slice (some ⟨w2.heap.size, 0, none⟩) 1 1) (0 + 1) ((preL M T (0 + 1)).flatMap ic) by rw [show (preL M T (0 + 1)).flatMap ic = [.int .i64 0] by simp [preL, preN, ic]]; exact HO)
  clear HO
  go_wp2_with fail
  go_loopw [11, 63] (fun v i wr => ∃ k : Nat, k ≤ T ∧ i = .int .i64 k ∧ Hid (wr.ownsRow w2.heap.size 3 1 v (k + 1) ((preL M T (k + 1)).flatMap ic)) ∧ Below w2.heap.size w2 wr) (fun _ i _ => T - (intOf i).toNat)
  case atStart => exact ⟨0, Nat.zero_le _, rfl, HO3, hb3⟩
  case round =>
    obtain ⟨k, hk, rfl, hown, hb⟩ := hrel
    rcases hown.out.2 with ⟨-, h0⟩ | ⟨g, cap, cur, rfl, -⟩
    · exact absurd h0 (by omega)
    by_cases hlt : k < T
    · have hki : (k : Int) < (T : Int) := by omega
      have hbz := hb.size
      obtain ⟨b, off, rfl, hB, d0⟩ := at1 (OKV.below H1.out hb).2.2.2 (i := k) (by rw [tiesL_length]; exact hlt)
      rw [tiesL_at] at d0
      have d1 := hown.out.cellAt k (by omega)
      rw [preL_at (by omega)] at d1
      have x1 := tie_ge (m := M) k (show 0 < T by omega) t2
      have x2 := tie_le (m := M) k (show 0 < T by omega)
      have y1 := pre_le (m := M) (show 0 < T by omega) hk
      have y2 := pre_le (m := M) (show 0 < T by omega) (show k + 1 ≤ T by omega)
      have e3 := preN_succ M T k
      have HQ := Lib.hid e3
      generalize hz : preN M T (k + 1) = z at y2 e3
      have HZ := Lib.hid hz
      generalize tieN M T k = x at d0 x1 x2 e3
      generalize preN M T k = y at d1 y1 e3
      have wz : IntKind.i64.wrap (z : Int) = (z : Int) := wr64 (by omega) (by omega)
      have n1 : ¬ x < 1 := by omega
      have n2 : ¬ (M : Int) < x := by omega
      have wk : IntKind.i64.wrap (k : Int) = (k : Int) := wr64 (by omega) (by omega)
      have wk1 : IntKind.i64.wrap ((k : Int) + 1) = (k : Int) + 1 := wr64 (by omega) (by omega)
      clear hz HQ
      go_wp2_with (at_builtin; refine wpList_append_own _ rfl _ _ 45 rfl w2.heap.size 3 i0 (.int .i64 0) 1 8 Tryz.underlying45 HI.out HZ0.out HZ1.out HZ2.out rfl (by decide) _ _ _ rfl (hown.out.alloc _) ⟨wr.heap.size, 0, none⟩ 1 1 [.int .i64 (z : Int)] rfl rfl (newsH _ _ _) ?c2 ?c3 ?c4 ?c5 ?_)
      case c2 => first | rfl | (intro u hu; simp at hu; subst hu; rfl)
      case c3 => unfold maxLen; omega
      case c4 => omega
      case c5 => first | omega | (simp; omega)
      intro v' w4 hown4 hgrow4 _
      have hq4 : Below w2.heap.size w2 w4 := (hb.alloc hbz (.cells #[.int .i64 (z : Int)] 3)).grown hgrow4 (by simp; omega) (baseOf hown.out)
      have HO4 := Lib.hid (show w4.ownsRow w2.heap.size 3 1 v' (k + 1 + 1) ((preL M T (k + 1 + 1)).flatMap ic) by rw [preL_succ, HZ.out]; exact hown4)
      clear hown4 hgrow4 hown
      go_wp2
      go_roundw
      case rel => exact ⟨k + 1, by omega, by go_num, HO4, hq4⟩
      case measure => simp [intOf]; omega
    · obtain rfl : T = k := by omega
      have hki : ¬ (T : Int) < (T : Int) := by omega
      obtain ⟨W4, rfl⟩ : ∃ W, W = wr := ⟨_, rfl⟩
      have HS := Lib.hid (show ∀ j, j ≤ T → W4.cell? ⟨g, j, none⟩ = some (.int .i64 ((preN M T j : Nat) : Int)) from fun j hj => by
        rw [hown.out.cellAt j (by omega), preL_at (by omega)])
      have hgz : g < W4.heap.size := (hown.out.lt g rfl).2
      have HB4 := Lib.hid (tw B2 hb)
      have H2' := Lib.hid (OKV.below H2.out hb)
      clear hown hb hb3 HO3 H1 H2 k3 hw3 hz3 hlt B2 hk
      go_wp2_with fail
      go_loopw [88] (fun i wz => ∃ j : Nat, j ≤ M ∧ i = .int .i64 j ∧ W4 = wz) (fun i _ => M - (intOf i).toNat)
      case atStart => exact ⟨0, Nat.zero_le _, rfl, rfl⟩
      case round =>
        obtain ⟨j, hj, rfl, rfl⟩ := hrel
        by_cases hlt : j < M
        · have hki : (j : Int) < (M : Int) := by omega
          obtain ⟨b, off, rfl, hB, d0⟩ := at1 H2'.out.2.2.2 (i := j) (by rw [tiesL_length]; exact hlt)
          rw [tiesL_at, tie_one M j (by omega)] at d0
          go_wp2_with fail
          go_roundw
          case rel => exact ⟨j + 1, by omega, by go_num, trivial⟩
          case measure => simp [intOf]; omega
        · obtain rfl : M = j := by omega
          have hki2 : ¬ (M : Int) < (M : Int) := by omega
          go_wp2_with fail
          go_loopw [16] (fun d wz => ∃ K : Nat, 1 ≤ K ∧ K ≤ T + 1 ∧ d = .int .i64 K ∧ Below W4.heap.size W4 wz) (fun d _ => T + 1 - (intOf d).toNat)
          case atStart => exact ⟨1, by omega, by omega, rfl, Below.refl _ _⟩
          case round =>
            obtain ⟨K, hK1, hK2, rfl, hb⟩ := hrel
            by_cases hKT : K ≤ T
            · have hKi : (K : Int) ≤ (T : Int) := by omega
              have q1 := pre_le (m := M) (show 0 < T by omega) hKT
              have HF := Lib.hid (fun i => pre_far M (show 0 < T by omega) i K)
              generalize preN M T K = q at q1 HF
              go_wp2_with fail
              go_loopw [17, 18, 19] (fun lo hi i wz => ∃ (I : Nat) (l h : Int), I + K ≤ T + 1 ∧ lo = .int .i64 l ∧ hi = .int .i64 h ∧ i = .int .i64 I ∧ (q : Int) ≤ l ∧ h ≤ (q : Int) + 1 ∧ 0 ≤ h ∧ l ≤ 60 ∧ Below W4.heap.size W4 wz) (fun _ _ i _ => T + 1 - (intOf i).toNat)
              case atStart => exact ⟨0, M, 0, by omega, rfl, rfl, rfl, by omega, by omega, by omega, by omega, hb⟩
              case round =>
                clear hb
                obtain ⟨I, l, h, hIK, rfl, rfl, rfl, g1, g2, g3, g4, hb⟩ := hrel
                have wIK : IntKind.i64.wrap ((I : Int) + (K : Int)) = (I : Int) + (K : Int) := wr64 (by omega) (by omega)
                by_cases hI : I + K ≤ T
                · have hIi : (I : Int) + (K : Int) ≤ (T : Int) := by omega
                  have c1 := (hb.cell (p := ⟨g, I + K, none⟩) hgz).trans (HS.out (I + K) hI)
                  have c2 := (hb.cell (p := ⟨g, I, none⟩) hgz).trans (HS.out I (by omega))
                  have f1 := HF.out I
                  obtain ⟨f10, f11⟩ := f1
                  have p1 := pre_le (m := M) (show 0 < T by omega) hI
                  have hn : ((I : Int) + (K : Int)).toNat = I + K := by omega
                  have b1 : (0 : Int) ≤ (I : Int) + (K : Int) := by omega
                  have b2 : (I : Int) + (K : Int) < (T : Int) + 1 := by omega
                  have b3 : (I : Int) < (T : Int) + 1 := by omega
                  generalize preN M T (I + K) = y at c1 f10 f11 p1
                  generalize preN M T I = x at c2 f10 f11
                  obtain ⟨s, hs⟩ : ∃ s : Int, (y : Int) - (x : Int) = s := ⟨_, rfl⟩
                  have HSS := Lib.hid hs
                  have ws : IntKind.i64.wrap s = s := wr64 (by omega) (by omega)
                  go_wp2_with fail
                  go_quiet (fail)
                  go_wp2_with fail
                  go_roundw
                  case rel => exact ⟨I + 1, min l s, max h s, by omega, rfl, rfl, by go_num, by have := HSS.out; omega, by have := HSS.out; omega, by have := HSS.out; omega, by have := HSS.out; omega, below_drewN hb _⟩
                  case measure => simp [intOf]; omega
                · have hIi : ¬ (I : Int) + (K : Int) ≤ (T : Int) := by omega
                  have wd : IntKind.i64.wrap (h - l) = h - l := wr64 (by omega) (by omega)
                  have hd : ¬ 1 < h - l := by omega
                  go_wp2_with fail
                  go_roundw
                  case rel => exact ⟨K + 1, by omega, by omega, by go_num, hb⟩
                  case measure => simp [intOf]; omega
            · obtain rfl : K = T + 1 := by omega
              have hKi : ¬ ((T + 1 : Nat) : Int) ≤ (T : Int) := by omega
              have c1 := (hb.cell (p := ⟨g, T, none⟩) hgz).trans (HS.out T (Nat.le_refl _))
              rw [pre_end M (by omega)] at c1
              have b1 : (0 : Int) ≤ (T : Int) := by omega
              have b2 : (T : Int) < (T : Int) + 1 := by omega
              go_wp2_with fail
              refine (awake6 _ (hT.below (tw HB4.out hb))).mono ?_
              rintro e w20 ⟨rfl, hb20⟩
              go_wp2
              go_ret
              exact ⟨rfl, tw (tw HB4.out hb) hb20⟩
theorem lawHangSpreads (p q : Int) (w : World) (hT : Tab w) (p1 : 0 ≤ p) (p2 : p < 256) (q1 : 0 ≤ q) (q2 : q < 256) :
    Calls Tryz.prog 12 #[.int .u8 p, .int .u8 q] w fun e w' => e = .returned (.bool true) ∧ Below w.heap.size w w' := by
  obtain ⟨P, rfl⟩ : ∃ P : Nat, p = (P : Int) := ⟨p.toNat, by omega⟩
  obtain ⟨Q, rfl⟩ : ∃ Q : Nat, q = (Q : Int) := ⟨q.toNat, by omega⟩
  exact lawSpreadsN P Q _ _ w hT (by omega) (by omega) rfl rfl
end Go.Proofs.YtlkeejhaodedmaaGreatDoor

/- Bytes as arguments. -/
namespace Go.Proofs.YtlkeejhaodedmaaGreatDoor
open Go.ChangeShapes Go.WideShapes Go.ChangeAt Go.WideMaps Go.WideElems Go.RowKit

set_option maxRecDepth 100000 in
theorem open_u8 {w : World} {r : Reach} {b0 : Nat} {v : Value} (h : Value.okWide Tryz.prog w r b0 5 v) : ∃ n, v = .int .u8 n ∧ 0 ≤ n ∧ n < 256 := by
  have hS := Tryz.underlying5
  simp only [Value.okWide, hS] at h
  obtain ⟨n, rfl, hb⟩ := cell_intT hS h
  simp only [IntKind.has, IntKind.min, IntKind.max, IntKind.signed, IntKind.bits] at hb
  refine ⟨n, rfl, ?_, ?_⟩ <;> simp at hb <;> omega
end Go.Proofs.YtlkeejhaodedmaaGreatDoor

namespace Go.Proofs.YtlkeejhaodedmaaGreatDoor
open Go.ChangeShapes Go.WideShapes Go.ChangeAt Go.WideMaps Go.WideElems Go.RowKit

set_option maxRecDepth 100000 in
theorem spreads_lifted (os : Os) (started : os.Started) (H : Type) (enc : TypeId × Value → H) :
    ReturnsInHanded {} Tryz.checked os 12 .any (fun w args => (Rows.hangSpreadsSpec.pre enc Tryz.prog Tryz.f12 [] false w args ∧ laidMetH Tryz.prog haLaid w) ∧ sizedMet enc Tryz.prog Tryz.f12 (OpenSpec.ofChange Rows.hangSpreadsSpec) false w args)
      (Rows.hangSpreadsSpec.post enc Tryz.prog Tryz.f12 false true false false) := by
  refine returnsInHanded_of_change_and (C := Tryz.checked) (X := fun w _ => laidMetH Tryz.prog haLaid w) (fun _ _ _ hh h => h.of_heap hh) Tryz.ownT started (by kernel_rfl) Tryz.func12
    (ChangeSpec.witness_shaped (enc := enc) (C := Tryz.checked) (os := os) (X := fun w _ => laidMetH Tryz.prog haLaid w) false (World.laidAll Tryz.prog os haLaid) #[.int .u8 0, .int .u8 0] 8 (World.laidAll_os _ _ _) (World.shaped_of_ZipB (by kernel_rfl) (by kernel_rfl)) (by kernel_rfl) (by kernel_rfl) (by kernel_rfl) (door_met os _)) ?_
  intro W base args ds gs before hval0 hW _ _ hL _
  have hval : ∀ (j : Nat) t v, Tryz.f12.params[j]? = some t → args[j]? = some v → Value.okWide Tryz.prog W .any base t v := hval0
  have hW' := hW
  obtain ⟨p, q, hA0, hV, rfl, hfz, hnd⟩ := hW
  have hA : DataW.TrodAll enc Tryz.prog W 0 (fun _ => true) true Tryz.f12.params.toList args.toList ds p := hA0
  rw [Tryz.params12] at hA hval
  obtain ⟨v0, v1, d0, d1, p0, p1, rfl, rfl, rfl, h0, h1⟩ := trodAll_two hA
  obtain ⟨rfl, rfl⟩ := trodVars_none hV
  clear hA0 hval0
  simp only [List.append_nil] at hW'
  have hlt : ∀ x ∈ p0 ++ p1, x.block < W.heap.size := fun x hx => by simpa using hW'.lt x hx
  obtain ⟨z00, rfl, y00, y01⟩ := open_u8 (hval 0 5 v0 rfl rfl)
  obtain ⟨z10, rfl, y10, y11⟩ := open_u8 (hval 1 5 v1 rfl rfl)
  have harg0 : ∀ (W' : World), Below W.heap.size W W' → DataW.Trod enc Tryz.prog W' 0 (fun b => decide (b < W.heap.size)) true 5 (.int .u8 z00) d0 p0 :=
    fun W' hn => Below.trod Tryz.laidOutT (by kernel_rfl) (of_decide_eq_true (by kernel_rfl)) h0 hn (fun x hx => hlt x (List.mem_append_left _ hx))
  have harg1 : ∀ (W' : World), Below W.heap.size W W' → DataW.Trod enc Tryz.prog W' 0 (fun b => decide (b < W.heap.size)) true 5 (.int .u8 z10) d1 p1 :=
    fun W' hn => Below.trod Tryz.laidOutT (by kernel_rfl) (of_decide_eq_true (by kernel_rfl)) h1 hn (fun x hx => hlt x (List.mem_append_right _ hx))
  refine (lawHangSpreads z00 z10 W (tab_met hL) y00 y01 y10 y11).mono fun e W' ⟨he, hb⟩ => ?_
  subst he
  refine ⟨_, rfl, _, _, _, [], p0 ++ p1, [], hW', ?_, trodAll_mk2 (harg0 W' hb) (harg1 W' hb), rfl, hb.frame _, fun h => by cases h⟩
  exact trodAll_mk1 (shut_bool Tryz.underlying4 true)
set_option maxHeartbeats 8000000 in
theorem spreads_joined : joinedFacts Tryz.prog 12 Tryz.f12 Rows.hangSpreadsSpec Rows.hangSpreadsRow = true := by
  unfold joinedFacts
  simp only [Bool.and_eq_true]
  and_intros
  all_goals (as_aux_lemma => kernel_rfl)
theorem spreads_holds : Rows.HangSpreadsSaid :=
  OpenClaim.holds_of_wide 12 Tryz.f12 rfl rfl rfl rfl rfl rfl rfl ⟨rfl, rfl, rfl, rfl, rfl⟩ rfl rfl rfl rfl rfl (by kernel_rfl) Tryz.func12 spreads_joined
    (of_decide_eq_true (by kernel_rfl)) (by unfold Func.isWrapper; first | (rw [if_pos (by decide +kernel)]; kernel_rfl) | (rw [if_neg (by decide +kernel)]; exact ⟨rfl, rfl⟩))
    (fun os started H enc _ => spreads_lifted os started H enc)
theorem spreads_card : Rows.HangSpreadsCardSaid :=
  Claim7.holds_tied_plain_at .later [] [.data] true (true, "bb9c8a1f3b87a99a73053614bf73ec5a74d01f458fba8a9eee33de806b476934") false
    spreads_holds (fun _ h => by cases h) (by kernel_rfl) (fun _ h => by cases h) hangSpreads_row_tie rfl ⟨rfl, rfl⟩ (by kernel_rfl) rfl
    (fun f fn hf hfn => by
      obtain rfl : f = 12 := Option.some.inj ((show Tryz.prog.funcNamed "codend/codendlaw06.HangSpreads" = some 12 by kernel_rfl).symm.trans hf) |>.symm
      obtain rfl : fn = Tryz.f12 := (Option.some.inj (Tryz.func12.symm.trans hfn)).symm
      exact ⟨by kernel_rfl, fun j t ht => by
        rw [Tryz.params12] at ht
        have hm : t ∈ [5, 5] := by simpa using Array.mem_of_getElem? ht
        have hall : ([5, 5].all fun u => !Tryz.prog.wantsStandIn u) = true := by kernel_rfl
        exact (show Tryz.prog.wantsStandIn t = false by simpa using List.all_eq_true.1 hall t hm)⟩)
    (by kernel_rfl)
#print axioms spreads_card
end Go.Proofs.YtlkeejhaodedmaaGreatDoor
