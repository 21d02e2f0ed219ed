/- Helpers: H4. -/
import Derived.Test.YtlkeejhaodedmaaGreatDoorH3
import Derived.Test.YtlkeejhaodedmaaGreatDoorRows
import Derived.Shelf.SlGeneric
import Derived.Shelf.SlLaysF0
import Derived.Sort.OwnSorted
import Derived.Shelf.SlSortCmp.InsertionK
import Derived.Shelf.SlSortCmp.WholeK
import Derived.Shelf.SlSortCmp.NoneTotal
import Derived.Test.YtlkeejhaodedmaaGreatDoorCards
import Derived.Test.YtlkeejhaodedmaaGreatDoorTie
import Derived.ProofKit
import Derived.LaidMore
import Derived.LaidLaws
import Derived.OpenShut
import Derived.Stop.Joined
import Derived.SevenTiedAt
import Derived.HandedShaped
import Derived.Shelf.Vars
import Derived.Lay
import Derived.Lib.LaidTab
/- hang: the lengths of the twines by their names. -/
namespace Go.Proofs.YtlkeejhaodedmaaGreatDoor
open Go.RowKit Go.ChangeMaps Go.MapKept

/-- What a line has of its twine. -/
def lnN (a : Nat) (x : Lin) : Nat := lenN x.b.toNat x.k.toNat x.r.toNat a
/-- The lengths of all lines of each name. -/
def lenS (a : Nat) (l : List Lin) : List (ByteArray × Int) := l.foldl (fun m x => mput m x.s (mget m x.s + (lnN a x : Nat))) []
theorem lenS_step (a : Nat) (l : List Lin) {k : Nat} (h : k < l.length) : lenS a (l.take (k + 1)) = mput (lenS a (l.take k)) l[k].s (mget (lenS a (l.take k)) l[k].s + (lnN a l[k] : Nat)) := by
  unfold lenS
  rw [List.take_succ_eq_append_getElem h, List.foldl_append]
  rfl
theorem mget_mput (s t : ByteArray) (v : Int) : ∀ m : List (ByteArray × Int), mget (mput m s v) t = if t = s then v else mget m t
  | [] => by simp [mput, mget]
  | p :: r => by
    unfold mput
    by_cases h : s = p.1
    · rw [if_pos h]
      by_cases h2 : t = s
      · simp [mget, h2]
      · have h3 : t ≠ p.1 := by rw [← h]; exact h2
        simp [mget, h2, h3]
    · rw [if_neg h, mget]
      by_cases h2 : t = p.1
      · have h3 : t ≠ s := by rw [h2]; exact fun e => h e.symm
        simp [mget, h2]
        intro h4
        exact absurd h4.symm h
      · rw [if_neg h2, mget_mput s t v r, mget, if_neg h2]
def LinOk (l : List Lin) : Prop := ∀ i (h : i < l.length), (0 ≤ l[i].b ∧ l[i].b ≤ 100000) ∧ (0 ≤ l[i].k ∧ l[i].k ≤ 100000) ∧ 1 ≤ l[i].r ∧ l[i].r ≤ 100
theorem lnN_le {a : Nat} {x : Lin} (ha : a ≤ 100) (h : (0 ≤ x.b ∧ x.b ≤ 100000) ∧ (0 ≤ x.k ∧ x.k ≤ 100000) ∧ 1 ≤ x.r ∧ x.r ≤ 100) : lnN a x ≤ 20000000 := lenN_le (by omega) (by omega) (by omega) ha
theorem lenS_le {a : Nat} {l : List Lin} (ha : a ≤ 100) (hv : LinOk l) : ∀ k, k ≤ l.length → ∀ s, 0 ≤ mget (lenS a (l.take k)) s ∧ mget (lenS a (l.take k)) s ≤ ((k * 20000000 : Nat) : Int)
  | 0, _, s => by simp [lenS, mget]
  | k + 1, hk, s => by
    have ih := lenS_le ha hv k (by omega)
    have hn := lnN_le ha (hv k (by omega))
    have e : (k + 1) * 20000000 = k * 20000000 + 20000000 := by rw [Nat.add_mul, Nat.one_mul]
    rw [e]
    generalize k * 20000000 = B at ih ⊢
    rw [lenS_step a l (show k < l.length by omega), mget_mput]
    split
    · have := ih l[k].s
      omega
    · have := ih s
      omega
set_option maxHeartbeats 8000000 in
set_option maxRecDepth 100000 in
theorem hgLengthsOf (A : Option Addr) (c : Nat) (l : List Lin) (a : Nat) (w : World) (hl : l.length ≤ 64) (hv : LinOk l) (ha : a ≤ 100) (hA : OKV Lin.c 4 w A c l) :
    Calls Tryz.prog 117 #[.slice A l.length c, .int .i64 a] w fun e w' => ∃ b, e = .returned (.map (some b)) ∧ MIs w' b (lenS a l) ∧ Below w.heap.size w w' := by
  have hmm := @run_makeMap Tryz.prog
  have HR := Lib.hid hA.2.2.2
  have HV := Lib.hid hv
  clear hA hv
  go_enter Tryz.func117, Tryz.ntmps117
  go_wp2_with fail
  go_loopw [7, 11] (fun _ i wr => ∃ k : Nat, k ≤ l.length ∧ i = .int .i64 k ∧ Hid (MIs wr w.heap.size (lenS a (l.take k))) ∧ Below w.heap.size w wr) (fun _ i _ => l.length - (intOf i).toNat)
  case atStart => exact ⟨0, Nat.zero_le _, rfl, Lib.hid (MIs.made w), (Below.refl _ _).alloc (Nat.le_refl _) _⟩
  case round =>
    obtain ⟨k, hk, rfl, HM, hb⟩ := hrel
    by_cases hlt : k < l.length
    · have hki : (k : Int) < (l.length : Int) := by omega
      have hk0 : (0 : Int) ≤ (k : Int) := by omega
      obtain ⟨b, off, rfl, hB, c0, c1, c2, c3⟩ := atL (HR.out.to hb) hlt
      have hn := lnN_le ha (HV.out k hlt)
      obtain ⟨v1, v2, v3⟩ := HV.out k hlt
      have hV := lenS_le ha HV.out k hk l[k].s
      have HS := Lib.hid (lenS_step a l hlt)
      generalize l[k] = x at c0 c1 c2 c3 hn v1 v2 v3 hV HS
      obtain ⟨s, hs⟩ : ∃ s, x.s = s := ⟨_, rfl⟩
      obtain ⟨X, hX⟩ : ∃ X : Nat, x.b = (X : Int) := ⟨x.b.toNat, by omega⟩
      obtain ⟨Y, hY⟩ : ∃ Y : Nat, x.k = (Y : Int) := ⟨x.k.toNat, by omega⟩
      obtain ⟨Z, hZ⟩ : ∃ Z : Nat, x.r = (Z : Int) := ⟨x.r.toNat, by omega⟩
      have HL := fun w => hgLengthOf X Y Z a w (by omega) (by omega) (by omega) ha
      have hN : lnN a x = lenN X Y Z a := by rw [lnN, hX, hY, hZ]; rfl
      rw [hN] at HS hn
      rw [hX] at c0
      rw [hY] at c1
      rw [hZ] at c2
      rw [hs] at c3 HS hV
      clear hN hX hY hZ v1 v2 v3 hs
      generalize lenN X Y Z a = n at HL HS hn
      obtain ⟨w1, hw1, k1, hb1, hz1⟩ := boxS wr (.cells #[.int .i64 X, .int .i64 Y, .int .i64 Z, .string s] 133)
      obtain ⟨d0, d1, d2, d3, -, -, -, -⟩ := cel4 k1
      have hM1 := HM.out.below hb1 HM.out.lt
      have HM1 := Lib.hid hM1
      have hlk := (MIs.drew hM1).lookup s
      unfold kvv at hlk
      generalize mget (lenS a (l.take k)) s = V at hlk hV HS
      have hb1' := tw hb hb1
      have wv : IntKind.i64.wrap (V + (n : Int)) = V + (n : Int) := wr64 (by omega) (by omega)
      clear hM1 k1 HM
      go_wp2_with fail
      refine wp_region_still_tail 13 (by kernel_rfl) (by kernel_rfl) ?_
      simp only [List.take_succ_cons, List.take_zero, List.drop_succ_cons, List.drop_zero]
      repeat (first | still_step | still_call (Calls.mono (HL _) fun _ _ h => ⟨h.1, h.2.symm⟩))
      refine wpStill_nil ?_
      change wpList _ _ _ _ _ w1.drew
      obtain ⟨w2, hup, hM2, hg2⟩ := (MIs.drew HM1.out).update s (V + (n : Int))
      have hb2 := below_drew hb1'
      unfold kvv at hup
      have hbf := hb2.grown hg2 hb2.size (fun j e => by cases e; exact Nat.le_refl _)
      have HF := Lib.hid (show MIs w2 w.heap.size (lenS a (l.take (k + 1))) by rw [HS.out]; exact hM2)
      clear hM2 hg2
      go_wp2
      go_roundw
      case rel => exact ⟨k + 1, by omega, by go_num, HF, hbf⟩
      case measure => simp [intOf]; omega
    · obtain rfl : k = l.length := by omega
      have HF := Lib.hid (show MIs wr w.heap.size (lenS a l) by have := HM.out; rwa [List.take_length] at this)
      go_wp2
      go_ret
      exact ⟨_, rfl, HF.out, hb⟩
end Go.Proofs.YtlkeejhaodedmaaGreatDoor

/- hang: Bill. -/
namespace Go.Proofs.YtlkeejhaodedmaaGreatDoor
open Go.RowKit Go.ChangeMaps Go.MapKept

theorem infoHS : (Tryz.prog.info? 106).map (fun i => (i.zero, i.size, i.bytes)) = some (some (.agg #[.int .i64 0, .int .i64 0, .int .i64 0]), 3, 24) := by kernel_rfl
/-- The sums of a twine. -/
def smM (M : List (ByteArray × Int)) (t : Twn) : Sm := smOf t (mget M t.s).toNat
set_option maxHeartbeats 2000000 in
set_option maxRecDepth 100000 in
theorem hgBill1 (q Bm : Nat) (M : List (ByteArray × Int)) (t : Twn) (w : World) (hq : w.cell? ⟨q, 0, none⟩ = some (.map (some Bm))) (hM : MIs w Bm M) (hMl : 0 ≤ mget M t.s ∧ mget M t.s ≤ 2000000000) (hx : 0 ≤ t.x ∧ t.x ≤ 100000) (hh : 0 ≤ t.h ∧ t.h ≤ 100) :
    Calls Tryz.prog 119 #[.agg #[.string t.s, .int .i64 t.x, .int .i64 t.h], .pointer (some ⟨q, 0, none⟩)] w fun e w' => e = .returned (.agg #[.int .i64 (smM M t).l, .int .i64 (smM M t).w, .int .i64 (smM M t).a]) ∧ Below w.heap.size w w' := by
  have hqB : q < w.heap.size := by
    rcases Nat.lt_or_ge q w.heap.size with h | h
    · exact h
    · simp [World.cell?, Array.getElem?_eq_none h] at hq
  obtain ⟨V, hV⟩ : ∃ V : Nat, mget M t.s = (V : Int) := ⟨(mget M t.s).toNat, by omega⟩
  have HS := fun w => hgSum t V w (by omega) hx hh
  rw [show smOf t V = smM M t by rw [smM, hV, Int.toNat_natCast]] at HS
  generalize smM M t = u at HS ⊢
  obtain ⟨w1, hw1, k1, hb1, hz1⟩ := boxS w (.cells #[.string t.s, .int .i64 t.x, .int .i64 t.h] 132)
  obtain ⟨w2, hw2, k2, hb2, hz2⟩ := boxS w1 (.cells #[.int .i64 0, .int .i64 0, .int .i64 0] 106)
  have B2 := tw hb1 hb2
  obtain ⟨c0, c1, c2, -, -, -⟩ := cel3 (blkT k1 hb2)
  have hq2 := (B2.cell (p := ⟨q, 0, none⟩) hqB).trans hq
  have hlk := (hM.below B2 hM.lt).lookup t.s
  unfold kvv at hlk
  rw [hV] at hlk
  clear hq hM hMl hV hx hh k1
  go_enter Tryz.func119, Tryz.ntmps119
  go_wp2_with fail
  refine (HS _).mono ?_
  rintro e w3 ⟨rfl, hb3⟩
  have k3 := blkT k2 hb3
  obtain ⟨q0, q1, q2, q3, q4, q5⟩ := cel3 k3
  obtain ⟨s1, s2⟩ := set3 k3 (.int .i64 u.l) (.int .i64 u.w) (.int .i64 u.a)
  obtain ⟨t0, t1, t2, -, -, -⟩ := cel3 s1
  have hbw := tw B2 hb3
  have hbf := hbw.grown s2 hbw.size (fun j e => by cases e; exact hb1.size)
  go_wp2
  exact bodyPost_ret (v := .agg #[.int .i64 u.l, .int .i64 u.w, .int .i64 u.a]) (by simp [results, Tryz.results119, go_sem, t0, t1, t2]) rfl ⟨rfl, hbf⟩
set_option maxHeartbeats 2000000 in
set_option maxRecDepth 100000 in
theorem hgTransSum (q Bm : Nat) (M : List (ByteArray × Int)) (A : Option Addr) (c : Nat) (L : List Twn) (w : World) (hL : L.length ≤ 100000) (hn : ∀ r ∈ L, (0 ≤ r.x ∧ r.x ≤ 100000) ∧ 0 ≤ r.h ∧ r.h ≤ 100) (hq : w.cell? ⟨q, 0, none⟩ = some (.map (some Bm))) (hqB : q < w.heap.size) (hM : MIs w Bm M) (hMle : ∀ s, 0 ≤ mget M s ∧ mget M s ≤ 2000000000) (hA : OKV Twn.c 3 w A c L) :
    Calls Tryz.prog 118 #[.slice A L.length c, .func (.func 119) #[] #[.pointer (some ⟨q, 0, none⟩)]] w (RowP Sm.c 3 106 (L.map (smM M)) w) := by
  unfold RowP
  rw [List.length_map]
  obtain ⟨i0, hi, hz0, hz1, hz2⟩ := info_parts infoHS
  have HI := Lib.hid hi
  have HZ0 := Lib.hid hz0
  have HZ1 := Lib.hid hz1
  have HZ2 := Lib.hid hz2
  have HR := Lib.hid hA.2.2.2
  have HN := Lib.hid hn
  have HQ := Lib.hid hq
  have HMI := Lib.hid hM
  have HML := Lib.hid hMle
  clear hq hM hMle
  clear hn
  clear hi hz0 hz1 hz2 hA
  go_enter Tryz.func118, Tryz.ntmps118
  go_wp2_with (at_make; refine wpList_make_own _ rfl _ _ 96 rfl w.heap.size 106 i0 (.agg #[.int .i64 0, .int .i64 0, .int .i64 0]) 3 Tryz.underlying96 HI.out HZ0.out HZ1.out .i64 .i64 (L.length : Int) L.length rfl rfl rfl (by rw [HZ2.out]; omega) (by unfold maxLen; omega) (Nat.le_refl _) ?_; intro w1 hown1 hgrow1)
  have hb1 : Below w.heap.size w w1 := (Below.refl _ _).grown hgrow1 (Nat.le_refl _) (fun _ e => by cases e)
  have HO1 := Lib.hid hown1
  clear hown1 hgrow1
  go_loopw [5, 13] (fun v i wr => ∃ k : Nat, k ≤ L.length ∧ i = .int .i64 k ∧ Hid (wr.ownsRow w.heap.size 106 3 v k (((L.map (smM M)).take k).flatMap Sm.c)) ∧ Below w.heap.size w wr) (fun _ i _ => L.length - (intOf i).toNat)
  case atStart => exact ⟨0, Nat.zero_le _, rfl, HO1, hb1⟩
  case round =>
    obtain ⟨k, hk, rfl, hown, hb⟩ := hrel
    by_cases hlt : k < L.length
    · have hki : (k : Int) < (L.length : Int) := by omega
      have hk0 : (0 : Int) ≤ (k : Int) := by omega
      have hbz := hb.size
      have hrv := HR.out.to hb
      obtain ⟨b, off, rfl, hB, c0, c1, c2⟩ := atT hrv hlt
      clear hrv
      have HMS := Lib.hid (map_take_snoc (smM M) Sm.c L hlt)
      have hxn := HN.out _ (List.getElem_mem hlt)
      generalize L[k] = t at c0 c1 c2 HMS hxn
      have HM := fun w1 (h : Below wr.heap.size wr w1) => hgBill1 q Bm M t w1 (((tw hb h).cell (p := ⟨q, 0, none⟩) hqB).trans HQ.out) (HMI.out.below (tw hb h) HMI.out.lt) (HML.out t.s) hxn.1 hxn.2
      generalize smM M t = u at HM HMS
      clear hxn
      obtain ⟨wx, hwx, kx, hbx, hzx⟩ := boxS wr (.cells #[.string t.s, .int .i64 t.x, .int .i64 t.h] 132)
      obtain ⟨x0, x1, x2, -, -, -⟩ := cel3 kx
      have HMx := HM _ hbx
      clear kx HM
      go_wp2_with fail
      refine HMx.mono ?_
      rintro e w3 ⟨rfl, hb3⟩
      have hown3 := ownTo (ownTo hown.out hbx) hb3
      have B3 := tw (tw hb hbx) hb3
      have hz3 := B3.size
      clear hown
      go_wp2_with (at_builtin; refine wpList_append_own _ rfl _ _ 96 rfl w.heap.size 106 i0 (.agg #[.int .i64 0, .int .i64 0, .int .i64 0]) 3 24 Tryz.underlying96 HI.out HZ0.out HZ1.out HZ2.out rfl (by decide) _ _ _ rfl (hown3.alloc _) ⟨w3.heap.size, 0, none⟩ 1 1 [.int .i64 u.l, .int .i64 u.w, .int .i64 u.a] rfl rfl (newsH _ _ _) ?c2 ?c3 ?c4 ?c5 ?_)
      case c2 => intro u hu; simp at hu; rcases hu with rfl | rfl | rfl <;> rfl
      case c3 => unfold maxLen; omega
      case c4 => omega
      case c5 => simp; omega
      intro v' w4 hown4 hgrow4 _
      have hq4 : Below w.heap.size w w4 := (B3.alloc hz3 _).grown hgrow4 (by simp; omega) (baseOf hown3)
      have HO4 := Lib.hid (show w4.ownsRow w.heap.size 106 3 v' (k + 1) (((L.map (smM M)).take (k + 1)).flatMap Sm.c) by rw [HMS.out]; exact hown4)
      clear hown4 hgrow4 hown3
      go_wp2
      go_roundw
      case rel => exact ⟨k + 1, by omega, by go_num, HO4, hq4⟩
      case measure => simp [intOf]; omega
    · obtain rfl : k = L.length := by omega
      have hf := hown.out
      rw [List.take_of_length_le (by rw [List.length_map]; omega)] at hf
      have HF := Lib.hid hf
      clear hf hown
      go_wp2
      go_ret
      exact ⟨_, rfl, HF.out, hb⟩
set_option maxHeartbeats 2000000 in
set_option maxRecDepth 100000 in
theorem hgIndexS (A : Option Addr) (c : Nat) (L : List Sm) (w : World) (hL : L.length ≤ 100000) (hA : OKV Sm.c 3 w A c L) :
    Calls Tryz.prog 138 #[.slice A L.length c, .func (.func 122) #[] #[]] w (IdxP smB L w) := by
  have HR := Lib.hid hA.2.2.2
  clear hA
  go_enter Tryz.func138, Tryz.ntmps138
  go_wp2_with fail
  go_loopw [5, 8] (fun _ i wr => ∃ k : Nat, k ≤ L.length ∧ i = .int .i64 k ∧ Hid (∀ i (hi : i < L.length), i < k → smB L[i] = false) ∧ Below w.heap.size w wr) (fun _ i _ => L.length - (intOf i).toNat)
  case atStart => exact ⟨0, Nat.zero_le _, rfl, Lib.hid (fun _ _ h => by omega), Below.refl _ _⟩
  case round =>
    obtain ⟨k, hk, rfl, HN, hb⟩ := hrel
    by_cases hlt : k < L.length
    · have hki : (k : Int) < (L.length : Int) := by omega
      have hk0 : (0 : Int) ≤ (k : Int) := by omega
      have hrv := HR.out.to hb
      obtain ⟨b, off, rfl, hB, c0, c1, c2⟩ := atM hrv hlt
      obtain ⟨p, hp⟩ : ∃ p, smB L[k] = p := ⟨_, rfl⟩
      have HP := Lib.hid hp
      have HM := fun w => hgSumLarge L[k] w
      rw [hp] at HM
      clear hrv hp
      go_wp2_with fail
      refine (HM _).mono ?_
      rintro e w3 ⟨rfl, hb3⟩
      cases p
      · go_wp2
        go_roundw
        case rel => exact ⟨k + 1, by omega, by go_num, Lib.hid (fun i hi hik => (Nat.lt_or_ge i k).elim (HN.out i hi) (fun h => by
          obtain rfl : i = k := by omega
          exact HP.out)), tw hb hb3⟩
        case measure => simp [intOf]; omega
      · go_wp2
        go_ret
        obtain ⟨q1, q2⟩ := any_step smB L hlt (fun i hi => HN.out i (by omega) hi) HP.out
        exact ⟨(k : Int), rfl, by rw [q1]; simp, fun _ => ⟨k, rfl, q2⟩, tw hb hb3⟩
    · obtain rfl : k = L.length := by omega
      have HF := Lib.hid (any_none smB L (fun i hi => HN.out i hi hi))
      go_wp2
      go_ret
      exact ⟨-1, rfl, by rw [HF.out]; rfl, fun h => absurd h (by decide), hb⟩
set_option maxHeartbeats 1000000 in
set_option maxRecDepth 100000 in
theorem hgContainsS (A : Option Addr) (c : Nat) (L : List Sm) (w : World) (hL : L.length ≤ 100000) (hA : OKV Sm.c 3 w A c L) :
    Calls Tryz.prog 121 #[.slice A L.length c, .func (.func 122) #[] #[]] w fun e w' => e = .returned (.bool (L.any smB)) ∧ Below w.heap.size w w' := by
  go_enter Tryz.func121, Tryz.ntmps121
  go_wp2_with fail
  refine (hgIndexS A c L _ hL hA).mono ?_
  rintro e w3 ⟨j, rfl, hj, -, hb3⟩
  have HJ := Lib.hid hj
  clear hj
  go_wp2
  go_ret
  exact ⟨ret_b (by rw [← HJ.out]), hb3⟩
end Go.Proofs.YtlkeejhaodedmaaGreatDoor

/- hang: Bill, the walk. -/
namespace Go.Proofs.YtlkeejhaodedmaaGreatDoor
open Go.RowKit Go.ChangeMaps Go.MapKept

theorem knwE_zero {tb : List Twn} {s : ByteArray} (h : knwE tb s = 0) : tb.any (nmK s) = true := by
  unfold knwE at h
  split at h
  · assumption
  · cases h
theorem lnsE_zero {tb : List Twn} {l : List Lin} (h : lnsE tb l = 0) : l.length ≤ 64 ∧ LinOk l ∧ ∀ i (hi : i < l.length), tb.any (nmK l[i].s) = true := by
  unfold lnsE at h
  split at h
  · cases h
  · have key : ∀ i (hi : i < l.length), rngH l[i].b 0 100000 = 0 ∧ rngH l[i].k 0 100000 = 0 ∧ rngH l[i].r 1 100 = 0 ∧ knwE tb l[i].s = 0 := fun i hi => fst4_zero (lstE_zero _ l [] h i hi)
    refine ⟨by omega, fun i hi => ?_, fun i hi => knwE_zero (key i hi).2.2.2⟩
    obtain ⟨h1, h2, h3, -⟩ := key i hi
    exact ⟨rngH_zero h1, rngH_zero h2, rngH_zero h3⟩
/-- The sums of a bill, and its error. -/
def bilL (tb : List Twn) (l : List Lin) (a : Int) : List Sm := tb.map (smM (lenS a.toNat l))
def bilE0 (tb : List Twn) (l : List Lin) (a : Int) : Int := fstE [twsE tb, lnsE tb l, rngH a 0 100]
def bilE (tb : List Twn) (l : List Lin) (a : Int) : Int := if bilE0 tb l a = 0 then (if (bilL tb l a).any smB = true then 4 else 0) else bilE0 tb l a
set_option maxHeartbeats 8000000 in
set_option maxRecDepth 100000 in
theorem hgBill (At : Option Addr) (ct : Nat) (tb : List Twn) (A : Option Addr) (c : Nat) (l : List Lin) (a : Int) (w : World) (htl : tb.length ≤ 1000) (hl : l.length ≤ 1000) (hT : OKV Twn.c 3 w At ct tb) (hA : OKV Lin.c 4 w A c l) :
    Calls Tryz.prog 61 #[.slice At tb.length ct, .slice A l.length c, .int .i64 a] w (ListP Sm.c 3 (ozL (bilE tb l a) (bilL tb l a)) (bilE tb l a) w) := by
  have HC1 := fun w h => hgCheckTwines At ct tb w htl h
  have HC2 := fun w h h' => hgCheckLines At ct tb A c l w htl hl h h'
  have HE0 := Lib.hid (show fstE [twsE tb, lnsE tb l, rngH a 0 100] = bilE0 tb l a from rfl)
  have HT := Lib.hid hT
  have HA := Lib.hid hA
  clear hT hA
  by_cases hz : bilE0 tb l a = 0
  · obtain ⟨r1, r2, r3⟩ := fst3_zero hz
    obtain ⟨g1, g2⟩ := twsE_zero r1
    obtain ⟨g3, g4, -⟩ := lnsE_zero r2
    have g5 := rngH_zero r3
    rw [hz] at HE0
    have hE : bilE tb l a = if (bilL tb l a).any smB = true then 4 else 0 := by rw [bilE, if_pos hz]
    obtain ⟨a, rfl⟩ : ∃ x : Nat, a = (x : Int) := ⟨a.toNat, by omega⟩
    have hbl : bilL tb l (a : Int) = tb.map (smM (lenS a l)) := by rw [bilL, Int.toNat_natCast]
    have HLs := fun w h => hgLengthsOf A c l a w g3 g4 (by omega) h
    have hle : ∀ s, 0 ≤ mget (lenS a l) s ∧ mget (lenS a l) s ≤ 2000000000 := fun s => by
      have := lenS_le (a := a) (by omega) g4 l.length (Nat.le_refl _) s
      rw [List.take_length] at this
      have h2 : l.length * 20000000 ≤ 64 * 20000000 := Nat.mul_le_mul g3 (Nat.le_refl _)
      omega
    have HTr := fun q Bm w h1 h2 h3 h4 => hgTransSum q Bm (lenS a l) At ct tb w (by omega) (fun t ht => by
      obtain ⟨i, hi, rfl⟩ := List.mem_iff_getElem.1 ht
      have := (g2 i hi).2.2
      omega) h1 h2 h3 hle h4
    rw [hbl] at hE ⊢
    have hlen : (tb.map (smM (lenS a l))).length = tb.length := List.length_map ..
    have HCo := fun A c w h => hgContainsS A c (tb.map (smM (lenS a l))) w (by rw [hlen]; omega) h
    rw [hlen] at HCo
    generalize lenS a l = M at HLs HTr hle hbl hlen HCo hE ⊢
    generalize tb.map (smM M) = L at HTr hbl hlen HCo hE ⊢
    obtain ⟨p, hp⟩ : ∃ p, L.any smB = p := ⟨_, rfl⟩
    rw [hp] at HCo hE
    have HE1 := Lib.hid hE
    have HLn := Lib.hid hlen
    clear hz r1 r2 r3 g2 g4 hle hbl hp hE hlen
    go_enter Tryz.func61, Tryz.ntmps61
    go_wp2_with fail
    refine (HC1 _ HT.out).mono ?_
    rintro e w1 ⟨rfl, hb1⟩
    go_wp2_with fail
    refine (HC2 _ (HT.out.below hb1) (HA.out.below hb1)).mono ?_
    rintro e w2 ⟨rfl, hb2⟩
    go_wp2_with fail
    refine (hgCheckAllowance _ _).mono ?_
    rintro e w3 ⟨rfl, rfl⟩
    obtain ⟨w3, hw3, k3, hb3, hz3⟩ := boxS w2 (.cells #[.int .i64 (twsE tb), .int .i64 (lnsE tb l), .int .i64 (rngH (a : Int) 0 100)] 26)
    have B3 := tw (tw hb1 hb2) hb3
    go_wp2_with fail
    refine (hgFirst3 _ _ _ _ _ 26 _ k3).mono ?_
    rintro e w4 ⟨rfl, rfl⟩
    rw [HE0.out]
    clear k3
    go_wp2_with fail
    refine (HLs _ (HA.out.below B3)).mono ?_
    rintro e w4 ⟨Bm, rfl, hM, hb4⟩
    obtain ⟨w5, hw5, k5, hb5, hz5⟩ := boxS w4 (.cells #[.map (some Bm)] 165)
    obtain ⟨x0, -⟩ := cel1 k5
    have B5 := tw (tw B3 hb4) hb5
    have HX0 := Lib.hid x0
    have HM5 := Lib.hid (hM.below hb5 hM.lt)
    clear k5 hM
    go_wp2_with fail
    refine (HTr _ _ _ HX0.out hz5 HM5.out (HT.out.below B5)).mono ?_
    rintro e w6 ⟨v6, rfl, h6, hb6⟩
    rw [HLn.out] at h6
    obtain ⟨a6, c6, rfl, ho6⟩ := OKV.ownN Sm.c3 h6 HLn.out
    have O6 := Lib.hid ho6
    clear h6 ho6
    go_wp2_with fail
    refine (HCo _ _ _ O6.out).mono ?_
    rintro e w7 ⟨rfl, hb7⟩
    have O7 := Lib.hid (O6.out.below hb7)
    have B7 := tw (tw B5 hb6) hb7
    cases p
    · have HE := Lib.hid (show bilE tb l (a : Int) = 0 by rw [HE1.out]; rfl)
      clear HE1
      go_wp2
      go_ret2
      exact ⟨a6, c6, by rw [HE.out, ozL0, HLn.out]; rfl, by rw [HE.out, ozL0]; exact O7.out, B7⟩
    · have HE := Lib.hid (show bilE tb l (a : Int) = 4 by rw [HE1.out]; rfl)
      clear HE1
      go_wp2
      go_ret2
      exact ⟨none, 0, by rw [HE.out, ozLE (by decide)]; rfl, by rw [HE.out, ozLE (by decide)]; exact OKV.none _ _ _, B7⟩
  · have hE : bilE tb l a = bilE0 tb l a := by rw [bilE, if_neg hz]
    rw [hE, ozLE hz]
    generalize bilE0 tb l a = E at HE0 hz ⊢
    have hne := nzH hz
    clear hz hE
    go_enter Tryz.func61, Tryz.ntmps61
    go_wp2_with fail
    refine (HC1 _ HT.out).mono ?_
    rintro e w1 ⟨rfl, hb1⟩
    go_wp2_with fail
    refine (HC2 _ (HT.out.below hb1) (HA.out.below hb1)).mono ?_
    rintro e w2 ⟨rfl, hb2⟩
    go_wp2_with fail
    refine (hgCheckAllowance _ _).mono ?_
    rintro e w3 ⟨rfl, rfl⟩
    obtain ⟨w3, hw3, k3, hb3, hz3⟩ := boxS w2 (.cells #[.int .i64 (twsE tb), .int .i64 (lnsE tb l), .int .i64 (rngH a 0 100)] 26)
    have B3 := tw (tw hb1 hb2) hb3
    go_wp2_with fail
    refine (hgFirst3 _ _ _ _ _ 26 _ k3).mono ?_
    rintro e w4 ⟨rfl, rfl⟩
    rw [HE0.out]
    clear k3
    go_wp2
    go_ret2
    exact ⟨none, 0, rfl, OKV.none _ _ _, B3⟩
end Go.Proofs.YtlkeejhaodedmaaGreatDoor

/- The sort of the library laid at ratios. -/
namespace Go.Proofs.YtlkeejhaodedmaaGreatDoor
open Go.Shelf
def Tryz.sortT_ren : Go.Shelf.Ren := ⟨fun | 6 => 124 | 15 => 141 | 14 => 140 | 28 => 155 | 29 => 156 | 20 => 147 | 21 => 148 | 22 => 149 | 23 => 150 | 24 => 151 | 25 => 152 | 26 => 153 | 27 => 154 | 46 => 157 | 47 => 158 | 48 => 159 | 49 => 160 | 50 => 161 | 57 => 162 | n => n, fun | 22 => 65 | 24 => 23 | 25 => 175 | 3 => 3 | 39 => 189 | 0 => 0 | 53 => 203 | 55 => 205 | 4 => 4 | 46 => 196 | 45 => 195 | 50 => 200 | 5 => 5 | 9 => 9 | 66 => 206 | 70 => 210 | 76 => 212 | 77 => 84 | n => n, fun | n => n⟩
theorem Tryz.sortT : Go.Proofs.SlLaysF0.n6 Tryz.prog Tryz.sortT_ren := {
  mixed := by kernel_rfl,
  f6 := ⟨Tryz.f124.name, by decide, Tryz.func124.trans (congrArg some (by kernel_rfl))⟩,
  f14 := ⟨Tryz.f140.name, by decide, Tryz.func140.trans (congrArg some (by kernel_rfl))⟩,
  f15 := Tryz.func141.trans (congrArg some (by kernel_rfl)),
  f20 := ⟨Tryz.f147.name, by decide, Tryz.func147.trans (congrArg some (by kernel_rfl))⟩,
  f21 := ⟨Tryz.f148.name, by decide, Tryz.func148.trans (congrArg some (by kernel_rfl))⟩,
  f22 := ⟨Tryz.f149.name, by decide, Tryz.func149.trans (congrArg some (by kernel_rfl))⟩,
  f23 := ⟨Tryz.f150.name, by decide, Tryz.func150.trans (congrArg some (by kernel_rfl))⟩,
  f24 := ⟨Tryz.f151.name, by decide, Tryz.func151.trans (congrArg some (by kernel_rfl))⟩,
  f25 := ⟨Tryz.f152.name, by decide, Tryz.func152.trans (congrArg some (by kernel_rfl))⟩,
  f26 := ⟨Tryz.f153.name, by decide, Tryz.func153.trans (congrArg some (by kernel_rfl))⟩,
  f27 := ⟨Tryz.f154.name, by decide, Tryz.func154.trans (congrArg some (by kernel_rfl))⟩,
  f28 := Tryz.func155.trans (congrArg some (by kernel_rfl)),
  f29 := Tryz.func156.trans (congrArg some (by kernel_rfl)),
  f46 := ⟨Tryz.f157.name, by decide, Tryz.func157.trans (congrArg some (by kernel_rfl))⟩,
  f47 := Tryz.func158.trans (congrArg some (by kernel_rfl)),
  f48 := Tryz.func159.trans (congrArg some (by kernel_rfl)),
  f49 := ⟨Tryz.f160.name, by decide, Tryz.func160.trans (congrArg some (by kernel_rfl))⟩,
  f50 := ⟨Tryz.f161.name, by decide, Tryz.func161.trans (congrArg some (by kernel_rfl))⟩,
  f57 := ⟨Tryz.f162.name, by decide, Tryz.func162.trans (congrArg some (by kernel_rfl))⟩,
  t0 := Tryz.underlying0,
  a0 := Tryz.isAgg0,
  z0 := Tryz.sizeOf0,
  v0 := Tryz.zeroValue0,
  t3 := Tryz.underlying3,
  a3 := Tryz.isAgg3,
  z3 := Tryz.sizeOf3,
  v3 := Tryz.zeroValue3,
  t4 := Tryz.underlying4,
  a4 := Tryz.isAgg4,
  z4 := Tryz.sizeOf4,
  v4 := Tryz.zeroValue4,
  t5 := Tryz.underlying5,
  a5 := Tryz.isAgg5,
  z5 := Tryz.sizeOf5,
  v5 := Tryz.zeroValue5,
  t9 := Tryz.underlying9,
  a9 := Tryz.isAgg9,
  z9 := Tryz.sizeOf9,
  v9 := Tryz.zeroValue9,
  t22 := Tryz.underlying65,
  a22 := Tryz.isAgg65,
  z22 := Tryz.sizeOf65,
  v22 := Tryz.zeroValue65,
  t25 := Tryz.underlying175,
  a25 := Tryz.isAgg175,
  z25 := Tryz.sizeOf175,
  v25 := Tryz.zeroValue175,
  t39 := Tryz.underlying189,
  a39 := Tryz.isAgg189,
  z39 := Tryz.sizeOf189,
  v39 := Tryz.zeroValue189,
  t45 := Tryz.underlying195,
  a45 := Tryz.isAgg195,
  z45 := Tryz.sizeOf195,
  v45 := Tryz.zeroValue195,
  t46 := Tryz.underlying196,
  a46 := Tryz.isAgg196,
  z46 := Tryz.sizeOf196,
  v46 := Tryz.zeroValue196,
  t50 := Tryz.underlying200,
  a50 := Tryz.isAgg200,
  z50 := Tryz.sizeOf200,
  v50 := Tryz.zeroValue200,
  t53 := Tryz.underlying203,
  a53 := Tryz.isAgg203,
  z53 := Tryz.sizeOf203,
  v53 := Tryz.zeroValue203,
  t55 := Tryz.underlying205,
  a55 := Tryz.isAgg205,
  z55 := Tryz.sizeOf205,
  v55 := Tryz.zeroValue205,
  t66 := Tryz.underlying206,
  a66 := Tryz.isAgg206,
  z66 := Tryz.sizeOf206,
  v66 := Tryz.zeroValue206,
  t70 := Tryz.underlying210,
  a70 := Tryz.isAgg210,
  z70 := Tryz.sizeOf210,
  v70 := Tryz.zeroValue210,
  t76 := Tryz.underlying212,
  a76 := Tryz.isAgg212,
  z76 := Tryz.sizeOf212,
  v76 := Tryz.zeroValue212,
  t77 := Tryz.underlying84,
  a77 := Tryz.isAgg84,
  z77 := Tryz.sizeOf84,
  v77 := Tryz.zeroValue84 }
end Go.Proofs.YtlkeejhaodedmaaGreatDoor

/- A row of the call's own with elements of k cells, before and behind the library's sort. -/
namespace Go.Proofs.YtlkeejhaodedmaaGreatDoor
open Go.RowKit Go.Sort

variable {α : Type} [Inhabited α]
theorem flat_at (enc : α → List Value) (k : Nat) (hk : ∀ x, (enc x).length = k) : ∀ (ss : List α) (t : Nat), t < ss.length * k → (ss.flatMap enc)[t]? = some ((enc (ss[t / k]!))[t % k]!)
  | [], t, h => by simp at h
  | a :: r, t, h => by
    have k0 : 0 < k := by
      rcases Nat.eq_zero_or_pos k with h0 | h0
      · subst h0; simp at h
      · exact h0
    rw [List.flatMap_cons]
    by_cases ht : t < k
    · rw [List.getElem?_append_left (by rw [hk]; exact ht), Nat.div_eq_of_lt ht, Nat.mod_eq_of_lt ht]
      have : t < (enc a).length := by rw [hk]; exact ht
      simp [this]
    · have h1 : t - k < r.length * k := by
        have : (a :: r).length * k = r.length * k + k := by rw [List.length_cons, Nat.add_mul, Nat.one_mul]
        omega
      have e1 : t / k = (t - k) / k + 1 := by
        have e := Nat.add_div_right (t - k) k0
        rwa [Nat.sub_add_cancel (by omega)] at e
      have e2 : t % k = (t - k) % k := by
        have e := Nat.add_mod_right (t - k) k
        rw [Nat.sub_add_cancel (by omega)] at e
        exact e
      rw [List.getElem?_append_right (by rw [hk]; omega), hk, flat_at enc k hk r (t - k) h1, e1, e2]
      simp
omit [Inhabited α] in
theorem flat_length (enc : α → List Value) (k : Nat) (hk : ∀ x, (enc x).length = k) : ∀ (ss : List α), (ss.flatMap enc).length = ss.length * k
  | [] => by simp
  | a :: r => by rw [List.flatMap_cons, List.length_append, hk, flat_length enc k hk r, List.length_cons, Nat.add_mul, Nat.one_mul]; omega
theorem flatK_list (enc : α → List Value) (k : Nat) (hk : ∀ x, (enc x).length = k) (ss : List α) : flatK enc k ss.toArray = (ss.flatMap enc).toArray := by
  refine ext_get! (by simp [flat_length enc k hk]) fun t ht => ?_
  have ht' : t < ss.length * k := by simpa using ht
  rw [get_flatK enc k _ t (by simpa using ht')]
  have h := flat_at enc k hk ss t ht'
  rw [getElem!_pos _ t (by simpa [flat_length enc k hk] using ht')]
  rw [List.getElem?_eq_getElem (by rw [flat_length enc k hk]; exact ht'), Option.some.injEq] at h
  rw [List.getElem_toArray, h]
  simp
theorem holdsK_of_row (enc : α → List Value) (k : Nat) (hk : ∀ x, (enc x).length = k) {w : World} {g : Nat} {cur : Array Value} {e : TypeId} (ss : List α) (hb : w.heap[g]? = some (.cells cur e (0, 0))) (ht : cur.toList.take (ss.length * k) = ss.flatMap enc) :
    HoldsK enc k w g 0 ss.toArray := by
  unfold HoldsK
  rw [flatK_list enc k hk]
  intro j hj
  have hj' : j < ss.length * k := by simpa [flat_length enc k hk] using hj
  refine ⟨?_, by simp [World.frozen?, hb]⟩
  have h1 : (cur.toList.take (ss.length * k))[j]? = (ss.flatMap enc)[j]? := by rw [ht]
  rw [List.getElem?_take_of_lt hj', flat_at enc k hk ss j hj'] at h1
  have h2 := flat_at enc k hk ss j hj'
  have h3 : (ss.flatMap enc).toArray[j]! = (enc ss[j / k]!)[j % k]! := by
    rw [getElem!_pos _ j hj, List.getElem_toArray]
    rw [List.getElem?_eq_getElem (by rw [flat_length enc k hk]; exact hj'), Option.some.injEq] at h2
    exact h2
  rw [h3]
  simp only [World.cell?, hb, Nat.zero_add, id]
  simp only [Option.isSome_none, Bool.false_eq_true, if_false]
  rw [← Array.getElem?_toList, h1]
theorem take_put (cur : Array Value) (ts : List Value) (h : ts.length ≤ cur.size) : (putCells id 0 ts.toArray cur).toList.take ts.length = ts := by
  apply List.ext_getElem?
  intro j
  by_cases hj : j < ts.length
  · rw [List.getElem?_take_of_lt hj, Array.getElem?_toList]
    simp [putCells, hj, show j < cur.size by omega]
  · rw [List.getElem?_take_eq_none (by omega), List.getElem?_eq_none (by omega)]
theorem sorted_heap {w : World} {g m : Nat} {os : Array Obj} {cur : Array Value} {e : TypeId} {fr : Nat × Nat} (F : Array Value) (hb : w.heap[g]? = some (.cells cur e fr)) :
    (grow (putRow id (Sort.ahead w m) g 0 F) os).heap[g]? = some (.cells (putCells id 0 F cur) e fr) := by
  have hg : g < w.heap.size := (Array.getElem?_eq_some_iff.1 hb).1
  rw [heap_grow_old _ _ (by simpa using hg)]
  simp [putRow, mapBlock, Sort.ahead, Array.getElem?_modify, hb, onCells]
theorem sorted_grown {w : World} {g m : Nat} {os : Array Obj} (F : Array Value) : w.grownBy (grow (putRow id (Sort.ahead w m) g 0 F) os) (some g) := by
  refine ⟨rfl, rfl, rfl, by simp, fun k hk hne => ?_⟩
  rw [heap_grow_old _ _ (by simpa using hk)]
  have : g ≠ k := fun e => hne (by rw [e])
  simp [putRow, mapBlock, Sort.ahead, Array.getElem?_modify, this]
/-- Behind the sort the same slice owns the cells of the permuted elements. -/
theorem sorted_owns (enc : α → List Value) (k : Nat) (hk : ∀ x, (enc x).length = k) {w : World} {base g cap m : Nat} {e : TypeId} {os : Array Obj} {cur : Array Value} (ss : List α) (hbase : base ≤ g) (hb : w.heap[g]? = some (.cells cur e (0, 0)))
    (h1 : ss.length ≤ cap) (h2 : cap ≤ maxLen) (h3 : cur.size = cap * k) :
    (sortWorldK enc k w g 0 m ss.toArray os).ownsRow base e k (.slice (some ⟨g, 0, none⟩) ss.length cap) ss.length (ss.flatMap enc) ∧ (base ≤ w.heap.size → Below base w (sortWorldK enc k w g 0 m ss.toArray os)) := by
  unfold sortWorldK putRowK
  rw [flatK_list enc k hk]
  refine ⟨⟨flat_length enc k hk ss, .inr ⟨g, cap, _, rfl, hbase, sorted_heap _ hb, h1, h2, by simp [putCells, h3], ?_⟩⟩, fun hB => (Below.refl _ _).grown (sorted_grown _) hB (fun j e => by cases e; exact hbase)⟩
  have hle : (ss.flatMap enc).length ≤ cur.size := by rw [flat_length enc k hk, h3]; exact Nat.mul_le_mul_right k h1
  have := take_put cur (ss.flatMap enc) hle
  rwa [flat_length enc k hk] at this
end Go.Proofs.YtlkeejhaodedmaaGreatDoor

/- hang: ratios in ascending order: the sort, and the ratios up to a number of parts. -/
namespace Go.Proofs.YtlkeejhaodedmaaGreatDoor
open Go.RowKit Go.Sort Go.Shelf

/-- A ratio in lowest terms of at most 30 parts. -/
structure Ra where
  n : Nat
  d : Nat
  h1 : 1 ≤ n
  h2 : n ≤ d
  h3 : d ≤ 30
  h4 : n.gcd d = 1
instance : Inhabited Ra := ⟨⟨1, 1, by decide, by decide, by decide, by decide⟩⟩
def Ra.c (r : Ra) : List Value := [.int .i64 (r.n : Int), .int .i64 (r.d : Int)]
def Ra.rt (r : Ra) : Rt := ⟨r.n, r.d⟩
theorem Ra.c2 (r : Ra) : r.c.length = 2 := rfl
theorem Ra.eq {a b : Ra} (h : a.n = b.n) (k : a.d = b.d) : a = b := by
  cases a; cases b; cases h; cases k; rfl
theorem ra_flat (l : List Ra) : l.flatMap Ra.c = (l.map Ra.rt).flatMap Rt.c := by
  induction l with
  | nil => rfl
  | cons a r ih => rw [List.flatMap_cons, List.map_cons, List.flatMap_cons, ih]; rfl
def cmpRa (a b : Ra) : Int := cmpH ((a.n : Int) * (b.d : Int)) ((b.n : Int) * (a.d : Int))
theorem ltRa (a b : Ra) : ltOf cmpRa a b = decide (a.n * b.d < b.n * a.d) := by
  unfold ltOf
  rw [decide_eq_decide]
  unfold cmpRa cmpH
  rw [mulI, mulI]
  generalize a.n * b.d = u
  generalize b.n * a.d = v
  repeat' split
  all_goals omega
theorem ra_pos (a : Ra) : 0 < a.d := Nat.lt_of_lt_of_le a.h1 a.h2
theorem swoRa : SWO (ltOf cmpRa) where
  irrefl x := by rw [ltRa, decide_eq_false_iff_not]; omega
  trans x y z h1 h2 := by
    rw [ltRa, decide_eq_true_eq] at *
    have e1 := (Nat.mul_lt_mul_right (ra_pos z)).2 h1
    have e2 := (Nat.mul_lt_mul_right (ra_pos x)).2 h2
    have e3 : x.n * z.d * y.d < z.n * x.d * y.d := by
      calc x.n * z.d * y.d = x.n * y.d * z.d := by rw [Nat.mul_right_comm]
        _ < y.n * x.d * z.d := e1
        _ = y.n * z.d * x.d := by rw [Nat.mul_right_comm]
        _ < z.n * y.d * x.d := e2
        _ = z.n * x.d * y.d := by rw [Nat.mul_right_comm]
    exact Nat.lt_of_mul_lt_mul_right e3
  ntrans x y z h1 h2 := by
    rw [ltRa, decide_eq_false_iff_not, Nat.not_lt] at *
    have e1 := Nat.mul_le_mul_right z.d h1
    have e2 := Nat.mul_le_mul_right x.d h2
    have e3 : z.n * x.d * y.d ≤ x.n * z.d * y.d := by
      calc z.n * x.d * y.d = z.n * y.d * x.d := by rw [Nat.mul_right_comm]
        _ ≤ y.n * z.d * x.d := e2
        _ = y.n * x.d * z.d := by rw [Nat.mul_right_comm]
        _ ≤ x.n * y.d * z.d := e1
        _ = x.n * z.d * y.d := by rw [Nat.mul_right_comm]
    exact Nat.le_of_mul_le_mul_right e3 (ra_pos y)
theorem totRa (x y : Ra) (h1 : ltOf cmpRa x y = false) (h2 : ltOf cmpRa y x = false) : x = y := by
  rw [ltRa, decide_eq_false_iff_not] at *
  have e : x.n * y.d = y.n * x.d := by omega
  have d1 : x.d ∣ y.d := by
    have : x.d ∣ x.n * y.d := by rw [e]; exact Nat.dvd_mul_left _ _
    exact (Nat.Coprime.symm x.h4).dvd_of_dvd_mul_left this
  have d2 : y.d ∣ x.d := by
    have : y.d ∣ y.n * x.d := by rw [← e]; exact Nat.dvd_mul_left _ _
    exact (Nat.Coprime.symm y.h4).dvd_of_dvd_mul_left this
  have ed := Nat.dvd_antisymm d1 d2
  refine Ra.eq ?_ ed
  rw [ed] at e
  exact Nat.eq_of_mul_eq_mul_right (ra_pos y) e
theorem boxs22 (w : World) (a b c d : Value) (t t' : TypeId) : ∃ w1, w1 = (w.alloc (.cells #[a, b] t)).alloc (.cells #[c, d] t') ∧ w1.cell? ⟨w.heap.size, 0, none⟩ = some a ∧ w1.cell? ⟨w.heap.size, 1, none⟩ = some b ∧
    w1.cell? ⟨w.heap.size + 1, 0, none⟩ = some c ∧ w1.cell? ⟨w.heap.size + 1, 1, none⟩ = some d := by
  obtain ⟨w0, rfl, h0, h1, _, hz⟩ := box2 w a b t
  have hs : (w.alloc (.cells #[a, b] t)).heap.size = w.heap.size + 1 := by simp
  obtain ⟨w1, rfl, k0, k1, hb, _⟩ := box2 (w.alloc (.cells #[a, b] t)) c d t'
  rw [hs] at k0 k1
  exact ⟨_, rfl, (hb.cell (p := ⟨_, _, none⟩) hz).trans h0, (hb.cell (p := ⟨_, _, none⟩) hz).trans h1, k0, k1⟩
set_option maxHeartbeats 1000000 in
set_option maxRecDepth 100000 in
theorem hgCompareRatios (x y : Ra) (w : World) :
    Calls Tryz.prog 125 #[.agg #[.int .i64 (x.n : Int), .int .i64 (x.d : Int)], .agg #[.int .i64 (y.n : Int), .int .i64 (y.d : Int)]] w fun e w' => e = .returned (.int .i64 (cmpRa x y)) ∧
      w' = (w.alloc (.cells #[.int .i64 (x.n : Int), .int .i64 (x.d : Int)] 23)).alloc (.cells #[.int .i64 (y.n : Int), .int .i64 (y.d : Int)] 23) := by
  have b1 := mulB (Nat.le_trans x.h2 x.h3) y.h3
  have b2 := mulB (Nat.le_trans y.h2 y.h3) x.h3
  unfold cmpRa
  generalize x.n = a at *
  generalize x.d = b at *
  generalize y.n = c at *
  generalize y.d = d at *
  obtain ⟨b10, b11⟩ := b1
  obtain ⟨b20, b21⟩ := b2
  obtain ⟨w1, hw1, c0, c1, d0, d1⟩ := boxs22 w (.int .i64 (a : Int)) (.int .i64 (b : Int)) (.int .i64 (c : Int)) (.int .i64 (d : Int)) 23 23
  rw [← hw1]
  have HW := Lib.hid hw1
  clear hw1
  go_enter Tryz.func125, Tryz.ntmps125
  go_wp2_with fail
  rw [← HW.out]
  go_wp2_with fail
  refine (cmpIntH _ _ _).mono ?_
  rintro e w3 ⟨rfl, rfl⟩
  go_wp2
  go_ret
  exact ⟨rfl, rfl⟩
theorem layRa (blk off size : Nat) (w : World) : CmpLays Tryz.prog 125 #[] Ra.c 2 cmpRa blk off size w := fun _ _ _ _ x y =>
  (hgCompareRatios x y _).mono fun e w' h => by
    obtain ⟨he, rfl⟩ := h
    exact ⟨he, 0, _, by rw [alloc_eq_grow, alloc_eq_grow, grow_grow]; rfl⟩
def sortRa (l : List Ra) : List Ra := l.mergeSort fun x y => !(ltOf cmpRa) y x
theorem sortRa_perm (l : List Ra) : (sortRa l).Perm l := List.mergeSort_perm l _
theorem hgSortRa (base : Nat) (v : Value) (l : List Ra) (w : World) (hl : l.length ≤ 100000) (hB : base ≤ w.heap.size) (h : w.ownsRow base 23 2 v l.length (l.flatMap Ra.c)) :
    Calls Tryz.prog 124 #[v, .func (.func 125) #[] #[]] w fun e w' => e = .returned (.tuple #[]) ∧ w'.ownsRow base 23 2 v l.length ((sortRa l).flatMap Ra.c) ∧ Below base w w' := by
  have eg : ∀ args w, (callFunc 125 args).run Tryz.prog w = .ok (.enter 125 args) w := enters_of Tryz.func125 (by kernel_rfl) rfl
  rcases h.2 with ⟨rfl, hz⟩ | ⟨g, cap, cur, rfl, hbase, hgb, r1, r2, r3, r4⟩
  · have hl0 : l = [] := List.eq_nil_of_length_eq_zero hz
    subst hl0
    have hc := AnyF.slices_SortFunc_none Tryz.sortT none 0 (.func (.func 125) #[] #[]) w
    change Calls Tryz.prog 124 _ _ _ at hc
    exact hc.mono fun e w' ⟨he, hw⟩ => ⟨he, by rw [hw]; exact ⟨by simp [sortRa], .inl ⟨rfl, rfl⟩⟩, by rw [hw]; exact Below.refl _ _⟩
  · have hH := holdsK_of_row Ra.c 2 (fun _ => rfl) l hgb (r4.trans rfl)
    have hgl : g < w.heap.size := (Array.getElem?_eq_some_iff.1 hgb).1
    have hc := AnyQ.slices_SortFunc_total Tryz.sortT 2 Tryz.isAgg23 Tryz.sizeOf23 Ra.c (fun _ => rfl) (fun x v hv => by simp [Ra.c] at hv; rcases hv with rfl | rfl <;> rfl) cmpRa swoRa 125 #[] g 0 cap l.toArray w eg (layRa g 0 _ w) hH hgl (by simp; omega) totRa
    change Calls Tryz.prog 124 _ _ _ at hc
    rw [List.size_toArray] at hc
    refine hc.mono fun e w' ⟨he, n, os, hw⟩ => ?_
    have hs : (l.toArray.toList.mergeSort fun x y => !(ltOf cmpRa) y x) = sortRa l := rfl
    rw [hs] at hw
    have hp := (sortRa_perm l).length_eq
    obtain ⟨q1, q2⟩ := sorted_owns Ra.c 2 (fun _ => rfl) (m := n) (os := os) (sortRa l) hbase hgb (by rw [hp]; exact r1) r2 r3
    rw [hp] at q1
    rw [hw]
    exact ⟨he, q1, q2 hB⟩
/-! ### the ratios up to a number of parts, as they are found -/
def rowRa (d : Nat) : Nat → List Ra
  | 0 => []
  | n + 1 => rowRa d n ++ (if h : (n + 1 ≤ d ∧ d ≤ 30) ∧ (n + 1).gcd d = 1 then [⟨n + 1, d, by omega, h.1.1, h.1.2, h.2⟩] else [])
def genRa : Nat → List Ra
  | 0 => []
  | d + 1 => genRa d ++ rowRa (d + 1) (d + 1)
theorem rowRa_le (d n : Nat) : (rowRa d n).length ≤ n := by
  induction n with
  | zero => exact Nat.le_refl _
  | succ n ih =>
    rw [rowRa, List.length_append]
    split
    · simp; omega
    · simp; omega
theorem genRa_le (d : Nat) : (genRa d).length ≤ d * d := by
  induction d with
  | zero => exact Nat.le_refl _
  | succ d ih =>
    have h1 := rowRa_le (d + 1) (d + 1)
    have h2 : (d + 1) * (d + 1) = d * d + d + (d + 1) := by rw [Nat.add_mul, Nat.mul_add]; omega
    rw [genRa, List.length_append]
    omega
theorem rowRa_yes {d n : Nat} (h1 : n + 1 ≤ d) (h2 : d ≤ 30) (h : (n + 1).gcd d = 1) (g : List Ra) : (g ++ rowRa d (n + 1)).flatMap Ra.c = (g ++ rowRa d n).flatMap Ra.c ++ [.int .i64 ((n + 1 : Nat) : Int), .int .i64 (d : Int)] ∧ (g ++ rowRa d (n + 1)).length = (g ++ rowRa d n).length + 1 := by
  rw [rowRa, dif_pos ⟨⟨h1, h2⟩, h⟩, ← List.append_assoc]
  refine ⟨?_, by simp; omega⟩
  rw [List.flatMap_append (xs := g ++ rowRa d n)]
  rfl
theorem rowRa_no {d n : Nat} (h : ¬ (n + 1).gcd d = 1) (g : List Ra) : g ++ rowRa d (n + 1) = g ++ rowRa d n := by
  rw [rowRa, dif_neg (fun k => h k.2), List.append_nil]
end Go.Proofs.YtlkeejhaodedmaaGreatDoor

/- hang: the ratios up to a number of parts. -/
namespace Go.Proofs.YtlkeejhaodedmaaGreatDoor
open Go.RowKit Go.Sort

set_option maxHeartbeats 8000000 in
set_option maxRecDepth 100000 in
theorem hgRatiosUpTo (p : Nat) (w : World) (h1 : 1 ≤ p) (hp : p ≤ 30) :
    Calls Tryz.prog 84 #[.int .i64 (p : Int)] w fun e w' => ∃ v, e = .returned v ∧ w'.ownsRow w.heap.size 23 2 v (sortRa (genRa p)).length ((sortRa (genRa p)).flatMap Ra.c) ∧ Below w.heap.size w w' := by
  obtain ⟨i0, hi, hz0, hz1, hz2⟩ := info_parts infoHR
  have HI := Lib.hid hi
  have HZ0 := Lib.hid hz0
  have HZ1 := Lib.hid hz1
  have HZ2 := Lib.hid hz2
  clear hi hz0 hz1 hz2
  have hgd := guardRat
  go_enter Tryz.func84, Tryz.ntmps84
  go_wp2_with fail
  go_loopw [3, 4, 5, 6] (fun v dv _ _ wr => ∃ d : Nat, d ≤ p ∧ dv = .int .i64 ((d : Int) + 1) ∧ Hid (wr.ownsRow w.heap.size 23 2 v (genRa d).length ((genRa d).flatMap Ra.c)) ∧ Below w.heap.size w wr) (fun _ dv _ _ _ => p + 1 - (intOf dv).toNat)
  case atStart => exact ⟨0, by omega, rfl, World.ownsRow_nil _ _ _ _, Below.refl _ _⟩
  case round =>
    obtain ⟨d, hd, rfl, hown, hb⟩ := hrel
    by_cases hlt : d < p
    · have hdI : (d : Int) + 1 ≤ (p : Int) := by omega
      go_wp2_with fail
      go_loopw [3, 5, 6] (fun v nv _ wr => ∃ n : Nat, n ≤ d + 1 ∧ nv = .int .i64 ((n : Int) + 1) ∧ Hid (wr.ownsRow w.heap.size 23 2 v (genRa d ++ rowRa (d + 1) n).length ((genRa d ++ rowRa (d + 1) n).flatMap Ra.c)) ∧ Below w.heap.size w wr) (fun _ nv _ _ => d + 2 - (intOf nv).toNat)
      case atStart => exact ⟨0, by omega, rfl, Lib.hid (by rw [rowRa, List.append_nil]; exact hown.out), hb⟩
      case round =>
        obtain ⟨n, hn, rfl, hown2, hb2⟩ := hrel
        by_cases hln : n < d + 1
        · have hnI : (n : Int) + 1 ≤ (d : Int) + 1 := by omega
          have hbz := hb2.size
          have hlow := lowest_iff (a := n + 1) (b := d + 1) (by omega)
          have HLO := Lib.hid hlow
          clear hlow hown
          have HQ := fun w => hgRatioOf (n + 1) (d + 1) w (by omega) (by omega) (by omega)
          have en : ((n + 1 : Nat) : Int) = (n : Int) + 1 := by push_cast; rfl
          have ed : ((d + 1 : Nat) : Int) = (d : Int) + 1 := by push_cast; rfl
          rw [en, ed] at HQ
          obtain ⟨wx, hwx, kx, hbx, hzx⟩ := boxS wr (.cells #[.int .i64 0, .int .i64 0] 23)
          obtain ⟨q0, q1, q2, q3⟩ := cel2 kx
          obtain ⟨s1, s2⟩ := set2 kx (.int .i64 ((n : Int) + 1)) (.int .i64 ((d : Int) + 1))
          obtain ⟨t0, t1, -, -⟩ := cel2 s1
          have wn1 : IntKind.i64.wrap ((n : Int) + 1 + 1) = (n : Int) + 1 + 1 := wr64 (by omega) (by omega)
          by_cases hg : (n + 1).gcd (d + 1) = 1
          · obtain ⟨u0, v0⟩ := HLO.out.2 hg
            rw [u0, v0, en, ed] at HQ
            have heq := fun w => eqRat ((n : Int) + 1) ((d : Int) + 1) ((n : Int) + 1) ((d : Int) + 1) true (by simp) w
            obtain ⟨y1, y2⟩ := rowRa_yes (d := d + 1) (n := n) (by omega) (by omega) hg (genRa d)
            rw [en, ed] at y1
            have Y1 := Lib.hid y1
            have Y2 := Lib.hid y2
            have hll := genRa_le d
            have hl2 : d * d ≤ 30 * 30 := Nat.mul_le_mul (by omega) (by omega)
            have hl3 := rowRa_le (d + 1) n
            have hl : (genRa d ++ rowRa (d + 1) n).length ≤ 1000 := by rw [List.length_append]; omega
            clear y1 y2 u0 v0 hg hll hl2 hl3
            go_wp2_with fail
            generalize (wx.setCell ⟨wr.heap.size, 0, none⟩ (.int .i64 ((n : Int) + 1))).setCell ⟨wr.heap.size, 1, none⟩ (.int .i64 ((d : Int) + 1)) = w3 at s1 s2 t0 t1 ⊢
            have hb3 : Below wr.heap.size wr w3 := hbx.grown s2 (Nat.le_of_lt hzx) (fun j e => by cases e; exact Nat.le_refl _)
            have hz3 : wr.heap.size < w3.heap.size := blkSz s1
            clear s1 s2 q0 q1 q2 q3 hbx hzx kx hwx wx
            go_region_held3 (fun w' => w'.cell? ⟨wr.heap.size, 0, none⟩ = some (.int .i64 ((n : Int) + 1)) ∧ w'.cell? ⟨wr.heap.size, 1, none⟩ = some (.int .i64 ((d : Int) + 1)) ∧ Below wr.heap.size wr w' ∧ wr.heap.size < w'.heap.size)
              (first | exact ⟨t0, t1, hb3, hz3⟩ | exact ⟨t0, t1, below_drew hb3, hz3⟩ | exact keepR (by assumption) (by assumption) | exact keepR (by assumption) ((Below.refl _ _).alloc (Nat.le_refl _) _) | assumption | exact keepR (by assumption) (below_drew (Below.refl _ _)) | go_keep)
              (first
                | (go_at_call 74; refine (HQ _).mono ?_; rintro e w' ⟨rfl, hb⟩))
            all_goals
              rename_i hH
              obtain ⟨c0, c1, hb4, hz4⟩ := hH
              have hown4 := ownTo hown2.out hb4
              have B4 := tw hb2 hb4
              have hz5 := B4.size
              go_wp2_with (at_builtin; refine wpList_append_own _ rfl _ _ 65 rfl w.heap.size 23 i0 (.agg #[.int .i64 0, .int .i64 0]) 2 16 Tryz.underlying65 HI.out HZ0.out HZ1.out HZ2.out rfl (by decide) _ _ _ rfl (hown4.alloc _) ⟨_, 0, none⟩ 1 1 [.int .i64 ((n : Int) + 1), .int .i64 ((d : Int) + 1)] rfl rfl (newsH _ _ _) ?c2 ?c3 ?c4 ?c5 ?_)
              case c2 => intro u hu; simp at hu; rcases hu with rfl | rfl <;> rfl
              case c3 => unfold maxLen; omega
              case c4 => omega
              case c5 => simp; omega
              intro v' w5 hown5 hgrow5 _
              have hq5 : Below w.heap.size w w5 := (B4.alloc hz5 _).grown hgrow5 (by simp; omega) (baseOf hown4)
              have HO5 := Lib.hid (show w5.ownsRow w.heap.size 23 2 v' (genRa d ++ rowRa (d + 1) (n + 1)).length ((genRa d ++ rowRa (d + 1) (n + 1)).flatMap Ra.c) by rw [Y1.out, Y2.out]; simpa [List.append_assoc] using hown5)
              clear hown5 hgrow5 hown4 hown2
              go_wp2
              go_roundw
              case rel => exact ⟨n + 1, by omega, by go_num, HO5, hq5⟩
              case measure => simp [intOf]; omega
          · have hne : ¬ (qn (n + 1) (d + 1) = n + 1 ∧ qd (n + 1) (d + 1) = d + 1) := fun h => hg (HLO.out.1 h)
            have HN := Lib.hid (rowRa_no hg (genRa d))
            generalize qn (n + 1) (d + 1) = u at HQ hne
            generalize qd (n + 1) (d + 1) = v at HQ hne
            have heq := fun w => eqRat ((n : Int) + 1) ((d : Int) + 1) (u : Int) (v : Int) false (by rw [decide_eq_false_iff_not]; omega) w
            clear hg hne HLO
            go_wp2_with fail
            generalize (wx.setCell ⟨wr.heap.size, 0, none⟩ (.int .i64 ((n : Int) + 1))).setCell ⟨wr.heap.size, 1, none⟩ (.int .i64 ((d : Int) + 1)) = w3 at s1 s2 t0 t1 ⊢
            have hb3 : Below wr.heap.size wr w3 := hbx.grown s2 (Nat.le_of_lt hzx) (fun j e => by cases e; exact Nat.le_refl _)
            have hz3 : wr.heap.size < w3.heap.size := blkSz s1
            clear s1 s2 q0 q1 q2 q3 hbx hzx kx hwx wx
            go_region_held3 (fun w' => w'.cell? ⟨wr.heap.size, 0, none⟩ = some (.int .i64 ((n : Int) + 1)) ∧ w'.cell? ⟨wr.heap.size, 1, none⟩ = some (.int .i64 ((d : Int) + 1)) ∧ Below wr.heap.size wr w' ∧ wr.heap.size < w'.heap.size)
              (first | exact ⟨t0, t1, hb3, hz3⟩ | exact ⟨t0, t1, below_drew hb3, hz3⟩ | exact keepR (by assumption) (by assumption) | exact keepR (by assumption) ((Below.refl _ _).alloc (Nat.le_refl _) _) | assumption | exact keepR (by assumption) (below_drew (Below.refl _ _)) | go_keep)
              (first
                | (go_at_call 74; refine (HQ _).mono ?_; rintro e w' ⟨rfl, hb⟩))
            all_goals
              rename_i hH
              obtain ⟨c0, c1, hb4, hz4⟩ := hH
              have hown4 := ownTo hown2.out hb4
              have B4 := tw hb2 hb4
              rw [← HN.out] at hown4
              have HO5 := Lib.hid hown4
              clear hown4 hown2
              go_wp2
              go_roundw
              case rel => exact ⟨n + 1, by omega, by go_num, HO5, B4⟩
              case measure => simp [intOf]; omega
        · obtain rfl : n = d + 1 := by omega
          have hnI : ¬ ((d + 1 : Nat) : Int) + 1 ≤ (d : Int) + 1 := by omega
          have HO := Lib.hid (show wr.ownsRow w.heap.size 23 2 u3 (genRa (d + 1)).length ((genRa (d + 1)).flatMap Ra.c) from hown2.out)
          clear hown2 hown
          go_wp2
          go_roundw
          case rel => exact ⟨d + 1, by omega, by go_num, HO, hb2⟩
          case measure => simp [intOf]; omega
    · obtain rfl : d = p := by omega
      have hdI : ¬ (d : Int) + 1 ≤ (d : Int) := by omega
      have hl := genRa_le d
      have hl2 : d * d ≤ 30 * 30 := Nat.mul_le_mul hp hp
      have HS := hgSortRa w.heap.size _ (genRa d) _ (by omega) hb.size hown.out
      clear hown
      go_wp2_with fail
      refine HS.mono ?_
      rintro e w3 ⟨rfl, ho3, hb3⟩
      have HO := Lib.hid ho3
      clear ho3
      go_wp2
      go_ret
      exact ⟨_, rfl, by rw [(sortRa_perm _).length_eq]; exact HO.out, hb.trans hb3⟩
end Go.Proofs.YtlkeejhaodedmaaGreatDoor

/- hang: Fullest. -/
namespace Go.Proofs.YtlkeejhaodedmaaGreatDoor
open Go.RowKit Go.Sort

def belB (s t : Rt) : Bool := decide (s.n * t.d < t.n * s.d)
def SqOk (r : Rt) : Prop := ∃ P D : Nat, r.n = P ∧ r.d = D ∧ P ≤ 4000000000000 ∧ D ≤ 810000
def topB (L : List Rt) (s : Rt) : Bool := !(L.any (belB s))
theorem cmpH_neg (x y : Int) : decide (cmpH x y < 0) = decide (x < y) := by
  rw [decide_eq_decide]
  unfold cmpH
  repeat' split
  all_goals omega
set_option maxHeartbeats 1000000 in
set_option maxRecDepth 100000 in
theorem hgIsBelow (s t : Rt) (w : World) (hs : SqOk s) (ht : SqOk t) :
    Calls Tryz.prog 89 #[.agg #[.int .i64 s.n, .int .i64 s.d], .agg #[.int .i64 t.n, .int .i64 t.d]] w fun e w' => e = .returned (.bool (belB s t)) ∧ Below w.heap.size w w' := by
  obtain ⟨P, D, e1, e2, p1, p2⟩ := hs
  obtain ⟨Q, E, e3, e4, p3, p4⟩ := ht
  have HM := fun w => hgCompareM P D Q E w p1 p2 p3 p4
  have HB := Lib.hid (show decide (cmpH ((P : Int) * E) ((Q : Int) * D) < 0) = belB s t by rw [cmpH_neg, belB, e1, e2, e3, e4])
  rw [e1, e2, e3, e4]
  generalize cmpH ((P : Int) * E) ((Q : Int) * D) = C at HM HB
  clear e1 e2 e3 e4
  obtain ⟨w1, hw1, k1, hb1, hz1⟩ := boxS w (.cells #[.int .i64 P, .int .i64 D] 25)
  obtain ⟨w2, hw2, k2, hb2, hz2⟩ := boxS w1 (.cells #[.int .i64 Q, .int .i64 E] 25)
  obtain ⟨c0, c1, -, -⟩ := cel2 (blkT k1 hb2)
  obtain ⟨d0, d1, -, -⟩ := cel2 k2
  go_enter Tryz.func89, Tryz.ntmps89
  go_wp2_with fail
  refine (HM _).mono ?_
  rintro e w3 ⟨rfl, hb3⟩
  go_wp2
  go_ret
  exact ⟨by rw [← HB.out]; rfl, tw (tw hb1 hb2) hb3⟩
set_option maxHeartbeats 2000000 in
set_option maxRecDepth 100000 in
theorem hgIndexBel (s : Rt) (A : Option Addr) (c : Nat) (L : List Rt) (w : World) (hL : L.length ≤ 100000) (hs : SqOk s) (hn : ∀ r ∈ L, SqOk r) (hA : OKV Rt.c 2 w A c L) :
    Calls Tryz.prog 86 #[.slice A L.length c, .func (.func 89) #[.agg #[.int .i64 s.n, .int .i64 s.d]] #[]] w (IdxP (belB s) L w) := by
  have HR := Lib.hid hA.2.2.2
  clear hA
  go_enter Tryz.func86, Tryz.ntmps86
  go_wp2_with fail
  go_loopw [5, 8] (fun _ i wr => ∃ k : Nat, k ≤ L.length ∧ i = .int .i64 k ∧ Hid (∀ i (hi : i < L.length), i < k → belB s L[i] = false) ∧ Below w.heap.size w wr) (fun _ i _ => L.length - (intOf i).toNat)
  case atStart => exact ⟨0, Nat.zero_le _, rfl, Lib.hid (fun _ _ h => by omega), Below.refl _ _⟩
  case round =>
    obtain ⟨k, hk, rfl, HN, hb⟩ := hrel
    by_cases hlt : k < L.length
    · have hki : (k : Int) < (L.length : Int) := by omega
      have hk0 : (0 : Int) ≤ (k : Int) := by omega
      have hrv := HR.out.to hb
      obtain ⟨b, off, rfl, hB, c0, c1⟩ := at2 hrv hlt
      obtain ⟨p, hp⟩ : ∃ p, belB s L[k] = p := ⟨_, rfl⟩
      have HP := Lib.hid hp
      have HM := fun w => hgIsBelow s L[k] w hs (hn _ (List.getElem_mem hlt))
      rw [hp] at HM
      clear hrv hp
      go_wp2_with fail
      refine (HM _).mono ?_
      rintro e w3 ⟨rfl, hb3⟩
      cases p
      · go_wp2
        go_roundw
        case rel => exact ⟨k + 1, by omega, by go_num, Lib.hid (fun i hi hik => (Nat.lt_or_ge i k).elim (HN.out i hi) (fun h => by
          obtain rfl : i = k := by omega
          exact HP.out)), tw hb hb3⟩
        case measure => simp [intOf]; omega
      · go_wp2
        go_ret
        obtain ⟨q1, q2⟩ := any_step (belB s) L hlt (fun i hi => HN.out i (by omega) hi) HP.out
        exact ⟨(k : Int), rfl, by rw [q1]; simp, fun _ => ⟨k, rfl, q2⟩, tw hb hb3⟩
    · obtain rfl : k = L.length := by omega
      have HF := Lib.hid (any_none (belB s) L (fun i hi => HN.out i hi hi))
      go_wp2
      go_ret
      exact ⟨-1, rfl, by rw [HF.out]; rfl, fun h => absurd h (by decide), hb⟩
set_option maxHeartbeats 1000000 in
set_option maxRecDepth 100000 in
theorem hgContainsBel (s : Rt) (A : Option Addr) (c : Nat) (L : List Rt) (w : World) (hL : L.length ≤ 100000) (hs : SqOk s) (hn : ∀ r ∈ L, SqOk r) (hA : OKV Rt.c 2 w A c L) :
    Calls Tryz.prog 88 #[.slice A L.length c, .func (.func 89) #[.agg #[.int .i64 s.n, .int .i64 s.d]] #[]] w fun e w' => e = .returned (.bool (L.any (belB s))) ∧ Below w.heap.size w w' := by
  go_enter Tryz.func88, Tryz.ntmps88
  go_wp2_with fail
  refine (hgIndexBel s A c L _ hL hs hn hA).mono ?_
  rintro e w3 ⟨j, rfl, hj, -, hb3⟩
  have HJ := Lib.hid hj
  clear hj
  go_wp2
  go_ret
  exact ⟨ret_b (by rw [← HJ.out]), hb3⟩
set_option maxHeartbeats 1000000 in
set_option maxRecDepth 100000 in
theorem hgFullest1 (q : Nat) (A : Option Addr) (c : Nat) (L : List Rt) (s : Rt) (w : World) (hL : L.length ≤ 100000) (hs : SqOk s) (hn : ∀ r ∈ L, SqOk r) (hq : w.cell? ⟨q, 0, none⟩ = some (.slice A L.length c)) (hA : OKV Rt.c 2 w A c L) :
    Calls Tryz.prog 87 #[.agg #[.int .i64 s.n, .int .i64 s.d], .pointer (some ⟨q, 0, none⟩)] w fun e w' => e = .returned (.bool (topB L s)) ∧ Below w.heap.size w w' := by
  have hqB : q < w.heap.size := by
    rcases Nat.lt_or_ge q w.heap.size with h | h
    · exact h
    · simp [World.cell?, Array.getElem?_eq_none h] at hq
  have HC := fun w h => hgContainsBel s A c L w hL hs hn h
  have HB := Lib.hid (show (!(L.any (belB s))) = topB L s from rfl)
  generalize L.any (belB s) = p at HC HB
  generalize topB L s = R at HB ⊢
  obtain ⟨w1, hw1, k1, hb1, hz1⟩ := boxS w (.cells #[.int .i64 s.n, .int .i64 s.d] 25)
  obtain ⟨c0, c1, -, -⟩ := cel2 k1
  have hq1 := (hb1.cell (p := ⟨q, 0, none⟩) hqB).trans hq
  have HA := Lib.hid (hA.below hb1)
  clear hA hq hn
  go_enter Tryz.func87, Tryz.ntmps87
  go_wp2_with fail
  refine (HC _ HA.out).mono ?_
  rintro e w3 ⟨rfl, hb3⟩
  go_wp2
  go_ret
  exact ⟨by rw [← HB.out]; rfl, tw hb1 hb3⟩
set_option maxHeartbeats 2000000 in
set_option maxRecDepth 100000 in
theorem hgIndexTop (q : Nat) (A : Option Addr) (c : Nat) (L : List Rt) (w : World) (hL : L.length ≤ 100000) (hn : ∀ r ∈ L, SqOk r) (hq : w.cell? ⟨q, 0, none⟩ = some (.slice A L.length c)) (hqB : q < w.heap.size) (hA : OKV Rt.c 2 w A c L) :
    Calls Tryz.prog 86 #[.slice A L.length c, .func (.func 87) #[] #[.pointer (some ⟨q, 0, none⟩)]] w (IdxP (topB L) L w) := by
  have HR := Lib.hid hA.2.2.2
  have HQ := Lib.hid hq
  have HA := Lib.hid hA
  clear hA hq
  go_enter Tryz.func86, Tryz.ntmps86
  go_wp2_with fail
  go_loopw [5, 8] (fun _ i wr => ∃ k : Nat, k ≤ L.length ∧ i = .int .i64 k ∧ Hid (∀ i (hi : i < L.length), i < k → topB L L[i] = false) ∧ Below w.heap.size w wr) (fun _ i _ => L.length - (intOf i).toNat)
  case atStart => exact ⟨0, Nat.zero_le _, rfl, Lib.hid (fun _ _ h => by omega), Below.refl _ _⟩
  case round =>
    obtain ⟨k, hk, rfl, HN, hb⟩ := hrel
    by_cases hlt : k < L.length
    · have hki : (k : Int) < (L.length : Int) := by omega
      have hk0 : (0 : Int) ≤ (k : Int) := by omega
      have hrv := HR.out.to hb
      have HM := fun w1 (h : Below wr.heap.size wr w1) => hgFullest1 q A c L L[k] w1 hL (hn _ (List.getElem_mem hlt)) hn (((tw hb h).cell (p := ⟨q, 0, none⟩) hqB).trans HQ.out) (HA.out.below (tw hb h))
      obtain ⟨b, off, rfl, hB, c0, c1⟩ := at2 hrv hlt
      obtain ⟨p, hp⟩ : ∃ p, topB L L[k] = p := ⟨_, rfl⟩
      have HP := Lib.hid hp
      rw [hp] at HM
      clear hrv hp
      go_wp2_with fail
      refine (HM _ (Below.refl _ _)).mono ?_
      rintro e w3 ⟨rfl, hb3⟩
      cases p
      · go_wp2
        go_roundw
        case rel => exact ⟨k + 1, by omega, by go_num, Lib.hid (fun i hi hik => (Nat.lt_or_ge i k).elim (HN.out i hi) (fun h => by
          obtain rfl : i = k := by omega
          exact HP.out)), tw hb hb3⟩
        case measure => simp [intOf]; omega
      · go_wp2
        go_ret
        obtain ⟨q1, q2⟩ := any_step (topB L) L hlt (fun i hi => HN.out i (by omega) hi) HP.out
        exact ⟨(k : Int), rfl, by rw [q1]; simp, fun _ => ⟨k, rfl, q2⟩, tw hb hb3⟩
    · obtain rfl : k = L.length := by omega
      have HF := Lib.hid (any_none (topB L) L (fun i hi => HN.out i hi hi))
      go_wp2
      go_ret
      exact ⟨-1, rfl, by rw [HF.out]; rfl, fun h => absurd h (by decide), hb⟩
end Go.Proofs.YtlkeejhaodedmaaGreatDoor

/- hang: Fullest, the walk. -/
namespace Go.Proofs.YtlkeejhaodedmaaGreatDoor
open Go.RowKit Go.Sort

/-- The fullest ratio of a number of parts. -/
def bst (p : Nat) : Ra := (genRa p).foldl (fun b r => if belB (fulR b.rt) (fulR r.rt) = true then r else b) default
def sameRa (a b : Ra) : Bool := a.n == b.n && a.d == b.d
theorem sameRa_eq {a b : Ra} (h : sameRa a b = true) : a = b := by
  simp only [sameRa, Bool.and_eq_true, beq_iff_eq] at h
  exact Ra.eq h.1 h.2
def okBst (p : Nat) : Bool := (genRa p).any (sameRa (bst p)) && (genRa p).all fun s => !(belB (fulR (bst p).rt) (fulR s.rt)) && (sameRa s (bst p) || belB (fulR s.rt) (fulR (bst p).rt))
set_option maxRecDepth 100000 in
theorem okBst_all : ∀ k : Fin 30, okBst (k.val + 1) = true := by decide +kernel
theorem bst_ok {p : Nat} (h1 : 1 ≤ p) (h2 : p ≤ 30) : bst p ∈ genRa p ∧ ∀ s ∈ genRa p, belB (fulR (bst p).rt) (fulR s.rt) = false ∧ (s = bst p ∨ belB (fulR s.rt) (fulR (bst p).rt) = true) := by
  have h := okBst_all ⟨p - 1, by omega⟩
  simp only at h
  rw [Nat.sub_add_cancel h1] at h
  simp only [okBst, Bool.and_eq_true, List.any_eq_true, List.all_eq_true, Bool.or_eq_true, Bool.not_eq_true'] at h
  obtain ⟨⟨x, hx, hs⟩, ha⟩ := h
  refine ⟨by rw [sameRa_eq hs]; exact hx, fun s hs => ⟨(ha s hs).1, (ha s hs).2.imp sameRa_eq id⟩⟩
def fulL (l : List Ra) : List Rt := (l.map Ra.rt).map fulR
theorem pickA {S : List Ra} {r : Ra} (hr : r ∈ S) (hS : ∀ s ∈ S, belB (fulR r.rt) (fulR s.rt) = false ∧ (s = r ∨ belB (fulR s.rt) (fulR r.rt) = true)) :
    (fulL S).any (topB (fulL S)) = true ∧ ∀ i, (fulL S).findIdx? (topB (fulL S)) = some i → ∃ h : i < S.length, S[i] = r := by
  have top : topB (fulL S) (fulR r.rt) = true := by
    rw [topB, Bool.not_eq_true', List.any_eq_false]
    intro x hx
    simp only [fulL, List.map_map, List.mem_map, Function.comp] at hx
    obtain ⟨s, hs, rfl⟩ := hx
    rw [(hS s hs).1]
    simp
  refine ⟨List.any_eq_true.2 ⟨_, List.mem_map_of_mem (List.mem_map_of_mem hr), top⟩, fun i hi => ?_⟩
  rw [List.findIdx?_eq_some_iff_getElem] at hi
  obtain ⟨h, hp, -⟩ := hi
  have hl : i < S.length := by simpa [fulL] using h
  refine ⟨hl, ?_⟩
  have e : (fulL S)[i] = fulR S[i].rt := by simp [fulL]
  rw [e] at hp
  rcases (hS _ (List.getElem_mem hl)).2 with h | h
  · exact h
  · exfalso
    rw [topB, Bool.not_eq_true', List.any_eq_false] at hp
    exact hp _ (List.mem_map_of_mem (List.mem_map_of_mem hr)) h
theorem fulSq (r : Ra) : SqOk (fulR r.rt) := by
  have hU := fuN_le r.h2 r.h3
  have hD2 : r.d * r.d ≤ 30 * 30 := Nat.mul_le_mul r.h3 r.h3
  have hD4 : r.d * r.d * (r.d * r.d) ≤ 900 * 900 := Nat.mul_le_mul hD2 hD2
  refine ⟨_, _, rfl, rfl, ?_, ?_⟩
  · exact Nat.le_trans (Nat.div_le_self _ _) (by simpa [Ra.rt] using Nat.le_trans hU (by decide))
  · exact Nat.le_trans (Nat.div_le_self _ _) (by simpa [Ra.rt] using hD4)
set_option maxHeartbeats 8000000 in
set_option maxRecDepth 100000 in
theorem hgFullest (n : Int) (w : World) :
    Calls Tryz.prog 34 #[.int .i64 n] w fun e w' => e = .returned (.tuple #[.agg #[.int .i64 (oz (rngH n 1 30) ((bst n.toNat).n : Int)), .int .i64 (oz (rngH n 1 30) ((bst n.toNat).d : Int))], .int .i64 (rngH n 1 30)]) ∧ Below w.heap.size w w' := by
  obtain ⟨w1, hw1, k1, hb1, hz1⟩ := boxS w (.cells #[.int .i64 0, .int .i64 0] 23)
  by_cases hz : rngH n 1 30 = 0
  · obtain ⟨g1, g2⟩ := rngH_zero hz
    have HZ := Lib.hid hz
    rw [hz, oz0, oz0]
    obtain ⟨p, rfl⟩ : ∃ p : Nat, n = (p : Int) := ⟨n.toNat, by omega⟩
    rw [Int.toNat_natCast]
    have hR := fun w => hgRatiosUpTo p w (by omega) (by omega)
    obtain ⟨m1, m2⟩ := bst_ok (p := p) (by omega) (by omega)
    have hpm := sortRa_perm (genRa p)
    obtain ⟨j1, j2⟩ := pickA (hpm.mem_iff.2 m1) (fun s hs => m2 s (hpm.mem_iff.1 hs))
    have hln : (sortRa (genRa p)).length ≤ 900 := by
      rw [hpm.length_eq]
      exact Nat.le_trans (genRa_le p) (Nat.mul_le_mul (show p ≤ 30 by omega) (show p ≤ 30 by omega))
    generalize bst p = r at j2 ⊢
    generalize sortRa (genRa p) = S at hR j1 j2 hln
    have J1 := Lib.hid j1
    have J2 := Lib.hid j2
    have HT := fun A c w h => hgTransFull A c (S.map Ra.rt) w (by rw [List.length_map]; omega) (fun x hx => by
      obtain ⟨y, -, rfl⟩ := List.mem_map.1 hx
      exact ⟨y.n, y.d, rfl, rfl, y.h1, y.h2, y.h3⟩) h
    have HI := fun q A c w hq hB h => hgIndexTop q A c (fulL S) w (by simp [fulL]; omega) (fun x hx => by
      obtain ⟨y, hy, rfl⟩ := List.mem_map.1 hx
      obtain ⟨z, -, rfl⟩ := List.mem_map.1 hy
      exact fulSq z) hq hB h
    have hlf : (fulL S).length = S.length := by simp [fulL]
    have hlm : (S.map Ra.rt).length = S.length := by simp
    rw [show (S.map Ra.rt).map fulR = fulL S from rfl] at HT
    rw [hlf] at HI
    rw [hlm] at HT
    clear m1 m2 hpm j1 j2
    go_enter Tryz.func34, Tryz.ntmps34
    go_wp2_with fail
    refine (hgCheckRange _ _ _ _).mono ?_
    rintro e w2 ⟨rfl, rfl⟩
    rw [HZ.out]
    go_wp2_with fail
    refine (hR _).mono ?_
    rintro e w3 ⟨v3, rfl, h3, hb3⟩
    rw [ra_flat] at h3
    obtain ⟨a3, c3, rfl, ho3⟩ := OKV.ownN Rt.c2 h3 hlm
    have O3 := Lib.hid ho3
    clear h3 ho3
    go_wp2_with fail
    refine (HT _ _ _ O3.out).mono ?_
    rintro e w4 ⟨v4, rfl, h4, hb4⟩
    rw [hlf] at h4
    obtain ⟨a4, c4, rfl, ho4⟩ := OKV.ownN Rt.c2 h4 hlf
    obtain ⟨w5, hw5, k5, hb5, hz5⟩ := boxS w4 (.cells #[.slice none 0 0] 140)
    obtain ⟨q0, q1⟩ := cel1 k5
    have s1 := set1 k5 (.slice a4 S.length c4)
    have hg6 := grownBy_setCell' w5 w4.heap.size (.slice a4 S.length c4)
    go_wp2_with fail
    generalize w5.setCell ⟨w4.heap.size, 0, none⟩ (.slice a4 S.length c4) = w6 at s1 hg6 ⊢
    have hb6 : Below w4.heap.size w4 w6 := hb5.grown hg6 (Nat.le_of_lt hz5) (fun j e => by cases e; exact Nat.le_refl _)
    have O4 := Lib.hid (ho4.below hb6)
    obtain ⟨x0, -⟩ := cel1 s1
    have X0 := Lib.hid x0
    have Z6 := Lib.hid (blkSz s1)
    have O3' := Lib.hid ((O3.out.below hb4).below hb6)
    have B6 := Lib.hid (tw (tw (tw hb1 hb3) hb4) hb6)
    have K6 := Lib.hid (blkT (blkT (blkT k1 hb3) hb4) hb6)
    clear x0 s1 hg6 hb5 hz5 q0 q1 k5 hw5 w5 ho4 h4 hb6 hb4 hb3 hb1 k1 hz1 O3
    refine (HI _ _ _ _ X0.out Z6.out O4.out).mono ?_
    rintro e w7 ⟨j, rfl, hj1, hj2, hb7⟩
    rw [J1.out, decide_eq_true_eq] at hj1
    obtain ⟨i, rfl, hfi⟩ := hj2 hj1
    obtain ⟨hiS, hSi⟩ := J2.out i hfi
    have O7 := Lib.hid (O3'.out.below hb7)
    obtain ⟨b, off, rfl, hB, c0, c1⟩ := at2 O7.out.2.2.2 (i := i) (by rw [hlm]; exact hiS)
    rw [List.getElem_map, hSi] at c0 c1
    rw [show (r.rt.n : Int) = (r.n : Int) from rfl] at c0
    rw [show (r.rt.d : Int) = (r.d : Int) from rfl] at c1
    have hki : (i : Int) < (S.length : Int) := by omega
    have k7 := blkT K6.out hb7
    obtain ⟨q0, q1, q2, q3⟩ := cel2 k7
    obtain ⟨s1, s2⟩ := set2 k7 (.int .i64 (r.n : Int)) (.int .i64 (r.d : Int))
    obtain ⟨t0, t1, -, -⟩ := cel2 s1
    have hbw := tw B6.out hb7
    have hbf := hbw.grown s2 hbw.size (fun j e => by cases e; exact Nat.le_refl _)
    clear hSi hfi hj2
    go_wp2
    exact bodyPost_ret (v := .tuple #[.agg #[.int .i64 (r.n : Int), .int .i64 (r.d : Int)], .int .i64 0]) (by simp [results, Tryz.results34, go_sem, t0, t1]) rfl ⟨rfl, hbf⟩
  · rw [ozE hz, ozE hz]
    generalize hE : rngH n 1 30 = E at hz ⊢
    have HE := Lib.hid hE
    have hne := nzH hz
    obtain ⟨q0, q1, q2, q3⟩ := cel2 k1
    obtain ⟨s1, s2⟩ := set2 k1 (.int .i64 0) (.int .i64 0)
    obtain ⟨t0, t1, -, -⟩ := cel2 s1
    have hbf := hb1.grown s2 (Nat.le_of_lt hz1) (fun j e => by cases e; exact Nat.le_refl _)
    clear hz hE
    go_enter Tryz.func34, Tryz.ntmps34
    go_wp2_with fail
    refine (hgCheckRange _ _ _ _).mono ?_
    rintro e w2 ⟨rfl, rfl⟩
    rw [HE.out]
    go_wp2
    exact bodyPost_ret (v := .tuple #[.agg #[.int .i64 0, .int .i64 0], .int .i64 E]) (by simp [results, Tryz.results34, go_sem, t0, t1]) rfl ⟨rfl, hbf⟩
end Go.Proofs.YtlkeejhaodedmaaGreatDoor

/- hang: the calls of awake. -/
namespace Go.Proofs.YtlkeejhaodedmaaGreatDoor
open Go.RowKit

/-! ### equal lists -/
set_option maxHeartbeats 1000000 in
set_option maxRecDepth 100000 in
theorem rfSameInts (A A' : Option Addr) (c c' n n' : Nat) (l : List Int) (w : World) (hn : l.length = n) (hn' : l.length = n') (hl : l.length ≤ 100000) (h : RV ic 1 w w.heap.size A l) (h' : RV ic 1 w w.heap.size A' l) :
    Calls Tryz.prog 48 #[.slice A n c, .slice A' n' c'] w fun e w' => e = .returned (.bool true) ∧ Below w.heap.size w w' := by
  subst hn hn'
  have HR := Lib.hid h
  have HR' := Lib.hid h'
  clear h h'
  have hne : ((l.length : Int) != (l.length : Int)) = false := by simp
  go_enter Tryz.func48, Tryz.ntmps48
  go_wp2_with fail
  go_loopw [5] (fun i wr => ∃ k : Nat, k ≤ l.length ∧ i = .int .i64 k ∧ Below w.heap.size w wr) (fun i _ => l.length - (intOf i).toNat)
  case atStart => exact ⟨0, Nat.zero_le _, rfl, Below.refl _ _⟩
  case round =>
    obtain ⟨k, hk, rfl, hb⟩ := hrel
    by_cases hlt : k < l.length
    · obtain ⟨b, off, rfl, hB, c0⟩ := at1 (HR.out.to hb) hlt
      obtain ⟨b', off', rfl, hB', d0⟩ := at1 (HR'.out.to hb) hlt
      have b1 : (0 : Int) ≤ (k : Int) := by omega
      have b2 : (k : Int) < (l.length : Int) := by omega
      generalize (l[k] : Int) = x at c0 d0
      go_wp2_with fail
      go_region
      go_wp2_with fail
      go_roundw
      case rel => exact ⟨k + 1, by omega, by go_num, below_drew hb⟩
      case measure => simp [intOf]; omega
    · obtain rfl : k = l.length := by omega
      go_wp2_with fail
      go_ret
      exact ⟨rfl, hb⟩
set_option maxHeartbeats 1000000 in
set_option maxRecDepth 100000 in
theorem rfSameRatios (A A' : Option Addr) (c c' n n' : Nat) (l : List Rt) (w : World) (hn : l.length = n) (hn' : l.length = n') (hl : l.length ≤ 100000) (h : RV Rt.c 2 w w.heap.size A l) (h' : RV Rt.c 2 w w.heap.size A' l) :
    Calls Tryz.prog 47 #[.slice A n c, .slice A' n' c'] w fun e w' => e = .returned (.bool true) ∧ Below w.heap.size w w' := by
  subst hn hn'
  have HR := Lib.hid h
  have HR' := Lib.hid h'
  clear h h'
  have hgd := guardRat
  have hne : ((l.length : Int) != (l.length : Int)) = false := by simp
  go_enter Tryz.func47, Tryz.ntmps47
  go_wp2_with fail
  go_loopw [5] (fun i wr => ∃ k : Nat, k ≤ l.length ∧ i = .int .i64 k ∧ Below w.heap.size w wr) (fun i _ => l.length - (intOf i).toNat)
  case atStart => exact ⟨0, Nat.zero_le _, rfl, Below.refl _ _⟩
  case round =>
    obtain ⟨k, hk, rfl, hb⟩ := hrel
    by_cases hlt : k < l.length
    · obtain ⟨b, off, rfl, hB, c0, c1⟩ := at2 (HR.out.to hb) hlt
      obtain ⟨b', off', rfl, hB', d0, d1⟩ := at2 (HR'.out.to hb) hlt
      have b1 : (0 : Int) ≤ (k : Int) := by omega
      have b2 : (k : Int) < (l.length : Int) := by omega
      generalize l[k].n = x at c0 d0
      generalize l[k].d = y at c1 d1
      have heq := fun w => eqRat x y x y true (by simp) w
      go_wp2_with fail
      go_quiet (fail)
      go_wp2_with fail
      go_roundw
      case rel => exact ⟨k + 1, by omega, by go_num, below_drewN hb _⟩
      case measure => simp [intOf]; omega
    · obtain rfl : k = l.length := by omega
      go_wp2_with fail
      go_ret
      exact ⟨rfl, hb⟩
/-! ### the calls -/
set_option maxRecDepth 100000 in
theorem ax0 (w : World) : Calls Tryz.prog 76 #[] w fun e w' => e = .returned (.agg #[.int .i64 1, .int .i64 2]) ∧ Below w.heap.size w w' := by
  obtain ⟨w1, hw1, k1, hb1, hz1⟩ := boxS w (.cells #[.int .i64 0, .int .i64 0] 23)
  obtain ⟨q0, q1, q2, q3⟩ := cel2 k1
  obtain ⟨s1, s2⟩ := set2 k1 (.int .i64 1) (.int .i64 2)
  obtain ⟨t0, t1, -, -⟩ := cel2 s1
  have hbf := hb1.grown s2 hb1.size (fun j e => by cases e; exact Nat.le_refl _)
  go_enter Tryz.func76, Tryz.ntmps76
  go_wp2
  exact bodyPost_ret (v := .agg #[.int .i64 1, .int .i64 2]) (by simp [results, Tryz.results76, go_sem, t0, t1]) rfl ⟨rfl, hbf⟩
theorem ax1 (w : World) : Calls Tryz.prog 24 #[.agg #[.int .i64 1, .int .i64 2], .int .i64 50, .int .i64 10] w fun e w' => e = .returned (.tuple #[.agg #[.int .i64 500, .int .i64 1], .int .i64 0]) ∧ Below w.heap.size w w' :=
  (hgWidth 1 2 50 10 w).mono fun _ _ h => ⟨h.1.trans (by kernel_rfl), h.2⟩
theorem ax2 (w : World) : Calls Tryz.prog 25 #[.agg #[.int .i64 1, .int .i64 2], .int .i64 50, .int .i64 10] w fun e w' => e = .returned (.tuple #[.agg #[.int .i64 750000, .int .i64 1], .int .i64 0]) ∧ Below w.heap.size w w' :=
  (hgHeight 1 2 50 10 w).mono fun _ _ h => ⟨h.1.trans (by kernel_rfl), h.2⟩
theorem ax3 (w : World) (hT : Tab w) : Calls Tryz.prog 33 #[.agg #[.int .i64 750000, .int .i64 1], .int .i64 2] w fun e w' => e = .returned (.tuple #[.agg #[.int .i64 43301, .int .i64 50], .int .i64 0]) ∧ Below w.heap.size w w' := by
  have e : rtQ 750000 1 2 = 86602 := isq_eq ⟨by decide, by decide⟩
  have hM := hgRoot 750000 1 2 w hT
  rw [e] at hM
  exact hM.mono fun _ _ h => ⟨h.1.trans (by kernel_rfl), h.2⟩
theorem ax4 (w : World) : Calls Tryz.prog 23 #[.int .i64 500, .int .i64 50, .int .i64 10] w fun e w' => e = .returned (.tuple #[.agg #[.int .i64 1, .int .i64 2], .int .i64 0]) ∧ Below w.heap.size w w' :=
  (hgHanging 500 50 10 w).mono fun _ _ h => ⟨h.1.trans (by kernel_rfl), h.2⟩
theorem ax5 (w : World) : Calls Tryz.prog 23 #[.int .i64 601, .int .i64 50, .int .i64 10] w fun e w' => e = .returned (.tuple #[.agg #[.int .i64 0, .int .i64 0], .int .i64 4]) ∧ Below w.heap.size w w' :=
  (hgHanging 601 50 10 w).mono fun _ _ h => ⟨h.1.trans (by kernel_rfl), h.2⟩
theorem ax6 (w : World) : Calls Tryz.prog 23 #[.int .i64 1001, .int .i64 50, .int .i64 10] w fun e w' => e = .returned (.tuple #[.agg #[.int .i64 0, .int .i64 0], .int .i64 23]) ∧ Below w.heap.size w w' :=
  (hgHanging 1001 50 10 w).mono fun _ _ h => ⟨h.1.trans (by kernel_rfl), h.2⟩
theorem ax7 (w : World) : Calls Tryz.prog 14 #[.agg #[.int .i64 3, .int .i64 5]] w fun e w' => e = .returned (.tuple #[.agg #[.int .i64 16, .int .i64 25], .int .i64 0]) ∧ Below w.heap.size w w' :=
  (hgSecondary 3 5 w).mono fun _ _ h => ⟨h.1.trans (by kernel_rfl), h.2⟩
theorem ax8 (w : World) : Calls Tryz.prog 15 #[.agg #[.int .i64 3, .int .i64 5]] w fun e w' => e = .returned (.tuple #[.agg #[.int .i64 576, .int .i64 625], .int .i64 0]) ∧ Below w.heap.size w w' :=
  (hgFullness 3 5 w).mono fun _ _ h => ⟨h.1.trans (by kernel_rfl), h.2⟩
theorem ax9 (w : World) : Calls Tryz.prog 34 #[.int .i64 7] w fun e w' => e = .returned (.tuple #[.agg #[.int .i64 5, .int .i64 7], .int .i64 0]) ∧ Below w.heap.size w w' :=
  (hgFullest 7 w).mono fun _ _ h => ⟨h.1.trans (by kernel_rfl), h.2⟩
def secA : List Sec := [⟨10, 1, 2⟩, ⟨6, 2, 3⟩]
def secB : List Sec := [⟨2, 1, 2⟩, ⟨1, 2, 3⟩]
def twA : List Twn := [⟨⟨#[97]⟩, 100, 20⟩, ⟨⟨#[98]⟩, 200, 30⟩]
def twB : List Twn := [⟨⟨#[97]⟩, 500, 20⟩, ⟨⟨#[98]⟩, 200, 30⟩]
def liA : List Lin := [⟨12, 9, 50, ⟨#[97]⟩⟩, ⟨1, 0, 14, ⟨#[97]⟩⟩]
theorem ax10 (g : Nat) (w : World) (h : w.heap[g]? = some (.cells #[.int .i64 10, .int .i64 1, .int .i64 2, .int .i64 6, .int .i64 2, .int .i64 3] 131 (0, 0))) : Calls Tryz.prog 39 #[.slice (some ⟨g, 0, none⟩) 2 2, .int .i64 50] w fun e w' => e = .returned (.tuple #[.agg #[.int .i64 900, .int .i64 1], .int .i64 0]) ∧ Below w.heap.size w w' :=
  (hgRope (some ⟨g, 0, none⟩) 2 secA 50 w (by decide) (OKV.blk Sec.c3 h rfl (by decide))).mono fun _ _ h => ⟨h.1.trans (by kernel_rfl), h.2⟩
def raA : List Rt := [⟨0, 1⟩, ⟨5, 1⟩, ⟨10, 1⟩, ⟨50, 3⟩]
theorem ax11 (g : Nat) (w : World) (h : w.heap[g]? = some (.cells #[.int .i64 2, .int .i64 1, .int .i64 2, .int .i64 1, .int .i64 2, .int .i64 3] 131 (0, 0))) : Calls Tryz.prog 41 #[.slice (some ⟨g, 0, none⟩) 2 2, .int .i64 5] w (fun e w' => ∃ a c, e = .returned (.tuple #[.slice a 4 c, .int .i64 0]) ∧ OKV Rt.c 2 w' a c raA ∧ Below w.heap.size w w') := by
  have hE : marE secB 5 = 0 := by kernel_rfl
  have hL : marL secB 5 = raA := by kernel_rfl
  have hM := hgMarks (some ⟨g, 0, none⟩) 2 secB 5 w (by decide) (OKV.blk Sec.c3 h rfl (by decide))
  rw [hE, hL, ozL0] at hM
  exact hM
def tiA : List Int := [2, 3, 2, 3]
theorem ax12 (w : World) : Calls Tryz.prog 42 #[.int .i64 10, .int .i64 4] w (fun e w' => ∃ a c, e = .returned (.tuple #[.slice a 4 c, .int .i64 0]) ∧ OKV ic 1 w' a c tiA ∧ Below w.heap.size w w') := by
  have hE : tieE 10 4 = 0 := by kernel_rfl
  have hL : tiesL (10 : Int).toNat (4 : Int).toNat (4 : Int).toNat = tiA := by kernel_rfl
  have hM := hgTies 10 4 w
  rw [hE, hL, ozL0] at hM
  exact hM
theorem ax13 (g : Nat) (w : World) (h : w.heap[g]? = some (.cells #[.string ⟨#[97]⟩, .int .i64 100, .int .i64 20, .string ⟨#[98]⟩, .int .i64 200, .int .i64 30] 132 (0, 0))) : Calls Tryz.prog 50 #[.slice (some ⟨g, 0, none⟩) 2 2, .int .i64 150] w fun e w' => e = .returned (.tuple #[.int .i64 0, .int .i64 0]) ∧ Below w.heap.size w w' :=
  (hgNearest (some ⟨g, 0, none⟩) 2 twA 150 w (by decide) (OKV.blk Twn.c3 h rfl (by decide))).mono fun _ _ h => ⟨h.1.trans (by
    have hE : nrE twA 150 = 0 := by decide +kernel
    have hI : nrI twA 150 = 0 := by decide +kernel
    rw [hE, hI]
    rfl), h.2⟩
theorem ax14 (w : World) : Calls Tryz.prog 55 #[.int .i64 12, .int .i64 9, .int .i64 50, .int .i64 4] w fun e w' => e = .returned (.tuple #[.int .i64 636, .int .i64 0]) ∧ Below w.heap.size w w' :=
  (hgLength 12 9 50 4 w).mono fun _ _ h => ⟨h.1.trans (by kernel_rfl), h.2⟩
theorem ax15 (w : World) : Calls Tryz.prog 56 #[.int .i64 636, .int .i64 500] w fun e w' => e = .returned (.tuple #[.int .i64 318, .int .i64 0]) ∧ Below w.heap.size w w' :=
  (hgWeight 636 500 w).mono fun _ _ h => ⟨h.1.trans (by kernel_rfl), h.2⟩
def smA : List Sm := [⟨650, 325, 13000⟩, ⟨0, 0, 0⟩]
theorem ax16 (g g2 : Nat) (w : World) (h : w.heap[g]? = some (.cells #[.string ⟨#[97]⟩, .int .i64 500, .int .i64 20, .string ⟨#[98]⟩, .int .i64 200, .int .i64 30] 132 (0, 0))) (h2 : w.heap[g2]? = some (.cells #[.int .i64 12, .int .i64 9, .int .i64 50, .string ⟨#[97]⟩, .int .i64 1, .int .i64 0, .int .i64 14, .string ⟨#[97]⟩] 133 (0, 0))) :
    Calls Tryz.prog 61 #[.slice (some ⟨g, 0, none⟩) 2 2, .slice (some ⟨g2, 0, none⟩) 2 2, .int .i64 4] w (fun e w' => ∃ a c, e = .returned (.tuple #[.slice a 2 c, .int .i64 0]) ∧ OKV Sm.c 3 w' a c smA ∧ Below w.heap.size w w') := by
  have hE : bilE twB liA 4 = 0 := by decide +kernel
  have hL : bilL twB liA 4 = smA := by kernel_rfl
  have hM := hgBill (some ⟨g, 0, none⟩) 2 twB (some ⟨g2, 0, none⟩) 2 liA 4 w (by decide) (by decide) (OKV.blk Twn.c3 h rfl (by decide)) (OKV.blk Lin.c4 h2 rfl (by decide))
  rw [hE, hL, ozL0] at hM
  exact hM
theorem ax17 (w : World) : Calls Tryz.prog 32 #[.agg #[.int .i64 1, .int .i64 3], .agg #[.int .i64 1, .int .i64 2]] w fun e w' => e = .returned (.tuple #[.int .i64 (-1), .int .i64 0]) ∧ Below w.heap.size w w' :=
  (hgCompare 1 3 1 2 w).mono fun _ _ h => ⟨h.1.trans (by kernel_rfl), h.2⟩
end Go.Proofs.YtlkeejhaodedmaaGreatDoor

/- hang: awake of the statements of chapter 6. -/
namespace Go.Proofs.YtlkeejhaodedmaaGreatDoor
open Go.RowKit

theorem keepV {W w1 w2 : World} {g0 g1 g2 g3 g4 g5 g6 : Nat} {x0 y0 x1 y1 x2 y2 x3 y3 x4 y4 x5 y5 x6 y6 : Value} (k : w1.cell? ⟨g0, 0, none⟩ = some x0 ∧ w1.cell? ⟨g0, 1, none⟩ = some y0 ∧ w1.cell? ⟨g1, 0, none⟩ = some x1 ∧ w1.cell? ⟨g1, 1, none⟩ = some y1 ∧ w1.cell? ⟨g2, 0, none⟩ = some x2 ∧ w1.cell? ⟨g2, 1, none⟩ = some y2 ∧ w1.cell? ⟨g3, 0, none⟩ = some x3 ∧ w1.cell? ⟨g3, 1, none⟩ = some y3 ∧ w1.cell? ⟨g4, 0, none⟩ = some x4 ∧ w1.cell? ⟨g4, 1, none⟩ = some y4 ∧ w1.cell? ⟨g5, 0, none⟩ = some x5 ∧ w1.cell? ⟨g5, 1, none⟩ = some y5 ∧ w1.cell? ⟨g6, 0, none⟩ = some x6 ∧ w1.cell? ⟨g6, 1, none⟩ = some y6 ∧ Below W.heap.size W w1 ∧ g0 < w1.heap.size ∧ g1 < w1.heap.size ∧ g2 < w1.heap.size ∧ g3 < w1.heap.size ∧ g4 < w1.heap.size ∧ g5 < w1.heap.size ∧ g6 < w1.heap.size) (hb : Below w1.heap.size w1 w2) :
    w2.cell? ⟨g0, 0, none⟩ = some x0 ∧ w2.cell? ⟨g0, 1, none⟩ = some y0 ∧ w2.cell? ⟨g1, 0, none⟩ = some x1 ∧ w2.cell? ⟨g1, 1, none⟩ = some y1 ∧ w2.cell? ⟨g2, 0, none⟩ = some x2 ∧ w2.cell? ⟨g2, 1, none⟩ = some y2 ∧ w2.cell? ⟨g3, 0, none⟩ = some x3 ∧ w2.cell? ⟨g3, 1, none⟩ = some y3 ∧ w2.cell? ⟨g4, 0, none⟩ = some x4 ∧ w2.cell? ⟨g4, 1, none⟩ = some y4 ∧ w2.cell? ⟨g5, 0, none⟩ = some x5 ∧ w2.cell? ⟨g5, 1, none⟩ = some y5 ∧ w2.cell? ⟨g6, 0, none⟩ = some x6 ∧ w2.cell? ⟨g6, 1, none⟩ = some y6 ∧ Below W.heap.size W w2 ∧ g0 < w2.heap.size ∧ g1 < w2.heap.size ∧ g2 < w2.heap.size ∧ g3 < w2.heap.size ∧ g4 < w2.heap.size ∧ g5 < w2.heap.size ∧ g6 < w2.heap.size := by
  obtain ⟨a0, b0, a1, b1, a2, b2, a3, b3, a4, b4, a5, b5, a6, b6, h, c0, c1, c2, c3, c4, c5, c6⟩ := k
  have := hb.size
  exact ⟨(hb.cell (p := ⟨g0, 0, none⟩) c0).trans a0, (hb.cell (p := ⟨g0, 1, none⟩) c0).trans b0, (hb.cell (p := ⟨g1, 0, none⟩) c1).trans a1, (hb.cell (p := ⟨g1, 1, none⟩) c1).trans b1, (hb.cell (p := ⟨g2, 0, none⟩) c2).trans a2, (hb.cell (p := ⟨g2, 1, none⟩) c2).trans b2, (hb.cell (p := ⟨g3, 0, none⟩) c3).trans a3, (hb.cell (p := ⟨g3, 1, none⟩) c3).trans b3, (hb.cell (p := ⟨g4, 0, none⟩) c4).trans a4, (hb.cell (p := ⟨g4, 1, none⟩) c4).trans b4, (hb.cell (p := ⟨g5, 0, none⟩) c5).trans a5, (hb.cell (p := ⟨g5, 1, none⟩) c5).trans b5, (hb.cell (p := ⟨g6, 0, none⟩) c6).trans a6, (hb.cell (p := ⟨g6, 1, none⟩) c6).trans b6, tw h hb, by omega, by omega, by omega, by omega, by omega, by omega, by omega⟩
theorem set61 {W : World} {b : Nat} {x0 x1 x2 x3 x4 x5 : Value} {t : TypeId} (h : W.heap[b]? = some (.cells #[x0, x1, x2, x3, x4, x5] t (0, 0))) (q : Value) :
    (W.setCell ⟨b, 1, none⟩ q).heap[b]? = some (.cells #[x0, q, x2, x3, x4, x5] t (0, 0)) ∧ W.grownBy (W.setCell ⟨b, 1, none⟩ q) (some b) ∧ W.cell? ⟨b, 1, none⟩ = some x1 ∧ W.frozen? ⟨b, 1, none⟩ = false := by
  refine ⟨?_, ⟨rfl, rfl, rfl, by simp [World.setCell], fun i _ hne => ?_⟩, by simp [World.cell?, h], by simp [World.frozen?, h]⟩
  · simp only [World.setCell, Array.getElem?_modify, if_true, h, Option.map_some]
    rfl
  · have : i ≠ b := fun e => hne (by rw [e])
    exact Below.heap_setCell _ _ _ i this
theorem eqSumA (w : World) : (Op.equalIn 10000 106 (.agg #[.int .i64 650, .int .i64 325, .int .i64 13000]) (.agg #[.int .i64 650, .int .i64 325, .int .i64 13000])).run Tryz.prog w = .ok true w := by kernel_rfl
theorem eqSum0 (w : World) : (Op.equalIn 10000 106 (.agg #[.int .i64 0, .int .i64 0, .int .i64 0]) (.agg #[.int .i64 0, .int .i64 0, .int .i64 0])).run Tryz.prog w = .ok true w := by kernel_rfl
theorem guardSum : Tryz.prog.eqGuardType Tryz.prog.depth 106 = false := by kernel_rfl
set_option maxHeartbeats 16000000 in
set_option maxRecDepth 100000 in
theorem awake6 (w : World) (hT : Tab w) : Calls Tryz.prog 22 #[] w fun e w' => e = .returned (.bool true) ∧ Below w.heap.size w w' := by
  go_enter Tryz.func22, Tryz.ntmps22
  have B := Below.refl w.heap.size w
  go_wp2_with fail
  refine (ax0 _).mono ?_
  rintro e w1 ⟨rfl, hb⟩
  replace B := B.trans (hb.mono B.size)
  clear hb
  go_wp2_with fail
  refine (ax1 _).mono ?_
  rintro e w2 ⟨rfl, hb⟩
  replace B := B.trans (hb.mono B.size)
  clear hb
  obtain ⟨v1, hv1, k1, hb, hz⟩ := boxS w2 (.cells #[.int .i64 500, .int .i64 1] 23)
  replace B := B.trans (hb.mono B.size)
  clear hb
  clear hz
  go_wp2_with fail
  refine (ax0 _).mono ?_
  rintro e w3 ⟨rfl, hb⟩
  replace k1 := blkT k1 hb
  replace B := B.trans (hb.mono B.size)
  clear hb
  go_wp2_with fail
  refine (ax2 _).mono ?_
  rintro e w4 ⟨rfl, hb⟩
  replace k1 := blkT k1 hb
  replace B := B.trans (hb.mono B.size)
  clear hb
  obtain ⟨v2, hv2, k2, hb, hz⟩ := boxS w4 (.cells #[.int .i64 750000, .int .i64 1] 25)
  replace k1 := blkT k1 hb
  replace B := B.trans (hb.mono B.size)
  clear hb
  clear hz
  obtain ⟨c20, c21, -, -⟩ := cel2 k2
  go_wp2_with fail
  refine (ax3 _ (hT.below B)).mono ?_
  rintro e w5 ⟨rfl, hb⟩
  replace k1 := blkT k1 hb
  replace k2 := blkT k2 hb
  replace B := B.trans (hb.mono B.size)
  clear hb
  clear c20 c21
  obtain ⟨v3, hv3, k3, hb, hz⟩ := boxS w5 (.cells #[.int .i64 43301, .int .i64 50] 23)
  replace k1 := blkT k1 hb
  replace k2 := blkT k2 hb
  replace B := B.trans (hb.mono B.size)
  clear hb
  clear hz
  go_wp2_with fail
  refine (ax4 _).mono ?_
  rintro e w6 ⟨rfl, hb⟩
  replace k1 := blkT k1 hb
  replace k2 := blkT k2 hb
  replace k3 := blkT k3 hb
  replace B := B.trans (hb.mono B.size)
  clear hb
  obtain ⟨v4, hv4, k4, hb, hz⟩ := boxS w6 (.cells #[.int .i64 1, .int .i64 2] 23)
  replace k1 := blkT k1 hb
  replace k2 := blkT k2 hb
  replace k3 := blkT k3 hb
  replace B := B.trans (hb.mono B.size)
  clear hb
  clear hz
  go_wp2_with fail
  refine (ax5 _).mono ?_
  rintro e w7 ⟨rfl, hb⟩
  replace k1 := blkT k1 hb
  replace k2 := blkT k2 hb
  replace k3 := blkT k3 hb
  replace k4 := blkT k4 hb
  replace B := B.trans (hb.mono B.size)
  clear hb
  have hb := (Below.refl w7.heap.size w7).alloc (Nat.le_refl _) (.cells #[.int .i64 0, .int .i64 0] 23)
  replace k1 := blkT k1 hb
  replace k2 := blkT k2 hb
  replace k3 := blkT k3 hb
  replace k4 := blkT k4 hb
  replace B := B.trans (hb.mono B.size)
  clear hb
  go_wp2_with fail
  refine (ax6 _).mono ?_
  rintro e w8 ⟨rfl, hb⟩
  replace k1 := blkT k1 hb
  replace k2 := blkT k2 hb
  replace k3 := blkT k3 hb
  replace k4 := blkT k4 hb
  replace B := B.trans (hb.mono B.size)
  clear hb
  have hb := (Below.refl w8.heap.size w8).alloc (Nat.le_refl _) (.cells #[.int .i64 0, .int .i64 0] 23)
  replace k1 := blkT k1 hb
  replace k2 := blkT k2 hb
  replace k3 := blkT k3 hb
  replace k4 := blkT k4 hb
  replace B := B.trans (hb.mono B.size)
  clear hb
  go_wp2_with fail
  refine (ax7 _).mono ?_
  rintro e w9 ⟨rfl, hb⟩
  replace k1 := blkT k1 hb
  replace k2 := blkT k2 hb
  replace k3 := blkT k3 hb
  replace k4 := blkT k4 hb
  replace B := B.trans (hb.mono B.size)
  clear hb
  obtain ⟨v7, hv7, k7, hb, hz⟩ := boxS w9 (.cells #[.int .i64 16, .int .i64 25] 25)
  replace k1 := blkT k1 hb
  replace k2 := blkT k2 hb
  replace k3 := blkT k3 hb
  replace k4 := blkT k4 hb
  replace B := B.trans (hb.mono B.size)
  clear hb
  clear hz
  go_wp2_with fail
  refine (ax8 _).mono ?_
  rintro e w10 ⟨rfl, hb⟩
  replace k1 := blkT k1 hb
  replace k2 := blkT k2 hb
  replace k3 := blkT k3 hb
  replace k4 := blkT k4 hb
  replace k7 := blkT k7 hb
  replace B := B.trans (hb.mono B.size)
  clear hb
  obtain ⟨v8, hv8, k8, hb, hz⟩ := boxS w10 (.cells #[.int .i64 576, .int .i64 625] 25)
  replace k1 := blkT k1 hb
  replace k2 := blkT k2 hb
  replace k3 := blkT k3 hb
  replace k4 := blkT k4 hb
  replace k7 := blkT k7 hb
  replace B := B.trans (hb.mono B.size)
  clear hb
  clear hz
  go_wp2_with fail
  refine (ax9 _).mono ?_
  rintro e w11 ⟨rfl, hb⟩
  replace k1 := blkT k1 hb
  replace k2 := blkT k2 hb
  replace k3 := blkT k3 hb
  replace k4 := blkT k4 hb
  replace k7 := blkT k7 hb
  replace k8 := blkT k8 hb
  replace B := B.trans (hb.mono B.size)
  clear hb
  obtain ⟨v9, hv9, k9, hb, hz⟩ := boxS w11 (.cells #[.int .i64 5, .int .i64 7] 23)
  replace k1 := blkT k1 hb
  replace k2 := blkT k2 hb
  replace k3 := blkT k3 hb
  replace k4 := blkT k4 hb
  replace k7 := blkT k7 hb
  replace k8 := blkT k8 hb
  replace B := B.trans (hb.mono B.size)
  clear hb
  clear hz
  obtain ⟨p0, q0, -, -⟩ := cel2 k1
  have z0 := blkSz k1
  have e0 := fun w => eqRat 500 1 500 1 true (by decide) w
  clear k1
  obtain ⟨p1, q1, -, -⟩ := cel2 k2
  have z1 := blkSz k2
  have e1 := fun w => eqSqr 750000 1 750000 1 true (by decide) w
  clear k2
  obtain ⟨p2, q2, -, -⟩ := cel2 k3
  have z2 := blkSz k3
  have e2 := fun w => eqRat 43301 50 43301 50 true (by decide) w
  clear k3
  obtain ⟨p3, q3, -, -⟩ := cel2 k4
  have z3 := blkSz k4
  have e3 := fun w => eqRat 1 2 1 2 true (by decide) w
  clear k4
  obtain ⟨p4, q4, -, -⟩ := cel2 k7
  have z4 := blkSz k7
  have e4 := fun w => eqSqr 16 25 16 25 true (by decide) w
  clear k7
  obtain ⟨p5, q5, -, -⟩ := cel2 k8
  have z5 := blkSz k8
  have e5 := fun w => eqSqr 576 625 576 625 true (by decide) w
  clear k8
  obtain ⟨p6, q6, -, -⟩ := cel2 k9
  have z6 := blkSz k9
  have e6 := fun w => eqRat 5 7 5 7 true (by decide) w
  clear k9
  have hg1 := guardRat
  have hg2 := guardSqr
  go_wp2_with fail
  go_region_held3 (fun w' => w'.cell? ⟨w2.heap.size, 0, none⟩ = some (.int .i64 500) ∧ w'.cell? ⟨w2.heap.size, 1, none⟩ = some (.int .i64 1) ∧ w'.cell? ⟨w4.heap.size, 0, none⟩ = some (.int .i64 750000) ∧ w'.cell? ⟨w4.heap.size, 1, none⟩ = some (.int .i64 1) ∧ w'.cell? ⟨w5.heap.size, 0, none⟩ = some (.int .i64 43301) ∧ w'.cell? ⟨w5.heap.size, 1, none⟩ = some (.int .i64 50) ∧ w'.cell? ⟨w6.heap.size, 0, none⟩ = some (.int .i64 1) ∧ w'.cell? ⟨w6.heap.size, 1, none⟩ = some (.int .i64 2) ∧ w'.cell? ⟨w9.heap.size, 0, none⟩ = some (.int .i64 16) ∧ w'.cell? ⟨w9.heap.size, 1, none⟩ = some (.int .i64 25) ∧ w'.cell? ⟨w10.heap.size, 0, none⟩ = some (.int .i64 576) ∧ w'.cell? ⟨w10.heap.size, 1, none⟩ = some (.int .i64 625) ∧ w'.cell? ⟨w11.heap.size, 0, none⟩ = some (.int .i64 5) ∧ w'.cell? ⟨w11.heap.size, 1, none⟩ = some (.int .i64 7) ∧ Below w.heap.size w w' ∧ w2.heap.size < w'.heap.size ∧ w4.heap.size < w'.heap.size ∧ w5.heap.size < w'.heap.size ∧ w6.heap.size < w'.heap.size ∧ w9.heap.size < w'.heap.size ∧ w10.heap.size < w'.heap.size ∧ w11.heap.size < w'.heap.size)
    (first | exact ⟨p0, q0, p1, q1, p2, q2, p3, q3, p4, q4, p5, q5, p6, q6, B, z0, z1, z2, z3, z4, z5, z6⟩ | exact ⟨p0, q0, p1, q1, p2, q2, p3, q3, p4, q4, p5, q5, p6, q6, below_drew B, z0, z1, z2, z3, z4, z5, z6⟩ | exact keepV (by assumption) (by assumption) | exact keepV (by assumption) ((Below.refl _ _).alloc (Nat.le_refl _) _) | assumption | exact keepV (by assumption) (below_drew (Below.refl _ _)) | go_keep)
    (first
      | (go_at_call 76; refine (ax0 _).mono ?_; rintro e w' ⟨rfl, hb⟩))
  rename_i hH
  obtain ⟨-, -, -, -, -, -, -, -, -, -, -, -, -, -, B10, -, -, -, -, -, -, -⟩ := hH
  replace B := B10
  clear B10 hg2 p0 q0 z0 e0 p1 q1 z1 e1 p2 q2 z2 e2 p3 q3 z3 e3 p4 q4 z4 e4 p5 q5 z5 e5 p6 q6 z6 e6
  have ER := fun w => eqRat 900 1 900 1 true (by decide) w
  go_wp2_with fail
  refine (ax0 _).mono ?_
  rintro e w13 ⟨rfl, hb⟩
  replace B := B.trans (hb.mono B.size)
  clear hb
  obtain ⟨v13, hv13, kx, hb, hz⟩ := boxS w13 (.cells #[.int .i64 10, .int .i64 1, .int .i64 2, .int .i64 6, .int .i64 2, .int .i64 3] 131)
  replace B := B.trans (hb.mono B.size)
  clear hb
  clear hz
  go_wp2_with fail
  refine (ax10 _ _ kx).mono ?_
  rintro e w14 ⟨rfl, hb⟩
  replace kx := blkT kx hb
  replace B := B.trans (hb.mono B.size)
  clear hb
  clear kx
  obtain ⟨v14, hv14, kr, hb, hz⟩ := boxS w14 (.cells #[.int .i64 900, .int .i64 1] 23)
  replace B := B.trans (hb.mono B.size)
  clear hb
  clear hz
  go_wp2_with fail
  refine (ax0 _).mono ?_
  rintro e w15 ⟨rfl, hb⟩
  replace kr := blkT kr hb
  replace B := B.trans (hb.mono B.size)
  clear hb
  obtain ⟨v15, hv15, kx, hb, hz⟩ := boxS w15 (.cells #[.int .i64 2, .int .i64 1, .int .i64 2, .int .i64 1, .int .i64 2, .int .i64 3] 131)
  replace kr := blkT kr hb
  replace B := B.trans (hb.mono B.size)
  clear hb
  clear hz
  go_wp2_with fail
  refine (ax11 _ _ kx).mono ?_
  rintro e w16 ⟨a11, c11, rfl, o11, hb⟩
  replace kr := blkT kr hb
  replace kx := blkT kx hb
  replace B := B.trans (hb.mono B.size)
  clear hb
  have O11 := Lib.hid o11
  clear o11 kx
  go_wp2_with fail
  refine (ax12 _).mono ?_
  rintro e w17 ⟨a12, c12, rfl, o12, hb⟩
  replace kr := blkT kr hb
  replace O11 := Lib.hid (O11.out.below hb)
  replace B := B.trans (hb.mono B.size)
  clear hb
  have O12 := Lib.hid o12
  clear o12
  have B0 := Lib.hid B
  clear B
  have Kr := Lib.hid kr
  clear kr
  obtain ⟨v17, hv17, kt, B, hz⟩ := boxS w17 (.cells #[.string ⟨#[97]⟩, .int .i64 100, .int .i64 20, .string ⟨#[98]⟩, .int .i64 200, .int .i64 30] 132)
  clear hz
  go_wp2_with fail
  refine (ax13 _ _ kt).mono ?_
  rintro e w18 ⟨rfl, hb⟩
  replace kt := blkT kt hb
  replace B := B.trans (hb.mono B.size)
  clear hb
  go_wp2_with fail
  refine (ax14 _).mono ?_
  rintro e w19 ⟨rfl, hb⟩
  replace kt := blkT kt hb
  replace B := B.trans (hb.mono B.size)
  clear hb
  go_wp2_with fail
  refine (ax15 _).mono ?_
  rintro e w20 ⟨rfl, hb⟩
  replace kt := blkT kt hb
  replace B := B.trans (hb.mono B.size)
  clear hb
  obtain ⟨s1, s2, s3, s4⟩ := set61 kt (.int .i64 500)
  have hs : (w20.setCell ⟨w17.heap.size, 1, none⟩ (.int .i64 500)).heap.size = w20.heap.size := by simp [World.setCell]
  obtain ⟨v20, hv20, k20, hb, hz⟩ := boxS (w20.setCell ⟨w17.heap.size, 1, none⟩ (.int .i64 500)) (.cells #[.int .i64 12, .int .i64 9, .int .i64 50, .string ⟨#[97]⟩, .int .i64 1, .int .i64 0, .int .i64 14, .string ⟨#[97]⟩] 133)
  have C20 := (B.grown s2 B.size (fun j e => by cases e; exact Nat.le_refl _))
  replace B := C20.trans (hb.mono C20.size)
  replace kt := blkT s1 hb
  rw [hs] at k20
  clear hb hz C20 s1 s2
  go_wp2_with fail
  refine (ax16 _ _ _ kt k20).mono ?_
  rintro e w21 ⟨a16, c16, rfl, o16, hb⟩
  clear kt k20
  replace B := B.trans (hb.mono B.size)
  clear hb
  have O16 := Lib.hid o16
  clear o16 s3 s4 hs
  go_wp2_with fail
  refine (ax17 _).mono ?_
  rintro e w22 ⟨rfl, hb⟩
  replace O16 := Lib.hid (O16.out.below hb)
  replace B := B.trans (hb.mono B.size)
  clear hb
  obtain ⟨p, q, -, -⟩ := cel2 (blkT Kr.out B)
  obtain ⟨v22, hv22, k22, hb, hz⟩ := boxS w22 (.cells #[.int .i64 0, .int .i64 1, .int .i64 5, .int .i64 1, .int .i64 10, .int .i64 1, .int .i64 50, .int .i64 3] 23)
  have R1 := Lib.hid ((O11.out.below B).below hb)
  clear hz
  replace O16 := Lib.hid (O16.out.below hb)
  replace B := B.trans (hb.mono B.size)
  clear hb
  go_wp2_with fail
  refine (rfSameRatios a11 _ c11 4 4 4 raA _ rfl rfl (by decide) R1.out.2.2.2 (OKV.blk Rt.c2 k22 rfl (by decide)).2.2.2).mono ?_
  rintro e w23 ⟨rfl, hb⟩
  clear R1 k22 p q
  replace O16 := Lib.hid (O16.out.below hb)
  replace B := B.trans (hb.mono B.size)
  clear hb
  obtain ⟨v23, hv23, k23, hb, hz⟩ := boxS w23 (.cells #[.int .i64 2, .int .i64 3, .int .i64 2, .int .i64 3] 3)
  have R2 := Lib.hid ((O12.out.below B).below hb)
  clear hz
  replace O16 := Lib.hid (O16.out.below hb)
  replace B := B.trans (hb.mono B.size)
  clear hb
  go_wp2_with fail
  refine (rfSameInts a12 _ c12 4 4 4 tiA _ rfl rfl (by decide) R2.out.2.2.2 (OKV.blk ic1 k23 rfl (by decide)).2.2.2).mono ?_
  rintro e w24 ⟨rfl, hb⟩
  clear R2 k23
  replace O16 := Lib.hid (O16.out.below hb)
  replace B := B.trans (hb.mono B.size)
  clear hb
  obtain ⟨b, off, rfl, hB, hc⟩ := O16.out.2.2.2 (by decide)
  have m00 : w24.cell? ⟨b, off, none⟩ = some (.int .i64 650) := hc 0 (by decide) 0 _ rfl
  have m01 : w24.cell? ⟨b, off + 1, none⟩ = some (.int .i64 325) := hc 0 (by decide) 1 _ rfl
  have m02 : w24.cell? ⟨b, off + 2, none⟩ = some (.int .i64 13000) := hc 0 (by decide) 2 _ rfl
  have m10 : w24.cell? ⟨b, off + 3, none⟩ = some (.int .i64 0) := hc 1 (by decide) 0 _ rfl
  have m11 : w24.cell? ⟨b, off + 3 + 1, none⟩ = some (.int .i64 0) := hc 1 (by decide) 1 _ rfl
  have m12 : w24.cell? ⟨b, off + 3 + 2, none⟩ = some (.int .i64 0) := hc 1 (by decide) 2 _ rfl
  have ES := eqSumA
  have ES0 := eqSum0
  have hg3 := guardSum
  have BF := Lib.hid (B0.out.trans (B.mono B0.out.size))
  clear hc hB B O16 O11 O12
  go_wp2
  go_ret
  exact ⟨rfl, BF.out⟩
end Go.Proofs.YtlkeejhaodedmaaGreatDoor

/- What the rows of chapter 6 list: the table of the powers of ten; arguments opened. -/
namespace Go.Proofs.YtlkeejhaodedmaaGreatDoor
open Go.ChangeShapes Go.WideShapes Go.ChangeAt Go.WideMaps Go.WideElems Go.RowKit

def haLaid : List (String × DataW Unit) := [("codend/hang.powersOfTen", Rows.laid_codend_hang_powersOfTen)]
theorem Tryz.ownT : ownKnob Tryz.prog.godebug = none := by kernel_rfl
theorem Tryz.laidOutT : laidOutB Tryz.prog = true := by kernel_rfl
/-- A world that is laid so meets the condition. -/
theorem door_met (os : Os) (args : Array Value) : laidMetH Tryz.prog haLaid ((World.laidAll Tryz.prog os haLaid).forCall (fun _ _ => 0) ⟨#[], args, []⟩).memory := by
  rw [MakeChecks.laidMetH_plain _ _ _ (by kernel_rfl)]
  exact laidMet_laidAll _ (by kernel_rfl) (by kernel_rfl)
/-- The condition says what the walk asks. -/
theorem tab_met {w : World} (h : laidMetH Tryz.prog haLaid w) : Tab w := by
  rw [MakeChecks.laidMetH_plain _ _ _ (by kernel_rfl)] at h
  have hT : Lib.TabIs Tryz.prog w "codend/hang.powersOfTen" .i64 [1, 10, 100] :=
    Lib.tabIs_of_head (g := 0) (t := 137) (e := 3) (n := 3) (by kernel_rfl) (by kernel_rfl) Tryz.underlying137 Tryz.underlying3 (by kernel_rfl) (by kernel_rfl) h
  have hg : Tryz.prog.globalNamed "codend/hang.powersOfTen" = some 0 := by kernel_rfl
  have c0 := hT.cell hg 0 (by decide)
  have c1 := hT.cell hg 1 (by decide)
  have c2 := hT.cell hg 2 (by decide)
  refine ⟨c0, c1, c2, ?_⟩
  rcases Nat.lt_or_ge 0 w.heap.size with h' | h'
  · exact h'
  · simp [World.cell?, Array.getElem?_eq_none h'] at c0
set_option maxRecDepth 100000 in
theorem cell_intT {w : World} {r : Reach} {b0 : Nat} {k : IntKind} {t : TypeId} {v : Value} (ht : Tryz.prog.underlying t = some (.int k)) (h : Cell.okWide Tryz.prog w r b0 t v) : ∃ n, v = .int k n ∧ k.has n := by
  simp only [Cell.okWide, ht] at h
  cases v <;> simp_all [Cell.ok]
set_option maxRecDepth 100000 in
theorem open_intv {w : World} {r : Reach} {b0 : Nat} {v : Value} (h : Value.okWide Tryz.prog w r b0 3 v) : ∃ n, v = .int .i64 n := by
  have hS := Tryz.underlying3
  simp only [Value.okWide, hS] at h
  obtain ⟨n, rfl, -⟩ := cell_intT hS h
  exact ⟨n, rfl⟩
set_option maxRecDepth 100000 in
theorem open_arr4 {w : World} {r : Reach} {b0 : Nat} {v : Value} (h : Value.okWide Tryz.prog w r b0 88 v) : ∃ a b c d, v = .agg #[.int .i64 a, .int .i64 b, .int .i64 c, .int .i64 d] := by
  have hS : Tryz.prog.underlying 88 = some (.array 4 3) := Tryz.underlying88
  have hC : Tryz.prog.cellsOf 88 = 4 := by kernel_rfl
  simp only [Value.okWide, hS] at h
  obtain ⟨cs, rfl, hsz, hr⟩ := h
  rw [hC] at hsz
  obtain ⟨ts, hts, -, hrow⟩ := hr
  have ht : Tryz.prog.cellTypes Tryz.prog.depth 88 = some [3, 3, 3, 3] := by kernel_rfl
  rw [ht] at hts
  cases hts
  obtain ⟨l⟩ := cs
  match l, hsz with
  | [c0, c1, c2, c3], _ =>
    obtain ⟨u0, hu0, h0⟩ := hrow 0 c0 rfl
    obtain ⟨u1, hu1, h1⟩ := hrow 1 c1 rfl
    obtain ⟨u2, hu2, h2⟩ := hrow 2 c2 rfl
    obtain ⟨u3, hu3, h3⟩ := hrow 3 c3 rfl
    simp at hu0 hu1 hu2 hu3
    subst hu0 hu1 hu2 hu3
    obtain ⟨a, rfl, -⟩ := cell_intT Tryz.underlying3 h0
    obtain ⟨b, rfl, -⟩ := cell_intT Tryz.underlying3 h1
    obtain ⟨c, rfl, -⟩ := cell_intT Tryz.underlying3 h2
    obtain ⟨d, rfl, -⟩ := cell_intT Tryz.underlying3 h3
    exact ⟨a, b, c, d, rfl⟩
end Go.Proofs.YtlkeejhaodedmaaGreatDoor
