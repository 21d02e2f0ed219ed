/- Helpers, part 3. -/
import Derived.Test.YthihjphcjjpjpaaGreatB2
import Derived.Deep.LoopGhost
import Derived.Maps.AppendAt
import Derived.Laws.MakeOwn
import Derived.Deep.AppendLies
import Derived.Deep.RegionLaw
import Derived.Maps.Range
import Derived.Sort.MapsRangeIn
import Derived.RangeFuncSeq
import Derived.RangeFuncNested
import Derived.RangeFuncBound
import Derived.RangeFuncCalls
import Derived.RangeFuncLeaves
import Derived.Shelf.Abstract
import Derived.OwnWalkIn
import Derived.TacticsInMore
import Derived.LoopNIn
import Derived.LoopIn
import Derived.Shelf.AbstractIn
/- The contract of numberFrom. -/
namespace Go.Proofs.YthihjphcjjpjpaaGreat
open Go.RowKit

theorem Tryz.info23 : (Tryz.prog.info? 23).map (fun i => (i.zero, i.size, i.bytes)) = some (some (.agg #[.int .i64 0, .int .i64 0]), 2, 16) := by kernel_rfl
/-- The number n is given to all knots that are connected with src. -/
def Numbered (l : List Ck.Bar) (src : Ck.Knot) (n : Int) (M0 M : List (Ck.Knot × Int)) : Prop :=
  (∀ k, Ck.Conn l src k → mget M k = n) ∧ ∀ k, ¬ Ck.Conn l src k → mget M k = mget M0 k
def NumPost (l : List Ck.Bar) (src : Ck.Knot) (n : Int) (M0 : List (Ck.Knot × Int)) (b : Nat) (w : World) (e : Ending) (w' : World) : Prop :=
  e = .returned (.tuple #[]) ∧ ∃ M, Numbered l src n M0 M ∧ MIs w' b M ∧ w.grownBy w' (some b)
theorem one_row (w : World) (base : Nat) (hb : base ≤ w.heap.size) (a b : Value) (t : TypeId) : (w.alloc (.cells #[a, b] t)).ownsRow base t 2 (.slice (some ⟨w.heap.size, 0, none⟩) 1 1) 1 [a, b] :=
  ⟨rfl, .inr ⟨_, _, _, rfl, hb, heap_alloc_new _ _, Nat.le_refl _, by unfold maxLen; omega, rfl, rfl⟩⟩

def numRel (l : List Ck.Bar) (src : Ck.Knot) (n : Int) (M0 : List (Ck.Knot × Int)) (b : Nat) (w : World) (g : Nat) (v : Value) (wi : World) : Prop :=
  ∃ V S M, g = 2 * ((Ck.ends l).length - V.length) + S.length ∧ Fl l M0 src n M V S none 0 ∧ wi.ownsRow w.heap.size 23 2 v S.length (kcellsL S) ∧ MIs wi b M ∧ w.grownBy wi (some b)

theorem end_range {l : List Ck.Bar} (hok : ∀ x ∈ l, Ck.okBar x) {k : Ck.Knot} (h : k ∈ Ck.ends l) : -100000 ≤ k.x ∧ k.x ≤ 100000 ∧ -100000 ≤ k.y ∧ k.y ≤ 100000 := by
  obtain ⟨b, hb, h⟩ := Ck.mem_ends.1 h
  obtain ⟨⟨h1, h2, _⟩, _, h4, h5⟩ := hok b hb
  rcases h with rfl | rfl
  · exact ⟨h1.1, h1.2, h2.1, h2.2⟩
  · exact ⟨h4.1, h4.2, h5.1, h5.2⟩
def numIn (l : List Ck.Bar) (src : Ck.Knot) (n : Int) (M0 : List (Ck.Knot × Int)) (b : Nat) (w : World) (k : Ck.Knot) (B G : Nat) (g : Nat) (v i : Value) (wi : World) : Prop :=
  ∃ j V S M, g = 4 - j ∧ j ≤ 4 ∧ i = .int .i64 (j : Nat) ∧ Fl l M0 src n M V S (some k) j ∧ wi.ownsRow w.heap.size 23 2 v S.length (kcellsL S) ∧ v.ownBlock ≠ some B ∧ MIs wi b M ∧ w.grownBy wi (some b) ∧
    wi.cell? ⟨B, 0, none⟩ = some (.int .i64 k.x) ∧ wi.cell? ⟨B, 1, none⟩ = some (.int .i64 k.y) ∧ B < wi.heap.size ∧ 2 * ((Ck.ends l).length - V.length) + S.length < G
theorem meas_push {N v s G : Nat} (h : 2 * (N - v) + s < G) (hv : v + 1 ≤ N) : 2 * (N - (v + 1)) + (s + 1) < G := by omega

set_option maxHeartbeats 4000000 in
set_option maxRecDepth 100000 in
theorem netNumberFrom (A : Option Addr) (c b : Nat) (l : List Ck.Bar) (src : Ck.Knot) (n : Int) (M0 : List (Ck.Knot × Int)) (w : World) (hl : l.length ≤ 4096) (hs : l.Pairwise Ck.Blt) (hok : ∀ x ∈ l, Ck.okBar x) (h : RB w w.heap.size A l)
    (hsrc : src ∈ Ck.ends l) (hn : 0 < n) (hn2 : n ≤ 10000) (h0 : mget M0 src = 0) (hcl : Closed l M0) (hM : MIs w b M0) :
    Calls Tryz.prog 53 #[.slice A l.length c, .agg #[.int .i64 src.x, .int .i64 src.y], .map (some b), .int .i64 n] w (NumPost l src n M0 b w) := by
  obtain ⟨i0, hi, hz0, hz1, hz2⟩ := info_parts Tryz.info23
  have HS := Lib.hid hs
  have HR := Lib.hid h
  have HI := Lib.hid hi
  have HZ0 := Lib.hid hz0
  have HZ1 := Lib.hid hz1
  have HZ2 := Lib.hid hz2
  have H0 := Lib.hid h0
  have HCL := Lib.hid hcl
  have HOK := Lib.hid hok
  have HM := Lib.hid hM
  have hlt := hM.lt
  clear hs h hi hz0 hz1 hz2 h0 hcl hok hM
  go_enter Tryz.func53, Tryz.ntmps53
  obtain ⟨w1, hw1, c0, c1, hb1, hz1⟩ := box2 w (.int .i64 src.x) (.int .i64 src.y) 23
  have HW := Lib.hid hw1
  clear hw1
  go_wp2_with (at_mapUpdate; refine wpList_mapUpdate_kn _ rfl _ _ _ rfl b M0 (by exact HM.out.below ((Below.refl _ _).alloc (Nat.le_refl _) _) hlt) src n rfl rfl rfl ?_; intro w2 hm2 hg2; rw [← HW.out] at hg2; have e0 : w2.cell? ⟨w.heap.size, 0, none⟩ = some (.int .i64 src.x) := (World.cell?_of_block (hg2.block w.heap.size hz1 (fun e => by cases e; omega))).trans c0; have e1 : w2.cell? ⟨w.heap.size, 1, none⟩ = some (.int .i64 src.y) := (World.cell?_of_block (hg2.block w.heap.size hz1 (fun e => by cases e; omega))).trans c1)
  have hgw : w.grownBy w2 (some b) := (gb_of_below hb1).trans hg2
  have HST := Lib.hid (Fl.start (l := l) (M0 := M0) (n := n) hsrc)
  have HEL := Lib.hid (ends_length l)
  go_loopg [8, 9, 11, 12] (2 * ((Ck.ends l).length - 1) + 1) (fun g v _ _ _ wi => numRel l src n M0 b w g v wi)
  case atStart => exact ⟨[src], [src], _, rfl, HST.out, one_row _ _ (by have := hgw.size; omega) _ _ _, hm2.below ((Below.refl _ _).alloc (Nat.le_refl _) _) hm2.lt, gb_below hgw ((Below.refl _ _).alloc (Nat.le_refl _) _)⟩
  case round =>
    obtain ⟨V, S, M, hg, hfl, hown, hmi, hgi⟩ := hrel
    have HG := Lib.hid hg
    have HFL := Lib.hid hfl
    have HOW := Lib.hid hown
    clear hg hfl hown
    rcases List.eq_nil_or_concat S with rfl | ⟨S', k, hSk⟩
    · have HRES := Lib.hid (HFL.out.result (fun x hx => (HOK.out x hx).2.1))
      rw [show ([] : List Ck.Knot).length = 0 from rfl] at HOW
      have hv : u8 = .slice none 0 0 ∨ ∃ g cap, u8 = .slice (some ⟨g, 0, none⟩) 0 cap := by
        rcases HOW.out.2 with ⟨h, _⟩ | ⟨g, cap, _, h, _⟩
        · exact .inl h
        · exact .inr ⟨g, cap, h⟩
      have HGI := Lib.hid hgi
      rcases hv with rfl | ⟨g, cap, rfl⟩
      all_goals
        go_wp2
        go_end0
        exact ⟨rfl, M, HRES.out, hmi, HGI.out⟩
    · rw [List.concat_eq_append] at hSk
      subst hSk
      have hle := (HFL.out.stack)
      have hbd := HFL.out.bound
      rw [HEL.out] at hbd
      simp only [List.length_append, List.length_cons, List.length_nil, Nat.zero_add] at hle
      rw [show (S' ++ [k]).length = S'.length + 1 from by simp] at HOW
      obtain ⟨g, cap, rfl, hbg, hcap1, hcap2, hgs⟩ := own_form HOW.out (by omega)
      obtain ⟨t0, t1⟩ := top_cells HOW.out
      unfold maxLen at hcap2
      have hk1 := HFL.out.ends k (HFL.out.sub k (by simp))
      have hi0 : (0 : Int) ≤ (S'.length : Int) := by omega
      have hi1 : (S'.length : Int) < (S'.length : Int) + 1 := by omega
      have hi2 : (S'.length : Int) ≤ (cap : Int) := by omega
      obtain ⟨kx1, kx2, ky1, ky2⟩ := end_range HOK.out hk1
      have hgz := hgi.size
      have hgb : g ≠ b := by omega
      obtain ⟨wo, rfl⟩ : ∃ wo : World, wo = wr := ⟨_, rfl⟩
      obtain ⟨w3, hw3, d0, d1, hb3, hz3⟩ := box2 wo (.int .i64 k.x) (.int .i64 k.y) 23
      have HW3 := Lib.hid hw3
      clear hw3
      go_wp2_with fail
      refine (netBarsAround k.x k.y _ (by omega) (by omega) (by omega) (by omega)).mono ?_
      rintro e w4 ⟨rfl, hb4⟩
      rw [← HW3.out] at hb4
      have hq4 : Below wo.heap.size wo w4 := hb3.trans (hb4.mono (by omega))
      have hz4 : wo.heap.size < w4.heap.size := Nat.lt_of_lt_of_le hz3 hb4.size
      have f0 := (hb4.cell (p := ⟨wo.heap.size, 0, none⟩) hz3).trans d0
      have f1 := (hb4.cell (p := ⟨wo.heap.size, 1, none⟩) hz3).trans d1
      have HO4 := Lib.hid (ownsRow_below (ownsRow_pop (kcellsL_length S') (by rw [← kcellsL_snoc]; exact HOW.out)) hq4)
      have hm4 := hmi.below hq4 hmi.lt
      have hg4 := gb_below hgi hq4
      have HP := Lib.hid HFL.out.pop
      clear t0 t1 d0 d1
      go_wp2_with fail
      go_loopg [8, 11, 12, 34] 4 (fun g' v _ _ i wi => numIn l src n M0 b w k wo.heap.size gk g' v i wi)
      case atStart =>
        refine ⟨0, V, S', M, rfl, by omega, rfl, HP.out, HO4.out, ?_, hm4, hg4, f0, f1, hz4, ?_⟩
        · intro e
          have e' : g = wo.heap.size := by injection e
          omega
        · rw [HG.out]; simp
      case round =>
        obtain ⟨j, V, S, M, hgk, hj, rfl, hfl, hown, hob, hmi, hgi, e0, e1, hBz, hme⟩ := hrel
        have HFL := Lib.hid hfl
        have HOW := Lib.hid hown
        have HOB := Lib.hid hob
        have HGK := Lib.hid hgk
        have HME := Lib.hid hme
        have hj' : j = 0 ∨ j = 1 ∨ j = 2 ∨ j = 3 ∨ j = 4 := by omega
        have hgz0 := hgz
        have hgz := hgi.size
        have HB := Lib.hid (((HR.out.grown HM.out (Nat.le_refl _) hgi).more hgi.size))
        clear hfl hown hob hgk hme
        rcases hj' with rfl | rfl | rfl | rfl | rfl
        · have hidx := ix0 (.int .i64 (k.x - 1)) (.int .i64 (k.y - 1)) (.int .i64 (1)) (.int .i64 (k.x + 1)) (.int .i64 (k.y - 1)) (.int .i64 (-1)) (.int .i64 (k.x)) (.int .i64 (k.y)) (.int .i64 (-1)) (.int .i64 (k.x)) (.int .i64 (k.y)) (.int .i64 (1))
          have HP := Lib.hid (show (nb k)[0]? = some ((⟨k.x - 1, k.y - 1, 1⟩ : Ck.Bar), (⟨k.x - 1, k.y - 1⟩ : Ck.Knot)) from rfl)
          by_cases hz : mget M (⟨k.x - 1, k.y - 1⟩ : Ck.Knot) = 0
          · have hzb : (mget M (⟨k.x - 1, k.y - 1⟩ : Ck.Knot) == 0) = true := by rw [hz]; rfl
            have HZ := Lib.hid hz
            clear hz
            cases hin : decide ((⟨k.x - 1, k.y - 1, 1⟩ : Ck.Bar) ∈ l)
            · have HIN := Lib.hid hin
              clear hin
              go_wp2_with fail
              refine (netOtherDown (k.x - 1) (k.y - 1) (1) k.x k.y _ (by omega)).mono ?_
              rintro e w5 ⟨rfl, hb5⟩
              have hq5 : Below wr.heap.size wr w5 := ((Below.refl _ _).alloc (Nat.le_refl _) _).trans (hb5.mono (by simp))
              have b0 : w5.cell? ⟨wr.heap.size, 0, none⟩ = some (.int .i64 (k.x - 1)) := by
                rw [hb5.cell (p := ⟨_, _, none⟩) (by simp), World.cell?_alloc_at _ _ _ _ (by simp)]; rfl
              have b1 : w5.cell? ⟨wr.heap.size, 1, none⟩ = some (.int .i64 (k.y - 1)) := by
                rw [hb5.cell (p := ⟨_, _, none⟩) (by simp), World.cell?_alloc_at _ _ _ _ (by simp)]; rfl
              have b2 : w5.cell? ⟨wr.heap.size, 2, none⟩ = some (.int .i64 (1)) := by
                rw [hb5.cell (p := ⟨_, _, none⟩) (by simp), World.cell?_alloc_at _ _ _ _ (by simp)]; rfl
              have hz5 : wr.heap.size < w5.heap.size := by have := hb5.size; simp at this; omega
              obtain ⟨w6, hw6, q0, q1, hb6, hz6⟩ := box2 w5 (.int .i64 (k.x - 1)) (.int .i64 (k.y - 1)) 23
              have HW6 := Lib.hid hw6
              clear hw6
              have hq6 : Below wr.heap.size wr w6 := hq5.trans (hb6.mono hq5.size)
              have hm6 := hmi.below hq6 hmi.lt
              go_wp2_with (at_lookup; refine wpList_lookup_kn _ rfl _ _ rfl b M (by rw [← HW6.out]; exact hm6) (⟨k.x - 1, k.y - 1⟩ : Ck.Knot) rfl rfl ?_)
              refine (netHasBar A c l _ _ _ _ hl HS.out (by rw [← HW6.out]; exact (HB.out.below hq6).more hq6.size)).mono ?_
              rintro e w7 ⟨rfl, hb7⟩
              rw [HIN.out]
              have hq7 : Below wr.heap.size wr w7 := hq6.trans ((HW6.out ▸ hb7).mono hq6.size)
              have hm7 := hmi.below hq7 hmi.lt
              go_wp2
              go_roundg (4 - (0 + 1))
              case measure => rw [HGK.out]; decide
              case rel => exact ⟨0 + 1, V, S, M, rfl, by omega, by go_num, HFL.out.skip HCL.out H0.out HP.out (fun h => by have := HIN.out; simp [h.2] at this), ownsRow_below HOW.out hq7, HOB.out, hm7, gb_below hgi hq7, (hq7.cell (p := ⟨_, _, none⟩) hBz).trans e0, (hq7.cell (p := ⟨_, _, none⟩) hBz).trans e1, Nat.lt_of_lt_of_le hBz hq7.size, HME.out⟩
            · have HIN := Lib.hid hin
              clear hin
              go_wp2_with fail
              refine (netOtherDown (k.x - 1) (k.y - 1) (1) k.x k.y _ (by omega)).mono ?_
              rintro e w5 ⟨rfl, hb5⟩
              have hq5 : Below wr.heap.size wr w5 := ((Below.refl _ _).alloc (Nat.le_refl _) _).trans (hb5.mono (by simp))
              have b0 : w5.cell? ⟨wr.heap.size, 0, none⟩ = some (.int .i64 (k.x - 1)) := by
                rw [hb5.cell (p := ⟨_, _, none⟩) (by simp), World.cell?_alloc_at _ _ _ _ (by simp)]; rfl
              have b1 : w5.cell? ⟨wr.heap.size, 1, none⟩ = some (.int .i64 (k.y - 1)) := by
                rw [hb5.cell (p := ⟨_, _, none⟩) (by simp), World.cell?_alloc_at _ _ _ _ (by simp)]; rfl
              have b2 : w5.cell? ⟨wr.heap.size, 2, none⟩ = some (.int .i64 (1)) := by
                rw [hb5.cell (p := ⟨_, _, none⟩) (by simp), World.cell?_alloc_at _ _ _ _ (by simp)]; rfl
              have hz5 : wr.heap.size < w5.heap.size := by have := hb5.size; simp at this; omega
              obtain ⟨w6, hw6, q0, q1, hb6, hz6⟩ := box2 w5 (.int .i64 (k.x - 1)) (.int .i64 (k.y - 1)) 23
              have HW6 := Lib.hid hw6
              clear hw6
              have hq6 : Below wr.heap.size wr w6 := hq5.trans (hb6.mono hq5.size)
              have hm6 := hmi.below hq6 hmi.lt
              go_wp2_with (at_lookup; refine wpList_lookup_kn _ rfl _ _ rfl b M (by rw [← HW6.out]; exact hm6) (⟨k.x - 1, k.y - 1⟩ : Ck.Knot) rfl rfl ?_)
              refine (netHasBar A c l _ _ _ _ hl HS.out (by rw [← HW6.out]; exact (HB.out.below hq6).more hq6.size)).mono ?_
              rintro e w7 ⟨rfl, hb7⟩
              rw [HIN.out]
              have hq7 : Below wr.heap.size wr w7 := hq6.trans ((HW6.out ▸ hb7).mono hq6.size)
              have hm7 := hmi.below hq7 hmi.lt
              have u0 : w7.cell? ⟨w5.heap.size, 0, none⟩ = some (.int .i64 (k.x - 1)) := ((HW6.out ▸ hb7).cell (p := ⟨_, _, none⟩) hz6).trans q0
              have u1 : w7.cell? ⟨w5.heap.size, 1, none⟩ = some (.int .i64 (k.y - 1)) := ((HW6.out ▸ hb7).cell (p := ⟨_, _, none⟩) hz6).trans q1
              have hz7 : w5.heap.size < w7.heap.size := Nat.lt_of_lt_of_le hz6 (HW6.out ▸ hb7).size
              have hbne : wo.heap.size ≠ b := by have := hgz0; omega
              have hst := HFL.out.stack
              have hbd := HFL.out.bound
              rw [HEL.out] at hbd
              go_wp2_with (first
                | (at_mapUpdate; go_loud (refine wpList_mapUpdate_kn _ rfl _ _ _ rfl b M hm7 (⟨k.x - 1, k.y - 1⟩ : Ck.Knot) n rfl rfl rfl ?_); intro w8 hm8 hg8; go_loud (have p0 : w8.cell? ⟨w5.heap.size, 0, none⟩ = some (.int .i64 (k.x - 1)) := (World.cell?_of_block (hg8.block _ hz7 (fun e => by have e2 : w5.heap.size = b := Option.some.inj e; omega))).trans u0); go_loud (have p1 : w8.cell? ⟨w5.heap.size, 1, none⟩ = some (.int .i64 (k.y - 1)) := (World.cell?_of_block (hg8.block _ hz7 (fun e => by have e2 : w5.heap.size = b := Option.some.inj e; omega))).trans u1); go_loud (have HO8 := Lib.hid ((ownsRow_below HOW.out hq7).kept hg8 (.inr (fun e => by have := ownsRow_base HOW.out b e; omega)))); have hg80 := hg8.size)
                | (at_builtin; refine wpList_append_own_at _ rfl _ _ 109 rfl w.heap.size 23 i0 (.agg #[.int .i64 0, .int .i64 0]) 2 16 Tryz.underlying109 HI.out HZ0.out HZ1.out HZ2.out rfl (by decide) _ _ _ rfl (HO8.out.alloc _) ⟨w8.heap.size, 0, none⟩ 1 1 [.int .i64 (k.x - 1), .int .i64 (k.y - 1)] rfl rfl (two_new _ _ _ _) ?c2 ?c3 ?c4 ?c5 ?_))
              case c2 => intro u hu; simp at hu; rcases hu with rfl | rfl <;> rfl
              case c3 => unfold maxLen; omega
              case c4 => omega
              case c5 => have := hq7.size; simp; omega
              intro v' w9 hown9 hgrow9 _ hblk9
              have hq8 : Below w8.heap.size w8 (w8.alloc (.cells #[.int .i64 (k.x - 1), .int .i64 (k.y - 1)] 23)) := (Below.refl _ _).alloc (Nat.le_refl _) _
              have hB7 : wo.heap.size < w7.heap.size := Nat.lt_of_lt_of_le hBz hq7.size
              have hB8 : wo.heap.size < w8.heap.size := Nat.lt_of_lt_of_le hB7 hg80
              have keepB : ∀ i, w9.cell? ⟨wo.heap.size, i, none⟩ = wr.cell? ⟨wo.heap.size, i, none⟩ := fun i =>
                (((World.cell?_of_block (hgrow9.block wo.heap.size (by simp; omega) (fun e => HOB.out e.symm))).trans (hq8.cell (p := ⟨_, i, none⟩) hB8)).trans (World.cell?_of_block (hg8.block wo.heap.size hB7 (fun e => hbne (by injection e))))).trans (hq7.cell (p := ⟨_, i, none⟩) hBz)
              have k0 := (keepB 0).trans e0
              have k1 := (keepB 1).trans e1
              have hm9 : MIs w9 b (mput M (⟨k.x - 1, k.y - 1⟩ : Ck.Knot) n) := (hm8.below hq8 hm8.lt).of_block (hgrow9.block b (by have := hm8.lt; simp; omega) (fun e => by have := ownsRow_base HOW.out b e.symm; omega))
              have hg9 : w.grownBy w9 (some b) := gb_row (gb_below ((gb_below hgi hq7).trans hg8) hq8) hgrow9 (ownsRow_base HOW.out)
              have hob9 : v'.ownBlock ≠ some wo.heap.size := by
                rcases hblk9 with h | h
                · rw [h]; exact HOB.out
                · rw [h]; intro e; have e' : w8.heap.size + 1 = wo.heap.size := Option.some.inj e; omega
              have hB9 : wo.heap.size < w9.heap.size := by have := hgrow9.size; simp at this; omega
              have HO9 := Lib.hid hown9
              have HPU := Lib.hid (HFL.out.push (by omega) HP.out HZ.out (of_decide_eq_true HIN.out))
              have hpb := HPU.out.bound
              have HME9 := Lib.hid (meas_push HME.out hpb)
              clear keepB hown9 hgrow9 hblk9 hg8 hpb hm8 hq8 p0 p1 u0 u1
              go_wp2
              go_roundg (4 - (0 + 1))
              case measure => rw [HGK.out]; decide
              case rel => exact ⟨0 + 1, (⟨k.x - 1, k.y - 1⟩ : Ck.Knot) :: V, S ++ [(⟨k.x - 1, k.y - 1⟩ : Ck.Knot)], mput M (⟨k.x - 1, k.y - 1⟩ : Ck.Knot) n, rfl, by omega, by go_num, HPU.out, by rw [kcellsL_snoc, List.length_append]; exact HO9.out, hob9, hm9, hg9, k0, k1, hB9, by rw [List.length_append]; exact HME9.out⟩
          · have hzb : (mget M (⟨k.x - 1, k.y - 1⟩ : Ck.Knot) == 0) = false := by simpa using hz
            have HZ := Lib.hid hz
            clear hz
            go_wp2_with fail
            refine (netOtherDown (k.x - 1) (k.y - 1) (1) k.x k.y _ (by omega)).mono ?_
            rintro e w5 ⟨rfl, hb5⟩
            have hq5 : Below wr.heap.size wr w5 := ((Below.refl _ _).alloc (Nat.le_refl _) _).trans (hb5.mono (by simp))
            have b0 : w5.cell? ⟨wr.heap.size, 0, none⟩ = some (.int .i64 (k.x - 1)) := by
              rw [hb5.cell (p := ⟨_, _, none⟩) (by simp), World.cell?_alloc_at _ _ _ _ (by simp)]; rfl
            have b1 : w5.cell? ⟨wr.heap.size, 1, none⟩ = some (.int .i64 (k.y - 1)) := by
              rw [hb5.cell (p := ⟨_, _, none⟩) (by simp), World.cell?_alloc_at _ _ _ _ (by simp)]; rfl
            have b2 : w5.cell? ⟨wr.heap.size, 2, none⟩ = some (.int .i64 (1)) := by
              rw [hb5.cell (p := ⟨_, _, none⟩) (by simp), World.cell?_alloc_at _ _ _ _ (by simp)]; rfl
            have hz5 : wr.heap.size < w5.heap.size := by have := hb5.size; simp at this; omega
            obtain ⟨w6, hw6, q0, q1, hb6, hz6⟩ := box2 w5 (.int .i64 (k.x - 1)) (.int .i64 (k.y - 1)) 23
            have HW6 := Lib.hid hw6
            clear hw6
            have hq6 : Below wr.heap.size wr w6 := hq5.trans (hb6.mono hq5.size)
            have hm6 := hmi.below hq6 hmi.lt
            go_wp2_with (at_lookup; refine wpList_lookup_kn _ rfl _ _ rfl b M (by rw [← HW6.out]; exact hm6) (⟨k.x - 1, k.y - 1⟩ : Ck.Knot) rfl rfl ?_)
            go_roundg (4 - (0 + 1))
            case measure => rw [HGK.out]; decide
            case rel => rw [← HW6.out]; exact ⟨0 + 1, V, S, M, rfl, by omega, by go_num, HFL.out.skip HCL.out H0.out HP.out (fun h => HZ.out h.1), ownsRow_below HOW.out hq6, HOB.out, hm6, gb_below hgi hq6, (hq6.cell (p := ⟨_, _, none⟩) hBz).trans e0, (hq6.cell (p := ⟨_, _, none⟩) hBz).trans e1, Nat.lt_of_lt_of_le hBz hq6.size, HME.out⟩
        · have hidx := ix1 (.int .i64 (k.x - 1)) (.int .i64 (k.y - 1)) (.int .i64 (1)) (.int .i64 (k.x + 1)) (.int .i64 (k.y - 1)) (.int .i64 (-1)) (.int .i64 (k.x)) (.int .i64 (k.y)) (.int .i64 (-1)) (.int .i64 (k.x)) (.int .i64 (k.y)) (.int .i64 (1))
          have HP := Lib.hid (show (nb k)[1]? = some ((⟨k.x + 1, k.y - 1, -1⟩ : Ck.Bar), (⟨k.x + 1, k.y - 1⟩ : Ck.Knot)) from rfl)
          by_cases hz : mget M (⟨k.x + 1, k.y - 1⟩ : Ck.Knot) = 0
          · have hzb : (mget M (⟨k.x + 1, k.y - 1⟩ : Ck.Knot) == 0) = true := by rw [hz]; rfl
            have HZ := Lib.hid hz
            clear hz
            cases hin : decide ((⟨k.x + 1, k.y - 1, -1⟩ : Ck.Bar) ∈ l)
            · have HIN := Lib.hid hin
              clear hin
              go_wp2_with fail
              refine (netOtherDown (k.x + 1) (k.y - 1) (-1) k.x k.y _ (by omega)).mono ?_
              rintro e w5 ⟨rfl, hb5⟩
              have hq5 : Below wr.heap.size wr w5 := ((Below.refl _ _).alloc (Nat.le_refl _) _).trans (hb5.mono (by simp))
              have b0 : w5.cell? ⟨wr.heap.size, 0, none⟩ = some (.int .i64 (k.x + 1)) := by
                rw [hb5.cell (p := ⟨_, _, none⟩) (by simp), World.cell?_alloc_at _ _ _ _ (by simp)]; rfl
              have b1 : w5.cell? ⟨wr.heap.size, 1, none⟩ = some (.int .i64 (k.y - 1)) := by
                rw [hb5.cell (p := ⟨_, _, none⟩) (by simp), World.cell?_alloc_at _ _ _ _ (by simp)]; rfl
              have b2 : w5.cell? ⟨wr.heap.size, 2, none⟩ = some (.int .i64 (-1)) := by
                rw [hb5.cell (p := ⟨_, _, none⟩) (by simp), World.cell?_alloc_at _ _ _ _ (by simp)]; rfl
              have hz5 : wr.heap.size < w5.heap.size := by have := hb5.size; simp at this; omega
              obtain ⟨w6, hw6, q0, q1, hb6, hz6⟩ := box2 w5 (.int .i64 (k.x + 1)) (.int .i64 (k.y - 1)) 23
              have HW6 := Lib.hid hw6
              clear hw6
              have hq6 : Below wr.heap.size wr w6 := hq5.trans (hb6.mono hq5.size)
              have hm6 := hmi.below hq6 hmi.lt
              go_wp2_with (at_lookup; refine wpList_lookup_kn _ rfl _ _ rfl b M (by rw [← HW6.out]; exact hm6) (⟨k.x + 1, k.y - 1⟩ : Ck.Knot) rfl rfl ?_)
              refine (netHasBar A c l _ _ _ _ hl HS.out (by rw [← HW6.out]; exact (HB.out.below hq6).more hq6.size)).mono ?_
              rintro e w7 ⟨rfl, hb7⟩
              rw [HIN.out]
              have hq7 : Below wr.heap.size wr w7 := hq6.trans ((HW6.out ▸ hb7).mono hq6.size)
              have hm7 := hmi.below hq7 hmi.lt
              go_wp2
              go_roundg (4 - (1 + 1))
              case measure => rw [HGK.out]; decide
              case rel => exact ⟨1 + 1, V, S, M, rfl, by omega, by go_num, HFL.out.skip HCL.out H0.out HP.out (fun h => by have := HIN.out; simp [h.2] at this), ownsRow_below HOW.out hq7, HOB.out, hm7, gb_below hgi hq7, (hq7.cell (p := ⟨_, _, none⟩) hBz).trans e0, (hq7.cell (p := ⟨_, _, none⟩) hBz).trans e1, Nat.lt_of_lt_of_le hBz hq7.size, HME.out⟩
            · have HIN := Lib.hid hin
              clear hin
              go_wp2_with fail
              refine (netOtherDown (k.x + 1) (k.y - 1) (-1) k.x k.y _ (by omega)).mono ?_
              rintro e w5 ⟨rfl, hb5⟩
              have hq5 : Below wr.heap.size wr w5 := ((Below.refl _ _).alloc (Nat.le_refl _) _).trans (hb5.mono (by simp))
              have b0 : w5.cell? ⟨wr.heap.size, 0, none⟩ = some (.int .i64 (k.x + 1)) := by
                rw [hb5.cell (p := ⟨_, _, none⟩) (by simp), World.cell?_alloc_at _ _ _ _ (by simp)]; rfl
              have b1 : w5.cell? ⟨wr.heap.size, 1, none⟩ = some (.int .i64 (k.y - 1)) := by
                rw [hb5.cell (p := ⟨_, _, none⟩) (by simp), World.cell?_alloc_at _ _ _ _ (by simp)]; rfl
              have b2 : w5.cell? ⟨wr.heap.size, 2, none⟩ = some (.int .i64 (-1)) := by
                rw [hb5.cell (p := ⟨_, _, none⟩) (by simp), World.cell?_alloc_at _ _ _ _ (by simp)]; rfl
              have hz5 : wr.heap.size < w5.heap.size := by have := hb5.size; simp at this; omega
              obtain ⟨w6, hw6, q0, q1, hb6, hz6⟩ := box2 w5 (.int .i64 (k.x + 1)) (.int .i64 (k.y - 1)) 23
              have HW6 := Lib.hid hw6
              clear hw6
              have hq6 : Below wr.heap.size wr w6 := hq5.trans (hb6.mono hq5.size)
              have hm6 := hmi.below hq6 hmi.lt
              go_wp2_with (at_lookup; refine wpList_lookup_kn _ rfl _ _ rfl b M (by rw [← HW6.out]; exact hm6) (⟨k.x + 1, k.y - 1⟩ : Ck.Knot) rfl rfl ?_)
              refine (netHasBar A c l _ _ _ _ hl HS.out (by rw [← HW6.out]; exact (HB.out.below hq6).more hq6.size)).mono ?_
              rintro e w7 ⟨rfl, hb7⟩
              rw [HIN.out]
              have hq7 : Below wr.heap.size wr w7 := hq6.trans ((HW6.out ▸ hb7).mono hq6.size)
              have hm7 := hmi.below hq7 hmi.lt
              have u0 : w7.cell? ⟨w5.heap.size, 0, none⟩ = some (.int .i64 (k.x + 1)) := ((HW6.out ▸ hb7).cell (p := ⟨_, _, none⟩) hz6).trans q0
              have u1 : w7.cell? ⟨w5.heap.size, 1, none⟩ = some (.int .i64 (k.y - 1)) := ((HW6.out ▸ hb7).cell (p := ⟨_, _, none⟩) hz6).trans q1
              have hz7 : w5.heap.size < w7.heap.size := Nat.lt_of_lt_of_le hz6 (HW6.out ▸ hb7).size
              have hbne : wo.heap.size ≠ b := by have := hgz0; omega
              have hst := HFL.out.stack
              have hbd := HFL.out.bound
              rw [HEL.out] at hbd
              go_wp2_with (first
                | (at_mapUpdate; go_loud (refine wpList_mapUpdate_kn _ rfl _ _ _ rfl b M hm7 (⟨k.x + 1, k.y - 1⟩ : Ck.Knot) n rfl rfl rfl ?_); intro w8 hm8 hg8; go_loud (have p0 : w8.cell? ⟨w5.heap.size, 0, none⟩ = some (.int .i64 (k.x + 1)) := (World.cell?_of_block (hg8.block _ hz7 (fun e => by have e2 : w5.heap.size = b := Option.some.inj e; omega))).trans u0); go_loud (have p1 : w8.cell? ⟨w5.heap.size, 1, none⟩ = some (.int .i64 (k.y - 1)) := (World.cell?_of_block (hg8.block _ hz7 (fun e => by have e2 : w5.heap.size = b := Option.some.inj e; omega))).trans u1); go_loud (have HO8 := Lib.hid ((ownsRow_below HOW.out hq7).kept hg8 (.inr (fun e => by have := ownsRow_base HOW.out b e; omega)))); have hg80 := hg8.size)
                | (at_builtin; refine wpList_append_own_at _ rfl _ _ 109 rfl w.heap.size 23 i0 (.agg #[.int .i64 0, .int .i64 0]) 2 16 Tryz.underlying109 HI.out HZ0.out HZ1.out HZ2.out rfl (by decide) _ _ _ rfl (HO8.out.alloc _) ⟨w8.heap.size, 0, none⟩ 1 1 [.int .i64 (k.x + 1), .int .i64 (k.y - 1)] rfl rfl (two_new _ _ _ _) ?c2 ?c3 ?c4 ?c5 ?_))
              case c2 => intro u hu; simp at hu; rcases hu with rfl | rfl <;> rfl
              case c3 => unfold maxLen; omega
              case c4 => omega
              case c5 => have := hq7.size; simp; omega
              intro v' w9 hown9 hgrow9 _ hblk9
              have hq8 : Below w8.heap.size w8 (w8.alloc (.cells #[.int .i64 (k.x + 1), .int .i64 (k.y - 1)] 23)) := (Below.refl _ _).alloc (Nat.le_refl _) _
              have hB7 : wo.heap.size < w7.heap.size := Nat.lt_of_lt_of_le hBz hq7.size
              have hB8 : wo.heap.size < w8.heap.size := Nat.lt_of_lt_of_le hB7 hg80
              have keepB : ∀ i, w9.cell? ⟨wo.heap.size, i, none⟩ = wr.cell? ⟨wo.heap.size, i, none⟩ := fun i =>
                (((World.cell?_of_block (hgrow9.block wo.heap.size (by simp; omega) (fun e => HOB.out e.symm))).trans (hq8.cell (p := ⟨_, i, none⟩) hB8)).trans (World.cell?_of_block (hg8.block wo.heap.size hB7 (fun e => hbne (by injection e))))).trans (hq7.cell (p := ⟨_, i, none⟩) hBz)
              have k0 := (keepB 0).trans e0
              have k1 := (keepB 1).trans e1
              have hm9 : MIs w9 b (mput M (⟨k.x + 1, k.y - 1⟩ : Ck.Knot) n) := (hm8.below hq8 hm8.lt).of_block (hgrow9.block b (by have := hm8.lt; simp; omega) (fun e => by have := ownsRow_base HOW.out b e.symm; omega))
              have hg9 : w.grownBy w9 (some b) := gb_row (gb_below ((gb_below hgi hq7).trans hg8) hq8) hgrow9 (ownsRow_base HOW.out)
              have hob9 : v'.ownBlock ≠ some wo.heap.size := by
                rcases hblk9 with h | h
                · rw [h]; exact HOB.out
                · rw [h]; intro e; have e' : w8.heap.size + 1 = wo.heap.size := Option.some.inj e; omega
              have hB9 : wo.heap.size < w9.heap.size := by have := hgrow9.size; simp at this; omega
              have HO9 := Lib.hid hown9
              have HPU := Lib.hid (HFL.out.push (by omega) HP.out HZ.out (of_decide_eq_true HIN.out))
              have hpb := HPU.out.bound
              have HME9 := Lib.hid (meas_push HME.out hpb)
              clear keepB hown9 hgrow9 hblk9 hg8 hpb hm8 hq8 p0 p1 u0 u1
              go_wp2
              go_roundg (4 - (1 + 1))
              case measure => rw [HGK.out]; decide
              case rel => exact ⟨1 + 1, (⟨k.x + 1, k.y - 1⟩ : Ck.Knot) :: V, S ++ [(⟨k.x + 1, k.y - 1⟩ : Ck.Knot)], mput M (⟨k.x + 1, k.y - 1⟩ : Ck.Knot) n, rfl, by omega, by go_num, HPU.out, by rw [kcellsL_snoc, List.length_append]; exact HO9.out, hob9, hm9, hg9, k0, k1, hB9, by rw [List.length_append]; exact HME9.out⟩
          · have hzb : (mget M (⟨k.x + 1, k.y - 1⟩ : Ck.Knot) == 0) = false := by simpa using hz
            have HZ := Lib.hid hz
            clear hz
            go_wp2_with fail
            refine (netOtherDown (k.x + 1) (k.y - 1) (-1) k.x k.y _ (by omega)).mono ?_
            rintro e w5 ⟨rfl, hb5⟩
            have hq5 : Below wr.heap.size wr w5 := ((Below.refl _ _).alloc (Nat.le_refl _) _).trans (hb5.mono (by simp))
            have b0 : w5.cell? ⟨wr.heap.size, 0, none⟩ = some (.int .i64 (k.x + 1)) := by
              rw [hb5.cell (p := ⟨_, _, none⟩) (by simp), World.cell?_alloc_at _ _ _ _ (by simp)]; rfl
            have b1 : w5.cell? ⟨wr.heap.size, 1, none⟩ = some (.int .i64 (k.y - 1)) := by
              rw [hb5.cell (p := ⟨_, _, none⟩) (by simp), World.cell?_alloc_at _ _ _ _ (by simp)]; rfl
            have b2 : w5.cell? ⟨wr.heap.size, 2, none⟩ = some (.int .i64 (-1)) := by
              rw [hb5.cell (p := ⟨_, _, none⟩) (by simp), World.cell?_alloc_at _ _ _ _ (by simp)]; rfl
            have hz5 : wr.heap.size < w5.heap.size := by have := hb5.size; simp at this; omega
            obtain ⟨w6, hw6, q0, q1, hb6, hz6⟩ := box2 w5 (.int .i64 (k.x + 1)) (.int .i64 (k.y - 1)) 23
            have HW6 := Lib.hid hw6
            clear hw6
            have hq6 : Below wr.heap.size wr w6 := hq5.trans (hb6.mono hq5.size)
            have hm6 := hmi.below hq6 hmi.lt
            go_wp2_with (at_lookup; refine wpList_lookup_kn _ rfl _ _ rfl b M (by rw [← HW6.out]; exact hm6) (⟨k.x + 1, k.y - 1⟩ : Ck.Knot) rfl rfl ?_)
            go_roundg (4 - (1 + 1))
            case measure => rw [HGK.out]; decide
            case rel => rw [← HW6.out]; exact ⟨1 + 1, V, S, M, rfl, by omega, by go_num, HFL.out.skip HCL.out H0.out HP.out (fun h => HZ.out h.1), ownsRow_below HOW.out hq6, HOB.out, hm6, gb_below hgi hq6, (hq6.cell (p := ⟨_, _, none⟩) hBz).trans e0, (hq6.cell (p := ⟨_, _, none⟩) hBz).trans e1, Nat.lt_of_lt_of_le hBz hq6.size, HME.out⟩
        · have hidx := ix2 (.int .i64 (k.x - 1)) (.int .i64 (k.y - 1)) (.int .i64 (1)) (.int .i64 (k.x + 1)) (.int .i64 (k.y - 1)) (.int .i64 (-1)) (.int .i64 (k.x)) (.int .i64 (k.y)) (.int .i64 (-1)) (.int .i64 (k.x)) (.int .i64 (k.y)) (.int .i64 (1))
          have HP := Lib.hid (show (nb k)[2]? = some ((⟨k.x, k.y, -1⟩ : Ck.Bar), (⟨k.x - 1, k.y + 1⟩ : Ck.Knot)) from rfl)
          by_cases hz : mget M (⟨k.x - 1, k.y + 1⟩ : Ck.Knot) = 0
          · have hzb : (mget M (⟨k.x - 1, k.y + 1⟩ : Ck.Knot) == 0) = true := by rw [hz]; rfl
            have HZ := Lib.hid hz
            clear hz
            cases hin : decide ((⟨k.x, k.y, -1⟩ : Ck.Bar) ∈ l)
            · have HIN := Lib.hid hin
              clear hin
              go_wp2_with fail
              refine (netOtherUp k.x k.y (-1) _ kx1 kx2 ky1 ky2 (by decide) (by decide)).mono ?_
              rintro e w5 ⟨rfl, hb5⟩
              rw [show k.x + -1 = k.x - 1 from by omega]
              have hq5 : Below wr.heap.size wr w5 := ((Below.refl _ _).alloc (Nat.le_refl _) _).trans (hb5.mono (by simp))
              have b0 : w5.cell? ⟨wr.heap.size, 0, none⟩ = some (.int .i64 (k.x)) := by
                rw [hb5.cell (p := ⟨_, _, none⟩) (by simp), World.cell?_alloc_at _ _ _ _ (by simp)]; rfl
              have b1 : w5.cell? ⟨wr.heap.size, 1, none⟩ = some (.int .i64 (k.y)) := by
                rw [hb5.cell (p := ⟨_, _, none⟩) (by simp), World.cell?_alloc_at _ _ _ _ (by simp)]; rfl
              have b2 : w5.cell? ⟨wr.heap.size, 2, none⟩ = some (.int .i64 (-1)) := by
                rw [hb5.cell (p := ⟨_, _, none⟩) (by simp), World.cell?_alloc_at _ _ _ _ (by simp)]; rfl
              have hz5 : wr.heap.size < w5.heap.size := by have := hb5.size; simp at this; omega
              obtain ⟨w6, hw6, q0, q1, hb6, hz6⟩ := box2 w5 (.int .i64 (k.x - 1)) (.int .i64 (k.y + 1)) 23
              have HW6 := Lib.hid hw6
              clear hw6
              have hq6 : Below wr.heap.size wr w6 := hq5.trans (hb6.mono hq5.size)
              have hm6 := hmi.below hq6 hmi.lt
              go_wp2_with (at_lookup; refine wpList_lookup_kn _ rfl _ _ rfl b M (by rw [← HW6.out]; exact hm6) (⟨k.x - 1, k.y + 1⟩ : Ck.Knot) rfl rfl ?_)
              refine (netHasBar A c l _ _ _ _ hl HS.out (by rw [← HW6.out]; exact (HB.out.below hq6).more hq6.size)).mono ?_
              rintro e w7 ⟨rfl, hb7⟩
              rw [HIN.out]
              have hq7 : Below wr.heap.size wr w7 := hq6.trans ((HW6.out ▸ hb7).mono hq6.size)
              have hm7 := hmi.below hq7 hmi.lt
              go_wp2
              go_roundg (4 - (2 + 1))
              case measure => rw [HGK.out]; decide
              case rel => exact ⟨2 + 1, V, S, M, rfl, by omega, by go_num, HFL.out.skip HCL.out H0.out HP.out (fun h => by have := HIN.out; simp [h.2] at this), ownsRow_below HOW.out hq7, HOB.out, hm7, gb_below hgi hq7, (hq7.cell (p := ⟨_, _, none⟩) hBz).trans e0, (hq7.cell (p := ⟨_, _, none⟩) hBz).trans e1, Nat.lt_of_lt_of_le hBz hq7.size, HME.out⟩
            · have HIN := Lib.hid hin
              clear hin
              go_wp2_with fail
              refine (netOtherUp k.x k.y (-1) _ kx1 kx2 ky1 ky2 (by decide) (by decide)).mono ?_
              rintro e w5 ⟨rfl, hb5⟩
              rw [show k.x + -1 = k.x - 1 from by omega]
              have hq5 : Below wr.heap.size wr w5 := ((Below.refl _ _).alloc (Nat.le_refl _) _).trans (hb5.mono (by simp))
              have b0 : w5.cell? ⟨wr.heap.size, 0, none⟩ = some (.int .i64 (k.x)) := by
                rw [hb5.cell (p := ⟨_, _, none⟩) (by simp), World.cell?_alloc_at _ _ _ _ (by simp)]; rfl
              have b1 : w5.cell? ⟨wr.heap.size, 1, none⟩ = some (.int .i64 (k.y)) := by
                rw [hb5.cell (p := ⟨_, _, none⟩) (by simp), World.cell?_alloc_at _ _ _ _ (by simp)]; rfl
              have b2 : w5.cell? ⟨wr.heap.size, 2, none⟩ = some (.int .i64 (-1)) := by
                rw [hb5.cell (p := ⟨_, _, none⟩) (by simp), World.cell?_alloc_at _ _ _ _ (by simp)]; rfl
              have hz5 : wr.heap.size < w5.heap.size := by have := hb5.size; simp at this; omega
              obtain ⟨w6, hw6, q0, q1, hb6, hz6⟩ := box2 w5 (.int .i64 (k.x - 1)) (.int .i64 (k.y + 1)) 23
              have HW6 := Lib.hid hw6
              clear hw6
              have hq6 : Below wr.heap.size wr w6 := hq5.trans (hb6.mono hq5.size)
              have hm6 := hmi.below hq6 hmi.lt
              go_wp2_with (at_lookup; refine wpList_lookup_kn _ rfl _ _ rfl b M (by rw [← HW6.out]; exact hm6) (⟨k.x - 1, k.y + 1⟩ : Ck.Knot) rfl rfl ?_)
              refine (netHasBar A c l _ _ _ _ hl HS.out (by rw [← HW6.out]; exact (HB.out.below hq6).more hq6.size)).mono ?_
              rintro e w7 ⟨rfl, hb7⟩
              rw [HIN.out]
              have hq7 : Below wr.heap.size wr w7 := hq6.trans ((HW6.out ▸ hb7).mono hq6.size)
              have hm7 := hmi.below hq7 hmi.lt
              have u0 : w7.cell? ⟨w5.heap.size, 0, none⟩ = some (.int .i64 (k.x - 1)) := ((HW6.out ▸ hb7).cell (p := ⟨_, _, none⟩) hz6).trans q0
              have u1 : w7.cell? ⟨w5.heap.size, 1, none⟩ = some (.int .i64 (k.y + 1)) := ((HW6.out ▸ hb7).cell (p := ⟨_, _, none⟩) hz6).trans q1
              have hz7 : w5.heap.size < w7.heap.size := Nat.lt_of_lt_of_le hz6 (HW6.out ▸ hb7).size
              have hbne : wo.heap.size ≠ b := by have := hgz0; omega
              have hst := HFL.out.stack
              have hbd := HFL.out.bound
              rw [HEL.out] at hbd
              go_wp2_with (first
                | (at_mapUpdate; go_loud (refine wpList_mapUpdate_kn _ rfl _ _ _ rfl b M hm7 (⟨k.x - 1, k.y + 1⟩ : Ck.Knot) n rfl rfl rfl ?_); intro w8 hm8 hg8; go_loud (have p0 : w8.cell? ⟨w5.heap.size, 0, none⟩ = some (.int .i64 (k.x - 1)) := (World.cell?_of_block (hg8.block _ hz7 (fun e => by have e2 : w5.heap.size = b := Option.some.inj e; omega))).trans u0); go_loud (have p1 : w8.cell? ⟨w5.heap.size, 1, none⟩ = some (.int .i64 (k.y + 1)) := (World.cell?_of_block (hg8.block _ hz7 (fun e => by have e2 : w5.heap.size = b := Option.some.inj e; omega))).trans u1); go_loud (have HO8 := Lib.hid ((ownsRow_below HOW.out hq7).kept hg8 (.inr (fun e => by have := ownsRow_base HOW.out b e; omega)))); have hg80 := hg8.size)
                | (at_builtin; refine wpList_append_own_at _ rfl _ _ 109 rfl w.heap.size 23 i0 (.agg #[.int .i64 0, .int .i64 0]) 2 16 Tryz.underlying109 HI.out HZ0.out HZ1.out HZ2.out rfl (by decide) _ _ _ rfl (HO8.out.alloc _) ⟨w8.heap.size, 0, none⟩ 1 1 [.int .i64 (k.x - 1), .int .i64 (k.y + 1)] rfl rfl (two_new _ _ _ _) ?c2 ?c3 ?c4 ?c5 ?_))
              case c2 => intro u hu; simp at hu; rcases hu with rfl | rfl <;> rfl
              case c3 => unfold maxLen; omega
              case c4 => omega
              case c5 => have := hq7.size; simp; omega
              intro v' w9 hown9 hgrow9 _ hblk9
              have hq8 : Below w8.heap.size w8 (w8.alloc (.cells #[.int .i64 (k.x - 1), .int .i64 (k.y + 1)] 23)) := (Below.refl _ _).alloc (Nat.le_refl _) _
              have hB7 : wo.heap.size < w7.heap.size := Nat.lt_of_lt_of_le hBz hq7.size
              have hB8 : wo.heap.size < w8.heap.size := Nat.lt_of_lt_of_le hB7 hg80
              have keepB : ∀ i, w9.cell? ⟨wo.heap.size, i, none⟩ = wr.cell? ⟨wo.heap.size, i, none⟩ := fun i =>
                (((World.cell?_of_block (hgrow9.block wo.heap.size (by simp; omega) (fun e => HOB.out e.symm))).trans (hq8.cell (p := ⟨_, i, none⟩) hB8)).trans (World.cell?_of_block (hg8.block wo.heap.size hB7 (fun e => hbne (by injection e))))).trans (hq7.cell (p := ⟨_, i, none⟩) hBz)
              have k0 := (keepB 0).trans e0
              have k1 := (keepB 1).trans e1
              have hm9 : MIs w9 b (mput M (⟨k.x - 1, k.y + 1⟩ : Ck.Knot) n) := (hm8.below hq8 hm8.lt).of_block (hgrow9.block b (by have := hm8.lt; simp; omega) (fun e => by have := ownsRow_base HOW.out b e.symm; omega))
              have hg9 : w.grownBy w9 (some b) := gb_row (gb_below ((gb_below hgi hq7).trans hg8) hq8) hgrow9 (ownsRow_base HOW.out)
              have hob9 : v'.ownBlock ≠ some wo.heap.size := by
                rcases hblk9 with h | h
                · rw [h]; exact HOB.out
                · rw [h]; intro e; have e' : w8.heap.size + 1 = wo.heap.size := Option.some.inj e; omega
              have hB9 : wo.heap.size < w9.heap.size := by have := hgrow9.size; simp at this; omega
              have HO9 := Lib.hid hown9
              have HPU := Lib.hid (HFL.out.push (by omega) HP.out HZ.out (of_decide_eq_true HIN.out))
              have hpb := HPU.out.bound
              have HME9 := Lib.hid (meas_push HME.out hpb)
              clear keepB hown9 hgrow9 hblk9 hg8 hpb hm8 hq8 p0 p1 u0 u1
              go_wp2
              go_roundg (4 - (2 + 1))
              case measure => rw [HGK.out]; decide
              case rel => exact ⟨2 + 1, (⟨k.x - 1, k.y + 1⟩ : Ck.Knot) :: V, S ++ [(⟨k.x - 1, k.y + 1⟩ : Ck.Knot)], mput M (⟨k.x - 1, k.y + 1⟩ : Ck.Knot) n, rfl, by omega, by go_num, HPU.out, by rw [kcellsL_snoc, List.length_append]; exact HO9.out, hob9, hm9, hg9, k0, k1, hB9, by rw [List.length_append]; exact HME9.out⟩
          · have hzb : (mget M (⟨k.x - 1, k.y + 1⟩ : Ck.Knot) == 0) = false := by simpa using hz
            have HZ := Lib.hid hz
            clear hz
            go_wp2_with fail
            refine (netOtherUp k.x k.y (-1) _ kx1 kx2 ky1 ky2 (by decide) (by decide)).mono ?_
            rintro e w5 ⟨rfl, hb5⟩
            rw [show k.x + -1 = k.x - 1 from by omega]
            have hq5 : Below wr.heap.size wr w5 := ((Below.refl _ _).alloc (Nat.le_refl _) _).trans (hb5.mono (by simp))
            have b0 : w5.cell? ⟨wr.heap.size, 0, none⟩ = some (.int .i64 (k.x)) := by
              rw [hb5.cell (p := ⟨_, _, none⟩) (by simp), World.cell?_alloc_at _ _ _ _ (by simp)]; rfl
            have b1 : w5.cell? ⟨wr.heap.size, 1, none⟩ = some (.int .i64 (k.y)) := by
              rw [hb5.cell (p := ⟨_, _, none⟩) (by simp), World.cell?_alloc_at _ _ _ _ (by simp)]; rfl
            have b2 : w5.cell? ⟨wr.heap.size, 2, none⟩ = some (.int .i64 (-1)) := by
              rw [hb5.cell (p := ⟨_, _, none⟩) (by simp), World.cell?_alloc_at _ _ _ _ (by simp)]; rfl
            have hz5 : wr.heap.size < w5.heap.size := by have := hb5.size; simp at this; omega
            obtain ⟨w6, hw6, q0, q1, hb6, hz6⟩ := box2 w5 (.int .i64 (k.x - 1)) (.int .i64 (k.y + 1)) 23
            have HW6 := Lib.hid hw6
            clear hw6
            have hq6 : Below wr.heap.size wr w6 := hq5.trans (hb6.mono hq5.size)
            have hm6 := hmi.below hq6 hmi.lt
            go_wp2_with (at_lookup; refine wpList_lookup_kn _ rfl _ _ rfl b M (by rw [← HW6.out]; exact hm6) (⟨k.x - 1, k.y + 1⟩ : Ck.Knot) rfl rfl ?_)
            go_roundg (4 - (2 + 1))
            case measure => rw [HGK.out]; decide
            case rel => rw [← HW6.out]; exact ⟨2 + 1, V, S, M, rfl, by omega, by go_num, HFL.out.skip HCL.out H0.out HP.out (fun h => HZ.out h.1), ownsRow_below HOW.out hq6, HOB.out, hm6, gb_below hgi hq6, (hq6.cell (p := ⟨_, _, none⟩) hBz).trans e0, (hq6.cell (p := ⟨_, _, none⟩) hBz).trans e1, Nat.lt_of_lt_of_le hBz hq6.size, HME.out⟩
        · have hidx := ix3 (.int .i64 (k.x - 1)) (.int .i64 (k.y - 1)) (.int .i64 (1)) (.int .i64 (k.x + 1)) (.int .i64 (k.y - 1)) (.int .i64 (-1)) (.int .i64 (k.x)) (.int .i64 (k.y)) (.int .i64 (-1)) (.int .i64 (k.x)) (.int .i64 (k.y)) (.int .i64 (1))
          have HP := Lib.hid (show (nb k)[3]? = some ((⟨k.x, k.y, 1⟩ : Ck.Bar), (⟨k.x + 1, k.y + 1⟩ : Ck.Knot)) from rfl)
          by_cases hz : mget M (⟨k.x + 1, k.y + 1⟩ : Ck.Knot) = 0
          · have hzb : (mget M (⟨k.x + 1, k.y + 1⟩ : Ck.Knot) == 0) = true := by rw [hz]; rfl
            have HZ := Lib.hid hz
            clear hz
            cases hin : decide ((⟨k.x, k.y, 1⟩ : Ck.Bar) ∈ l)
            · have HIN := Lib.hid hin
              clear hin
              go_wp2_with fail
              refine (netOtherUp k.x k.y (1) _ kx1 kx2 ky1 ky2 (by decide) (by decide)).mono ?_
              rintro e w5 ⟨rfl, hb5⟩
              have hq5 : Below wr.heap.size wr w5 := ((Below.refl _ _).alloc (Nat.le_refl _) _).trans (hb5.mono (by simp))
              have b0 : w5.cell? ⟨wr.heap.size, 0, none⟩ = some (.int .i64 (k.x)) := by
                rw [hb5.cell (p := ⟨_, _, none⟩) (by simp), World.cell?_alloc_at _ _ _ _ (by simp)]; rfl
              have b1 : w5.cell? ⟨wr.heap.size, 1, none⟩ = some (.int .i64 (k.y)) := by
                rw [hb5.cell (p := ⟨_, _, none⟩) (by simp), World.cell?_alloc_at _ _ _ _ (by simp)]; rfl
              have b2 : w5.cell? ⟨wr.heap.size, 2, none⟩ = some (.int .i64 (1)) := by
                rw [hb5.cell (p := ⟨_, _, none⟩) (by simp), World.cell?_alloc_at _ _ _ _ (by simp)]; rfl
              have hz5 : wr.heap.size < w5.heap.size := by have := hb5.size; simp at this; omega
              obtain ⟨w6, hw6, q0, q1, hb6, hz6⟩ := box2 w5 (.int .i64 (k.x + 1)) (.int .i64 (k.y + 1)) 23
              have HW6 := Lib.hid hw6
              clear hw6
              have hq6 : Below wr.heap.size wr w6 := hq5.trans (hb6.mono hq5.size)
              have hm6 := hmi.below hq6 hmi.lt
              go_wp2_with (at_lookup; refine wpList_lookup_kn _ rfl _ _ rfl b M (by rw [← HW6.out]; exact hm6) (⟨k.x + 1, k.y + 1⟩ : Ck.Knot) rfl rfl ?_)
              refine (netHasBar A c l _ _ _ _ hl HS.out (by rw [← HW6.out]; exact (HB.out.below hq6).more hq6.size)).mono ?_
              rintro e w7 ⟨rfl, hb7⟩
              rw [HIN.out]
              have hq7 : Below wr.heap.size wr w7 := hq6.trans ((HW6.out ▸ hb7).mono hq6.size)
              have hm7 := hmi.below hq7 hmi.lt
              go_wp2
              go_roundg (4 - (3 + 1))
              case measure => rw [HGK.out]; decide
              case rel => exact ⟨3 + 1, V, S, M, rfl, by omega, by go_num, HFL.out.skip HCL.out H0.out HP.out (fun h => by have := HIN.out; simp [h.2] at this), ownsRow_below HOW.out hq7, HOB.out, hm7, gb_below hgi hq7, (hq7.cell (p := ⟨_, _, none⟩) hBz).trans e0, (hq7.cell (p := ⟨_, _, none⟩) hBz).trans e1, Nat.lt_of_lt_of_le hBz hq7.size, HME.out⟩
            · have HIN := Lib.hid hin
              clear hin
              go_wp2_with fail
              refine (netOtherUp k.x k.y (1) _ kx1 kx2 ky1 ky2 (by decide) (by decide)).mono ?_
              rintro e w5 ⟨rfl, hb5⟩
              have hq5 : Below wr.heap.size wr w5 := ((Below.refl _ _).alloc (Nat.le_refl _) _).trans (hb5.mono (by simp))
              have b0 : w5.cell? ⟨wr.heap.size, 0, none⟩ = some (.int .i64 (k.x)) := by
                rw [hb5.cell (p := ⟨_, _, none⟩) (by simp), World.cell?_alloc_at _ _ _ _ (by simp)]; rfl
              have b1 : w5.cell? ⟨wr.heap.size, 1, none⟩ = some (.int .i64 (k.y)) := by
                rw [hb5.cell (p := ⟨_, _, none⟩) (by simp), World.cell?_alloc_at _ _ _ _ (by simp)]; rfl
              have b2 : w5.cell? ⟨wr.heap.size, 2, none⟩ = some (.int .i64 (1)) := by
                rw [hb5.cell (p := ⟨_, _, none⟩) (by simp), World.cell?_alloc_at _ _ _ _ (by simp)]; rfl
              have hz5 : wr.heap.size < w5.heap.size := by have := hb5.size; simp at this; omega
              obtain ⟨w6, hw6, q0, q1, hb6, hz6⟩ := box2 w5 (.int .i64 (k.x + 1)) (.int .i64 (k.y + 1)) 23
              have HW6 := Lib.hid hw6
              clear hw6
              have hq6 : Below wr.heap.size wr w6 := hq5.trans (hb6.mono hq5.size)
              have hm6 := hmi.below hq6 hmi.lt
              go_wp2_with (at_lookup; refine wpList_lookup_kn _ rfl _ _ rfl b M (by rw [← HW6.out]; exact hm6) (⟨k.x + 1, k.y + 1⟩ : Ck.Knot) rfl rfl ?_)
              refine (netHasBar A c l _ _ _ _ hl HS.out (by rw [← HW6.out]; exact (HB.out.below hq6).more hq6.size)).mono ?_
              rintro e w7 ⟨rfl, hb7⟩
              rw [HIN.out]
              have hq7 : Below wr.heap.size wr w7 := hq6.trans ((HW6.out ▸ hb7).mono hq6.size)
              have hm7 := hmi.below hq7 hmi.lt
              have u0 : w7.cell? ⟨w5.heap.size, 0, none⟩ = some (.int .i64 (k.x + 1)) := ((HW6.out ▸ hb7).cell (p := ⟨_, _, none⟩) hz6).trans q0
              have u1 : w7.cell? ⟨w5.heap.size, 1, none⟩ = some (.int .i64 (k.y + 1)) := ((HW6.out ▸ hb7).cell (p := ⟨_, _, none⟩) hz6).trans q1
              have hz7 : w5.heap.size < w7.heap.size := Nat.lt_of_lt_of_le hz6 (HW6.out ▸ hb7).size
              have hbne : wo.heap.size ≠ b := by have := hgz0; omega
              have hst := HFL.out.stack
              have hbd := HFL.out.bound
              rw [HEL.out] at hbd
              go_wp2_with (first
                | (at_mapUpdate; go_loud (refine wpList_mapUpdate_kn _ rfl _ _ _ rfl b M hm7 (⟨k.x + 1, k.y + 1⟩ : Ck.Knot) n rfl rfl rfl ?_); intro w8 hm8 hg8; go_loud (have p0 : w8.cell? ⟨w5.heap.size, 0, none⟩ = some (.int .i64 (k.x + 1)) := (World.cell?_of_block (hg8.block _ hz7 (fun e => by have e2 : w5.heap.size = b := Option.some.inj e; omega))).trans u0); go_loud (have p1 : w8.cell? ⟨w5.heap.size, 1, none⟩ = some (.int .i64 (k.y + 1)) := (World.cell?_of_block (hg8.block _ hz7 (fun e => by have e2 : w5.heap.size = b := Option.some.inj e; omega))).trans u1); go_loud (have HO8 := Lib.hid ((ownsRow_below HOW.out hq7).kept hg8 (.inr (fun e => by have := ownsRow_base HOW.out b e; omega)))); have hg80 := hg8.size)
                | (at_builtin; refine wpList_append_own_at _ rfl _ _ 109 rfl w.heap.size 23 i0 (.agg #[.int .i64 0, .int .i64 0]) 2 16 Tryz.underlying109 HI.out HZ0.out HZ1.out HZ2.out rfl (by decide) _ _ _ rfl (HO8.out.alloc _) ⟨w8.heap.size, 0, none⟩ 1 1 [.int .i64 (k.x + 1), .int .i64 (k.y + 1)] rfl rfl (two_new _ _ _ _) ?c2 ?c3 ?c4 ?c5 ?_))
              case c2 => intro u hu; simp at hu; rcases hu with rfl | rfl <;> rfl
              case c3 => unfold maxLen; omega
              case c4 => omega
              case c5 => have := hq7.size; simp; omega
              intro v' w9 hown9 hgrow9 _ hblk9
              have hq8 : Below w8.heap.size w8 (w8.alloc (.cells #[.int .i64 (k.x + 1), .int .i64 (k.y + 1)] 23)) := (Below.refl _ _).alloc (Nat.le_refl _) _
              have hB7 : wo.heap.size < w7.heap.size := Nat.lt_of_lt_of_le hBz hq7.size
              have hB8 : wo.heap.size < w8.heap.size := Nat.lt_of_lt_of_le hB7 hg80
              have keepB : ∀ i, w9.cell? ⟨wo.heap.size, i, none⟩ = wr.cell? ⟨wo.heap.size, i, none⟩ := fun i =>
                (((World.cell?_of_block (hgrow9.block wo.heap.size (by simp; omega) (fun e => HOB.out e.symm))).trans (hq8.cell (p := ⟨_, i, none⟩) hB8)).trans (World.cell?_of_block (hg8.block wo.heap.size hB7 (fun e => hbne (by injection e))))).trans (hq7.cell (p := ⟨_, i, none⟩) hBz)
              have k0 := (keepB 0).trans e0
              have k1 := (keepB 1).trans e1
              have hm9 : MIs w9 b (mput M (⟨k.x + 1, k.y + 1⟩ : Ck.Knot) n) := (hm8.below hq8 hm8.lt).of_block (hgrow9.block b (by have := hm8.lt; simp; omega) (fun e => by have := ownsRow_base HOW.out b e.symm; omega))
              have hg9 : w.grownBy w9 (some b) := gb_row (gb_below ((gb_below hgi hq7).trans hg8) hq8) hgrow9 (ownsRow_base HOW.out)
              have hob9 : v'.ownBlock ≠ some wo.heap.size := by
                rcases hblk9 with h | h
                · rw [h]; exact HOB.out
                · rw [h]; intro e; have e' : w8.heap.size + 1 = wo.heap.size := Option.some.inj e; omega
              have hB9 : wo.heap.size < w9.heap.size := by have := hgrow9.size; simp at this; omega
              have HO9 := Lib.hid hown9
              have HPU := Lib.hid (HFL.out.push (by omega) HP.out HZ.out (of_decide_eq_true HIN.out))
              have hpb := HPU.out.bound
              have HME9 := Lib.hid (meas_push HME.out hpb)
              clear keepB hown9 hgrow9 hblk9 hg8 hpb hm8 hq8 p0 p1 u0 u1
              go_wp2
              go_roundg (4 - (3 + 1))
              case measure => rw [HGK.out]; decide
              case rel => exact ⟨3 + 1, (⟨k.x + 1, k.y + 1⟩ : Ck.Knot) :: V, S ++ [(⟨k.x + 1, k.y + 1⟩ : Ck.Knot)], mput M (⟨k.x + 1, k.y + 1⟩ : Ck.Knot) n, rfl, by omega, by go_num, HPU.out, by rw [kcellsL_snoc, List.length_append]; exact HO9.out, hob9, hm9, hg9, k0, k1, hB9, by rw [List.length_append]; exact HME9.out⟩
          · have hzb : (mget M (⟨k.x + 1, k.y + 1⟩ : Ck.Knot) == 0) = false := by simpa using hz
            have HZ := Lib.hid hz
            clear hz
            go_wp2_with fail
            refine (netOtherUp k.x k.y (1) _ kx1 kx2 ky1 ky2 (by decide) (by decide)).mono ?_
            rintro e w5 ⟨rfl, hb5⟩
            have hq5 : Below wr.heap.size wr w5 := ((Below.refl _ _).alloc (Nat.le_refl _) _).trans (hb5.mono (by simp))
            have b0 : w5.cell? ⟨wr.heap.size, 0, none⟩ = some (.int .i64 (k.x)) := by
              rw [hb5.cell (p := ⟨_, _, none⟩) (by simp), World.cell?_alloc_at _ _ _ _ (by simp)]; rfl
            have b1 : w5.cell? ⟨wr.heap.size, 1, none⟩ = some (.int .i64 (k.y)) := by
              rw [hb5.cell (p := ⟨_, _, none⟩) (by simp), World.cell?_alloc_at _ _ _ _ (by simp)]; rfl
            have b2 : w5.cell? ⟨wr.heap.size, 2, none⟩ = some (.int .i64 (1)) := by
              rw [hb5.cell (p := ⟨_, _, none⟩) (by simp), World.cell?_alloc_at _ _ _ _ (by simp)]; rfl
            have hz5 : wr.heap.size < w5.heap.size := by have := hb5.size; simp at this; omega
            obtain ⟨w6, hw6, q0, q1, hb6, hz6⟩ := box2 w5 (.int .i64 (k.x + 1)) (.int .i64 (k.y + 1)) 23
            have HW6 := Lib.hid hw6
            clear hw6
            have hq6 : Below wr.heap.size wr w6 := hq5.trans (hb6.mono hq5.size)
            have hm6 := hmi.below hq6 hmi.lt
            go_wp2_with (at_lookup; refine wpList_lookup_kn _ rfl _ _ rfl b M (by rw [← HW6.out]; exact hm6) (⟨k.x + 1, k.y + 1⟩ : Ck.Knot) rfl rfl ?_)
            go_roundg (4 - (3 + 1))
            case measure => rw [HGK.out]; decide
            case rel => rw [← HW6.out]; exact ⟨3 + 1, V, S, M, rfl, by omega, by go_num, HFL.out.skip HCL.out H0.out HP.out (fun h => HZ.out h.1), ownsRow_below HOW.out hq6, HOB.out, hm6, gb_below hgi hq6, (hq6.cell (p := ⟨_, _, none⟩) hBz).trans e0, (hq6.cell (p := ⟨_, _, none⟩) hBz).trans e1, Nat.lt_of_lt_of_le hBz hq6.size, HME.out⟩
        · go_wp2
          go_roundg (2 * ((Ck.ends l).length - V.length) + S.length)
          case measure => exact HME.out
          case rel => exact ⟨V, S, M, rfl, HFL.out.done, HOW.out, hmi, hgi⟩
end Go.Proofs.YthihjphcjjpjpaaGreat

/- Plain mathematics of the parts: what holds of the numbers after some bars have been gone through. -/
namespace Go.Proofs.YthihjphcjjpjpaaGreat
open Ck

structure Pt (l : List Bar) (i : Nat) (count : Nat) (M : List (Knot × Int)) : Prop where
  num : ∀ k, mget M k ≠ 0 ↔ ∃ b ∈ l.take i, Conn l b.lo k
  lo : ∀ k, 0 ≤ mget M k
  hi : ∀ k, mget M k ≤ count
  le : count ≤ i
  cnt : ∀ n, CntIs l ((l.take i).map Bar.lo).reverse (l.drop i) n → CntIs l [] l (count + n)
theorem Pt.start (l : List Bar) : Pt l 0 0 [] where
  num k := by simp [mget]
  lo k := by simp [mget]
  hi k := by simp [mget]
  le := Nat.le_refl _
  cnt n h := by simpa using h
theorem Pt.closed {l : List Bar} {i count : Nat} {M : List (Knot × Int)} (h : Pt l i count M) : Closed l M := fun b hb k m ha hk => by
  obtain ⟨c, hc, hcc⟩ := (h.num k).1 hk
  exact (h.num m).2 ⟨c, hc, hcc.trans (.one hb ha)⟩
theorem mem_take_succ {l : List Bar} {i : Nat} (hi : i < l.length) {b : Bar} : b ∈ l.take (i + 1) ↔ b ∈ l.take i ∨ b = l[i] := by
  rw [List.take_succ_eq_append_getElem hi, List.mem_append, List.mem_singleton]
theorem seen_iff {l : List Bar} {i : Nat} {k : Knot} : (∃ s ∈ ((l.take i).map Bar.lo).reverse, Conn l s k) ↔ ∃ b ∈ l.take i, Conn l b.lo k := by
  constructor
  · rintro ⟨s, hs, h⟩
    rw [List.mem_reverse, List.mem_map] at hs
    obtain ⟨b, hb, rfl⟩ := hs
    exact ⟨b, hb, h⟩
  · rintro ⟨b, hb, h⟩
    exact ⟨b.lo, by rw [List.mem_reverse, List.mem_map]; exact ⟨b, hb, rfl⟩, h⟩
theorem seen_succ {l : List Bar} {i : Nat} (hi : i < l.length) : ((l.take (i + 1)).map Bar.lo).reverse = l[i].lo :: ((l.take i).map Bar.lo).reverse := by
  rw [List.take_succ_eq_append_getElem hi, List.map_append, List.reverse_append]
  rfl
theorem Pt.old {l : List Bar} {i count : Nat} {M : List (Knot × Int)} (h : Pt l i count M) (hi : i < l.length) (hz : ¬ mget M l[i].lo = 0) : Pt l (i + 1) count M where
  num k := by
    rw [h.num]
    constructor
    · rintro ⟨b, hb, hc⟩
      exact ⟨b, (mem_take_succ hi).2 (.inl hb), hc⟩
    · rintro ⟨b, hb, hc⟩
      rcases (mem_take_succ hi).1 hb with hb | hb
      · exact ⟨b, hb, hc⟩
      · subst hb
        obtain ⟨c, hc2, hcc⟩ := (h.num _).1 hz
        exact ⟨c, hc2, hcc.trans hc⟩
  lo := h.lo
  hi := h.hi
  le := Nat.le_succ_of_le h.le
  cnt n hn := h.cnt n (by
    rw [List.drop_eq_getElem_cons hi]
    exact .old (seen_iff.2 ((h.num _).1 hz)) (by rw [seen_succ hi] at hn; exact hn))
theorem Pt.fresh {l : List Bar} {i count : Nat} {M M' : List (Knot × Int)} (h : Pt l i count M) (hi : i < l.length) (hz : mget M l[i].lo = 0)
    (h1 : ∀ k, Conn l l[i].lo k → mget M' k = ((count + 1 : Nat) : Int)) (h2 : ∀ k, ¬ Conn l l[i].lo k → mget M' k = mget M k) : Pt l (i + 1) (count + 1) M' where
  num k := by
    by_cases hc : Conn l l[i].lo k
    · rw [h1 k hc]
      refine ⟨fun _ => ⟨l[i], (mem_take_succ hi).2 (.inr rfl), hc⟩, fun _ => by omega⟩
    · rw [h2 k hc, h.num]
      constructor
      · rintro ⟨b, hb, hcc⟩
        exact ⟨b, (mem_take_succ hi).2 (.inl hb), hcc⟩
      · rintro ⟨b, hb, hcc⟩
        rcases (mem_take_succ hi).1 hb with hb | hb
        · exact ⟨b, hb, hcc⟩
        · subst hb
          exact absurd hcc hc
  lo k := by
    by_cases hc : Conn l l[i].lo k
    · rw [h1 k hc]; omega
    · rw [h2 k hc]; exact h.lo k
  hi k := by
    by_cases hc : Conn l l[i].lo k
    · rw [h1 k hc]; omega
    · rw [h2 k hc]; have := h.hi k; omega
  le := Nat.succ_le_succ h.le
  cnt n hn := by
    rw [show count + 1 + n = count + (n + 1) from by omega]
    refine h.cnt (n + 1) ?_
    rw [List.drop_eq_getElem_cons hi]
    exact .fresh (fun e => (h.num _).2 (seen_iff.1 e) hz) (by rw [seen_succ hi] at hn; exact hn)
theorem Pt.done {l : List Bar} {count : Nat} {M : List (Knot × Int)} (h : Pt l l.length count M) : PartsIs l count := by
  have := h.cnt 0 (by rw [List.drop_length]; exact .nil _)
  exact this
theorem Pt.pos {l : List Bar} {count : Nat} {M : List (Knot × Int)} (h : Pt l l.length count M) {b : Bar} (hb : b ∈ l) : 0 < mget M b.lo ∧ mget M b.lo ≤ count := by
  have h1 := (h.num b.lo).2 ⟨b, by rw [List.take_length]; exact hb, .refl _⟩
  have h2 := h.lo b.lo
  exact ⟨by omega, h.hi _⟩
end Go.Proofs.YthihjphcjjpjpaaGreat

/- A slice of slices of bars that the call itself fills: its block, and the rows that it owns. -/
namespace Go.Proofs.YthihjphcjjpjpaaGreat
open Go.RowKit

structure Heads (W : World) (base P n K : Nat) (cur : Array Value) : Prop where
  blk : W.heap[P]? = some (.cells cur 29 (0, 0))
  size : cur.size = n
  own : ∀ j (h : j < cur.size), ∃ m xs, W.ownsRow base 52 3 cur[j] m xs ∧ m ≤ K
  apart : ∀ j j' (h : j < cur.size) (h' : j' < cur.size), j ≠ j' → cur[j].ownBlock = none ∨ cur[j].ownBlock ≠ cur[j'].ownBlock
theorem Heads.lt {W : World} {base P n K : Nat} {cur : Array Value} (h : Heads W base P n K cur) : P < W.heap.size := (Array.getElem?_eq_some_iff.1 h.blk).1
theorem Heads.cell {W : World} {base P n K : Nat} {cur : Array Value} (h : Heads W base P n K cur) {q : Nat} (hq : q < cur.size) : W.cell? ⟨P, q, none⟩ = some cur[q] := by
  simp [World.cell?, h.blk, Array.getElem?_eq_getElem hq]
theorem Heads.frozen {W : World} {base P n K : Nat} {cur : Array Value} (h : Heads W base P n K cur) (q : Nat) : W.frozen? ⟨P, q, none⟩ = false := by
  simp [World.frozen?, h.blk]
theorem own_block_ne {W : World} {base P : Nat} {e t : TypeId} {size n : Nat} {v : Value} {xs : List Value} {cur : Array Value} (h : W.ownsRow base e size v n xs) (hb : W.heap[P]? = some (.cells cur t (0, 0))) (hne : e ≠ t) : v.ownBlock ≠ some P := by
  intro he
  rcases h.2 with ⟨rfl, _⟩ | ⟨g, cap, c, rfl, _, hh, _⟩
  · cases he
  · have : g = P := by injection he
    subst this
    rw [hh] at hb
    injection hb with hb
    injection hb with _ ht
    exact hne ht
theorem own_map_ne {W : World} {base b : Nat} {e : TypeId} {size n : Nat} {v : Value} {xs : List Value} {m : List (Ck.Knot × Int)} (h : W.ownsRow base e size v n xs) (hb : MIs W b m) : v.ownBlock ≠ some b := by
  intro he
  obtain ⟨es, clock, h1, _⟩ := hb
  rcases h.2 with ⟨rfl, _⟩ | ⟨g, cap, c, rfl, _, hh, _⟩
  · cases he
  · have : g = b := by injection he
    subst this
    rw [hh] at h1
    cases h1
theorem own_lt {W : World} {base : Nat} {e : TypeId} {size n g : Nat} {v : Value} {xs : List Value} (h : W.ownsRow base e size v n xs) (hb : v.ownBlock = some g) : g < W.heap.size := by
  rcases h.2 with ⟨rfl, _⟩ | ⟨g', cap, c, rfl, _, hh, _⟩
  · cases hb
  · have : g' = g := by injection hb
    subst this
    exact (Array.getElem?_eq_some_iff.1 hh).1
theorem Heads.below {W W' : World} {base P n K : Nat} {cur : Array Value} (h : Heads W base P n K cur) (hb : Below W.heap.size W W') : Heads W' base P n K cur where
  blk := (hb.block P h.lt).trans h.blk
  size := h.size
  own j hj := by
    obtain ⟨m, xs, h1, h2⟩ := h.own j hj
    exact ⟨m, xs, ownsRow_below h1 hb, h2⟩
  apart := h.apart
theorem setCell_grown (W : World) (P q : Nat) (v : Value) : W.grownBy (W.setCell ⟨P, q, none⟩ v) (some P) :=
  ⟨rfl, rfl, rfl, by simp [World.setCell], fun i _ hi => Below.heap_setCell _ _ _ _ (fun e => hi (by rw [e]))⟩
theorem Heads.step {W W1 W2 : World} {base P n K q m g cap : Nat} {cur : Array Value} {xs' : List Value} (h : Heads W base P n K cur) (hW : Below W.heap.size W W1) (hq : q < cur.size)
    (hown : W2.ownsRow base 52 3 (.slice (some ⟨g, 0, none⟩) m cap) m xs') (hm : m ≤ K + 1) (hg : W1.grownBy W2 cur[q].ownBlock) (hblk : cur[q].ownBlock = some g ∨ g = W1.heap.size) :
    Heads (W2.setCell ⟨P, q, none⟩ (.slice (some ⟨g, 0, none⟩) m cap)) base P n (K + 1) (cur.set q (.slice (some ⟨g, 0, none⟩) m cap)) := by
  have hT : (52 : Nat) ≠ 29 := by decide
  have h1 := h.below hW
  obtain ⟨mq, xq, oq, _⟩ := h1.own q hq
  have hPne := own_block_ne oq h1.blk hT
  have hP2 : W2.heap[P]? = some (.cells cur 29 (0, 0)) := (hg.block P h1.lt (fun e => hPne e.symm)).trans h1.blk
  have hs := setCell_grown W2 P q (.slice (some ⟨g, 0, none⟩) m cap)
  have hgne : (Value.slice (some ⟨g, 0, none⟩) m cap).ownBlock ≠ some P := own_block_ne hown hP2 hT
  have hold : ∀ j (hj : j < cur.size) (hjq : j ≠ q), ∃ m xs, W2.ownsRow base 52 3 cur[j] m xs ∧ m ≤ K := fun j hj hjq => by
    obtain ⟨mj, xj, oj, hmj⟩ := h1.own j hj
    exact ⟨mj, xj, oj.kept hg (h.apart j q hj hq hjq), hmj⟩
  refine ⟨?_, by rw [Array.size_set, h.size], fun j hj => ?_, fun j j' hj hj' hne => ?_⟩
  · simp only [World.setCell, Array.getElem?_modify, hP2]
    simp [Array.setIfInBounds, hq]
  · rw [Array.size_set] at hj
    by_cases hjq : q = j
    · subst hjq
      rw [Array.getElem_set_self]
      exact ⟨m, xs', hown.kept hs (.inr hgne), hm⟩
    · rw [Array.getElem_set_ne _ hj hjq]
      obtain ⟨mj, xj, oj, hmj⟩ := hold j hj (fun e => hjq e.symm)
      exact ⟨mj, xj, oj.kept hs (.inr (own_block_ne oj hP2 hT)), by omega⟩
  · rw [Array.size_set] at hj hj'
    have other : ∀ i (hi : i < cur.size), i ≠ q → cur[i].ownBlock = none ∨ cur[i].ownBlock ≠ some g := fun i hi hiq => by
      rcases hblk with hb | hb
      · rw [← hb]; exact h.apart i q hi hq hiq
      · refine .inr (fun e => ?_)
        obtain ⟨mi, xi, oi, _⟩ := h1.own i hi
        have := own_lt oi e
        omega
    by_cases e1 : q = j
    · subst e1
      rw [Array.getElem_set_self, Array.getElem_set_ne _ hj' hne]
      refine .inr (fun e => ?_)
      rcases other j' hj' (fun e => hne e.symm) with h' | h'
      · rw [h'] at e; cases e
      · exact h' e.symm
    · rw [Array.getElem_set_ne _ hj e1]
      by_cases e2 : q = j'
      · subst e2
        rw [Array.getElem_set_self]
        exact other j hj (fun e => e1 e.symm)
      · rw [Array.getElem_set_ne _ hj' e2]
        exact h.apart j j' hj hj' hne
end Go.Proofs.YthihjphcjjpjpaaGreat

/- The contract of partsOf: a slice with as many parts as the net has. -/
namespace Go.Proofs.YthihjphcjjpjpaaGreat
open Go.RowKit

theorem Tryz.info52 : (Tryz.prog.info? 52).map (fun i => (i.zero, i.size, i.bytes)) = some (some (.agg #[.int .i64 0, .int .i64 0, .int .i64 0]), 3, 24) := by kernel_rfl
theorem Tryz.info29 : (Tryz.prog.info? 29).map (fun i => (i.zero, i.size, i.bytes)) = some (some (.slice none 0 0), 1, 24) := by kernel_rfl
def zeros (n : Nat) : Array Value := madeCells (Value.slice none 0 0).cells (n * 1)
theorem Heads.made (w : World) (base n : Nat) (_ : base ≤ w.heap.size) : Heads (w.alloc (.cells (zeros n) 29)) base w.heap.size n 0 (zeros n) where
  blk := heap_alloc_new _ _
  size := by rw [zeros, size_madeCells]; omega
  own j hj := by
    have : (zeros n)[j] = .slice none 0 0 := by simp [zeros, madeCells, Value.cells, Nat.mod_one]
    rw [this]
    exact ⟨0, [], World.ownsRow_nil _ _ _ _, Nat.le_refl _⟩
  apart j j' hj hj' _ := by
    have : (zeros n)[j] = .slice none 0 0 := by simp [zeros, madeCells, Value.cells, Nat.mod_one]
    rw [this]
    exact .inl rfl

theorem three_new (w : World) (a b c : Value) (t : TypeId) : ∀ (j : Nat) (u : Value), [a, b, c][j]? = some u → (w.alloc (.cells #[a, b, c] t)).cell? ((⟨w.heap.size, 0, none⟩ : Addr).add j) = some u := by
  obtain ⟨w1, rfl, h0, h1, h2, _⟩ := box3 w a b c t
  intro j u h
  rw [add0]
  match j, h with
  | 0, h => cases h; exact h0
  | 1, h => cases h; exact h1
  | 2, h => cases h; exact h2

def PartPost (l : List Ck.Bar) (w : World) (e : Ending) (w' : World) : Prop := ∃ n a c, Ck.PartsIs l n ∧ n ≤ l.length ∧ e = .returned (.slice a n c) ∧ Below w.heap.size w w'

set_option maxHeartbeats 4000000 in
set_option maxRecDepth 100000 in
theorem netPartsOf (A : Option Addr) (c : Nat) (l : List Ck.Bar) (w : World) (hl : l.length ≤ 4096) (hs : l.Pairwise Ck.Blt) (hok : ∀ x ∈ l, Ck.okBar x) (h : RB w w.heap.size A l) :
    Calls Tryz.prog 25 #[.slice A l.length c] w (PartPost l w) := by
  have hmm := @run_makeMap Tryz.prog
  have hl' : (l.length : Int) ≤ 4096 := by omega
  have HS := Lib.hid hs
  have HR := Lib.hid h
  have HOK := Lib.hid hok
  clear hs h hok
  go_enter Tryz.func25, Tryz.ntmps25
  go_wp2_with fail
  go_step3
  go_wp2_with fail
  go_step3
  go_wp2_with fail

  go_loopg [4, 5] l.length (fun g cv iv wi => ∃ i n M, g = l.length - i ∧ i ≤ l.length ∧ cv = .int .i64 (n : Nat) ∧ iv = .int .i64 (i : Nat) ∧ Pt l i n M ∧ MIs wi w.heap.size M ∧ Below w.heap.size w wi)
  case atStart => exact ⟨0, 0, [], rfl, Nat.zero_le _, rfl, rfl, Pt.start l, MIs.made _, (Below.refl _ _).alloc (Nat.le_refl _) _⟩
  case round =>
    obtain ⟨i, n, M, hg, hi, rfl, rfl, hpt, hmi, hbi⟩ := hrel
    have HG := Lib.hid hg
    have HPT := Lib.hid hpt
    clear hg hpt
    by_cases hlt : i < l.length
    · have hne : ((i : Int) == (l.length : Int)) = false := by rw [beq_eq_false_iff_ne]; omega
      have hrb := HR.out.below hbi
      have hbz := hbi.size
      obtain ⟨b, off, rfl, hB, hc⟩ := hrb (by omega)
      obtain ⟨c0, c1, c2⟩ := hc i hlt
      clear hc hrb
      have hml := hmi.lt
      by_cases hz : mget M l[i].lo = 0
      · have hzb : (mget M l[i].lo == 0) = true := by rw [hz]; rfl
        have HZ := Lib.hid hz
        have hnl := HPT.out.le
        clear hz
        go_wp2_with fail
        refine (netLower _ _ _ _).mono ?_
        rintro e w2 ⟨rfl, hb2⟩
        have hm2 := hmi.below hb2 hml
        have hz2 : b < wr.heap.size := by omega
        have d0 := (hb2.cell (p := ⟨b, off + i * 3, none⟩) hz2).trans c0
        have d1 := (hb2.cell (p := ⟨b, off + i * 3 + 1, none⟩) hz2).trans c1
        have d2 := (hb2.cell (p := ⟨b, off + i * 3 + 2, none⟩) hz2).trans c2
        clear c0 c1 c2
        go_wp2_with (first
          | (at_lookup; refine wpList_lookup_kn _ rfl _ _ rfl w.heap.size M hm2 l[i].lo rfl rfl ?_)
          | (go_at_call 52; refine (netLower _ _ _ _).mono ?_; rintro e w3 ⟨rfl, hb3⟩)
          | (go_at_call 53; refine (netNumberFrom _ c w.heap.size l l[i].lo ((n : Int) + 1) M _ hl HS.out HOK.out ((HR.out.below ((hbi.trans (hb2.mono hbz)).trans (hb3.mono (by have := hb2.size; omega)))).more (by have := hb2.size; have := hb3.size; omega)) (Ck.lo_ends (List.getElem_mem hlt)) (by omega) (by omega) HZ.out HPT.out.closed (hm2.below hb3 hm2.lt)).mono ?_; rintro e w4 ⟨rfl, M', hnum, hm4, hg4⟩))
        have hb4 : Below w.heap.size w w4 := ((hbi.trans (hb2.mono hbz)).trans (hb3.mono (by have := hb2.size; omega))).grown hg4 (by have := hb2.size; have := hb3.size; omega) (fun q e => by cases e; exact Nat.le_refl _)
        go_roundg (l.length - (i + 1))
        case measure => rw [HG.out]; omega
        case rel => exact ⟨i + 1, n + 1, M', rfl, by omega, by go_num, by go_num, HPT.out.fresh hlt HZ.out (fun k hk => by rw [hnum.1 k hk]; omega) hnum.2, hm4, hb4⟩
      · have hzb : (mget M l[i].lo == 0) = false := by simpa using hz
        have HZ := Lib.hid hz
        clear hz
        go_wp2_with fail
        refine (netLower _ _ _ _).mono ?_
        rintro e w2 ⟨rfl, hb2⟩
        have hm2 := hmi.below hb2 hml
        go_wp2_with (at_lookup; refine wpList_lookup_kn _ rfl _ _ rfl w.heap.size M hm2 l[i].lo rfl rfl ?_)
        go_roundg (l.length - (i + 1))
        case measure => rw [HG.out]; omega
        case rel => exact ⟨i + 1, n, M, rfl, by omega, rfl, by go_num, HPT.out.old hlt HZ.out, hm2, hbi.trans (hb2.mono hbz)⟩
    · obtain rfl : i = l.length := by omega
      obtain ⟨i1, hi1, hz01, hz11, hz21⟩ := info_parts Tryz.info29
      have hnl := HPT.out.le
      have hmk : ∀ W : World, (Instr.makeSlice 66 (.int .i64 (n : Int)) (.int .i64 (n : Int))).run Tryz.prog W = .ok (.slice (some ⟨W.heap.size, 0, none⟩) n n) (W.alloc (.cells (zeros n) 29)) := fun W => by
        have := run_make (P := Tryz.prog) W 66 29 i1 (.slice none 0 0) Tryz.underlying66 hi1 hz01 .i64 .i64 (n : Int) (n : Int) (by omega) (by omega) (by rw [hz21]; omega) (by omega)
        rw [hz11, Int.toNat_natCast] at this
        exact this
      have hbz := hbi.size
      obtain ⟨wo, rfl⟩ : ∃ wo : World, wo = wr := ⟨_, rfl⟩
      have HH := Lib.hid (Heads.made wo w.heap.size n hbz)
      have hm1 := hmi.below ((Below.refl _ _).alloc (Nat.le_refl _) (.cells (zeros n) 29)) hmi.lt
      have hb1 := hbi.alloc hbz (.cells (zeros n) 29)
      obtain ⟨wp, hwp⟩ : ∃ wp, wp = wo.alloc (.cells (zeros n) 29) := ⟨_, rfl⟩
      rw [← hwp] at HH hm1 hb1
      have HWP := Lib.hid hwp
      clear hwp hi1 hz01 hz11 hz21
      go_wp2_with fail
      rw [← HWP.out]
      obtain ⟨ib, hib, hb0, hb01, hb02⟩ := info_parts Tryz.info52
      have HIB := Lib.hid hib
      have HB0 := Lib.hid hb0
      have HB1 := Lib.hid hb01
      have HB2 := Lib.hid hb02
      clear hib hb0 hb01 hb02
      go_loopg [8, 9, 42] l.length (fun g _ _ iv wi => ∃ k cur, g = l.length - k ∧ k ≤ l.length ∧ iv = .int .i64 (k : Nat) ∧ Heads wi w.heap.size wo.heap.size n k cur ∧ MIs wi w.heap.size M ∧ Below w.heap.size w wi)
      case atStart => exact ⟨0, zeros n, rfl, Nat.zero_le _, rfl, HH.out, hm1, hb1⟩
      case round =>
        obtain ⟨k, cur, hg, hk, rfl, hh, hmk2, hbk⟩ := hrel
        have HGK := Lib.hid hg
        have HHK := Lib.hid hh
        clear hg hh
        by_cases hlt : k < l.length
        · have hrb := HR.out.below hbk
          have hbkz := hbk.size
          obtain ⟨b, off, rfl, hB, hc⟩ := hrb (by omega)
          obtain ⟨c0, c1, c2⟩ := hc k hlt
          obtain ⟨hp1, hp2⟩ := HPT.out.pos (List.getElem_mem hlt)
          obtain ⟨q, hq⟩ : ∃ q : Nat, mget M l[k].lo = (q : Int) + 1 := ⟨(mget M l[k].lo - 1).toNat, by omega⟩
          have hqn : q < n := by omega
          have HQ := Lib.hid hq
          clear hc hrb hq hp1 hp2
          go_wp2_with fail
          refine (netLower _ _ _ _).mono ?_
          rintro e w2 ⟨rfl, hb2⟩
          have b0 : w2.cell? ⟨wr.heap.size, 0, none⟩ = some (.int .i64 l[k].x) := by
            rw [hb2.cell (p := ⟨_, _, none⟩) (by simp), World.cell?_alloc_at _ _ _ _ (by simp)]; rfl
          have b1 : w2.cell? ⟨wr.heap.size, 1, none⟩ = some (.int .i64 l[k].y) := by
            rw [hb2.cell (p := ⟨_, _, none⟩) (by simp), World.cell?_alloc_at _ _ _ _ (by simp)]; rfl
          have b2 : w2.cell? ⟨wr.heap.size, 2, none⟩ = some (.int .i64 l[k].s) := by
            rw [hb2.cell (p := ⟨_, _, none⟩) (by simp), World.cell?_alloc_at _ _ _ _ (by simp)]; rfl
          have hq2 : Below wr.heap.size wr w2 := ((Below.refl _ _).alloc (Nat.le_refl _) _).trans (hb2.mono (by simp))
          have hm2 := hmk2.below hq2 hmk2.lt
          have hh2 := HHK.out.below hq2
          have hqs : q < cur.size := by rw [hh2.size]; exact hqn
          have hPc := hh2.cell hqs
          have hPf := hh2.frozen q
          obtain ⟨mq, xq, oq, hmq⟩ := hh2.own q hqs
          have HO := Lib.hid oq
          have HH2 := Lib.hid hh2
          have HPC := Lib.hid hPc
          have HPF := Lib.hid hPf
          have hbq := hbk.trans (hq2.mono hbkz)
          have hbqz := hbq.size
          generalize hcq : cur[q] = vq at hPc oq HO
          have HCQ := Lib.hid hcq
          have hqi0 : (0 : Int) ≤ (q : Int) := by omega
          have hqi1 : (q : Int) < (n : Int) := by omega
          clear oq hh2 hcq c0 c1 c2 hb2
          go_wp2_with (at_lookup; refine wpList_lookup_kn _ rfl _ _ rfl w.heap.size M hm2 l[k].lo rfl rfl ?_; rw [HQ.out])
          have hPlt := HH2.out.lt
          have hPne : vq.ownBlock ≠ some wo.heap.size := own_block_ne HO.out HH2.out.blk (by decide)
          go_region_law (first
            | (refine step_append_lies _ rfl (.tmp 56) (.tmp 58) 29 rfl w.heap.size 52 ib (.agg #[.int .i64 0, .int .i64 0, .int .i64 0]) 3 24 Tryz.underlying29 HIB.out HB0.out HB1.out HB2.out rfl (by decide) vq mq xq (by simp [Act.eval]) (by exact HO.out.alloc _) ⟨w2.heap.size, 0, none⟩ 1 1 [.int .i64 l[k].x, .int .i64 l[k].y, .int .i64 l[k].s] (by simp [Act.eval]) rfl (by exact three_new _ _ _ _ _) (by intro u hu; simp at hu; rcases hu with rfl | rfl | rfl <;> rfl) (by decide) (by unfold maxLen; omega) (by omega) (by simp; omega) (w2.heap.size + 1) (by simp) ?_; intro g cap w5 hown5 hgrow5 hblk5 hg5; have s0 : w5.cell? ⟨wo.heap.size, q, none⟩ = some vq := (World.cell?_of_block (hgrow5.block wo.heap.size (by simp; omega) (fun e => hPne e.symm))).trans (((Below.refl _ w2).alloc (Nat.le_refl _) _).cell (p := ⟨wo.heap.size, q, none⟩) hPlt |>.trans hPc); have sf : w5.frozen? ⟨wo.heap.size, q, none⟩ = false := (World.frozen?_of_block (hgrow5.block wo.heap.size (by simp; omega) (fun e => hPne e.symm))).trans (((Below.refl _ w2).alloc (Nat.le_refl _) _).frozen (p := ⟨wo.heap.size, q, none⟩) hPlt |>.trans hPf)))
          all_goals
            have hW1 : Below w2.heap.size w2 ((w2.alloc (.cells #[.int .i64 l[k].x, .int .i64 l[k].y, .int .i64 l[k].s] 52)).drew) := below_drew ((Below.refl _ _).alloc (Nat.le_refl _) _)
            have hmlt := hmi.lt
            have hm5 : MIs w5 w.heap.size M := (hm2.below hW1 hm2.lt).of_block (hgrow5.block w.heap.size (by have := hm2.lt; simp; omega) (fun e => own_map_ne HO.out hm2 e.symm))
            have hm6 : MIs (w5.setCell ⟨wo.heap.size, q, none⟩ (.slice (some ⟨g, 0, none⟩) (mq + 1) cap)) w.heap.size M := hm5.of_block (Below.heap_setCell _ _ _ _ (by show w.heap.size ≠ wo.heap.size; omega))
            have hb6 : Below w.heap.size w (w5.setCell ⟨wo.heap.size, q, none⟩ (.slice (some ⟨g, 0, none⟩) (mq + 1) cap)) := ((hbq.trans (hW1.mono hbqz)).grown hgrow5 (by simp; omega) (ownsRow_base HO.out)).setCell (by show w.heap.size ≤ wo.heap.size; omega) _
            have HST := Lib.hid (HH2.out.step hW1 hqs hown5 (by omega) (by rw [HCQ.out]; exact hgrow5) (by rw [HCQ.out]; simpa using hblk5))
            have HM6 := Lib.hid hm6
            have HB6 := Lib.hid hb6
            clear hW1 hm5 hm6 hb6 hown5 hgrow5 hblk5 s0 sf hg5
            go_wp2
            go_roundg (l.length - (k + 1))
            case measure => rw [HGK.out]; omega
            case rel => exact ⟨k + 1, _, rfl, by omega, by go_num, HST.out, HM6.out, HB6.out⟩
        · obtain rfl : k = l.length := by omega
          have HD := Lib.hid HPT.out.done
          go_wp2
          go_ret
          exact ⟨n, _, _, HD.out, hnl, rfl, hbk⟩
end Go.Proofs.YthihjphcjjpjpaaGreat

/- The contract of Count at a valid net. -/
namespace Go.Proofs.YthihjphcjjpjpaaGreat
open Go.RowKit

theorem farB_iff (n : Int) : farB n = false ↔ Ck.inPlace n := by simp [farB, Ck.inPlace]
theorem knotE_ok (x y : Int) : knotE x y = 0 ↔ Ck.okKnot ⟨x, y⟩ := by
  unfold knotE Ck.okKnot
  cases hx : farB x
  · cases hy : farB y
    · have h1 := (farB_iff x).1 hx
      have h2 := (farB_iff y).1 hy
      simp [h1, h2, evenB]
    · have h2 : ¬ Ck.inPlace y := fun h => by rw [(farB_iff y).2 h] at hy; cases hy
      simp [h2]
  · have h2 : ¬ Ck.inPlace x := fun h => by rw [(farB_iff x).2 h] at hx; cases hx
    simp [h2]
theorem barE_iff (b : Ck.Bar) : barE b.x b.y b.s = 0 ↔ Ck.okBar b := by
  unfold barE Ck.okBar
  by_cases h1 : knotE b.x b.y = 0
  · by_cases h2 : b.s = 1 ∨ b.s = -1
    · simp only [h1, if_true, if_pos h2, knotE_ok]
      have hk : Ck.okKnot ⟨b.x, b.y⟩ := (knotE_ok _ _).1 h1
      constructor
      · rintro ⟨a, c, _⟩
        exact ⟨hk, h2.symm, a, c⟩
      · rintro ⟨_, _, a, c⟩
        refine ⟨a, c, ?_⟩
        have := hk.2.2
        simp only at this ⊢
        omega
    · simp only [h1, if_true, if_neg h2]
      constructor
      · intro h; omega
      · rintro ⟨_, h, _⟩; exact absurd h.symm h2
  · simp only [if_neg h1]
    constructor
    · intro h; exact absurd h h1
    · rintro ⟨h, _⟩; exact absurd ((knotE_ok _ _).2 h) h1
theorem netFrom_zero : ∀ (l : List Ck.Bar) (p : Option Ck.Bar), netFrom p l = 0 ↔ (∀ b ∈ l, Ck.okBar b) ∧ (match p with | none => l.Pairwise Ck.Blt | some a => (a :: l).Pairwise Ck.Blt)
  | [], none => by simp [netFrom]
  | [], some a => by simp [netFrom]
  | b :: r, none => by
    unfold netFrom
    by_cases h : barE b.x b.y b.s = 0
    · rw [if_pos h, netFrom_zero r (some b)]
      simp only [List.mem_cons, forall_eq_or_imp, (barE_iff b).1 h, true_and]
    · rw [if_neg h]
      constructor
      · intro h'; exact absurd h' h
      · intro h'; exact absurd ((barE_iff b).2 (h'.1 b (by simp))) h
  | b :: r, some a => by
    unfold netFrom
    by_cases h : barE b.x b.y b.s = 0
    · rw [if_pos h]
      by_cases hl : lessB a.x a.y a.s b.x b.y b.s = true
      · have hab := (lessB_iff a b).1 hl
        rw [if_pos hl, netFrom_zero r (some b)]
        simp only [List.mem_cons, forall_eq_or_imp, (barE_iff b).1 h, true_and]
        constructor
        · rintro ⟨h1, h2⟩
          exact ⟨h1, List.pairwise_cons.2 ⟨fun c hc => by
            rcases List.mem_cons.1 hc with rfl | hc
            · exact hab
            · exact hab.trans ((List.pairwise_cons.1 h2).1 c hc), h2⟩⟩
        · rintro ⟨h1, h2⟩
          exact ⟨h1, (List.pairwise_cons.1 h2).2⟩
      · rw [if_neg hl]
        constructor
        · intro h'; omega
        · rintro ⟨_, h2⟩
          exact absurd ((lessB_iff a b).2 ((List.pairwise_cons.1 h2).1 b (by simp))) hl
    · rw [if_neg h]
      constructor
      · intro h'; exact absurd h' h
      · intro h'; exact absurd ((barE_iff b).2 (h'.1 b (by simp))) h
theorem netE_zero (l : List Ck.Bar) : netE l = 0 ↔ l.length ≤ 4096 ∧ Ck.Net l := by
  unfold netE
  split
  · constructor
    · intro h; omega
    · rintro ⟨h, _⟩; omega
  · rw [netFrom_zero]
    constructor
    · rintro ⟨h1, h2⟩; exact ⟨by omega, h1, h2⟩
    · rintro ⟨_, h1, h2⟩; exact ⟨h1, h2⟩

theorem mput_keys (m : List (Ck.Knot × Int)) (k k' : Ck.Knot) (v : Int) : k' ∈ (mput m k v).map (·.1) ↔ k' = k ∨ k' ∈ m.map (·.1) := by
  induction m with
  | nil => simp [mput]
  | cons p r ih =>
    by_cases h : k = p.1
    · rw [show mput (p :: r) k v = (k, v) :: r from by simp [mput, h]]
      simp only [List.map_cons, List.mem_cons, ← h]
      constructor
      · rintro (h1 | h1)
        · exact .inl h1
        · exact .inr (.inr h1)
      · rintro (h1 | h1 | h1)
        · exact .inl h1
        · exact .inl h1
        · exact .inr h1
    · simp only [mput, if_neg h, List.map_cons, List.mem_cons, ih]
      constructor
      · rintro (h1 | h1 | h1)
        · exact .inr (.inl h1)
        · exact .inl h1
        · exact .inr (.inr h1)
      · rintro (h1 | h1 | h1)
        · exact .inr (.inl h1)
        · exact .inl h1
        · exact .inr (.inr h1)
theorem degs_keys (ks : List Ck.Knot) : ∀ (m : List (Ck.Knot × Int)) (k : Ck.Knot), k ∈ (ks.foldl incr m).map (·.1) ↔ k ∈ ks ∨ k ∈ m.map (·.1) := by
  induction ks with
  | nil => intro m k; simp
  | cons a r ih =>
    intro m k
    rw [List.foldl_cons, ih, incr, mput_keys, List.mem_cons]
    constructor
    · rintro (h | h | h)
      · exact .inl (.inr h)
      · exact .inl (.inl h)
      · exact .inr h
    · rintro ((h | h) | h)
      · exact .inr (.inl h)
      · exact .inl h
      · exact .inr (.inr h)
theorem MIs.keys_nodup {w : World} {b : Nat} {m : List (Ck.Knot × Int)} (h : MIs w b m) : (m.map (·.1)).Nodup := by
  obtain ⟨_, _, _, _, h3, _⟩ := h
  exact h3
theorem degs_length {w : World} {b : Nat} {l : List Ck.Bar} (h : MIs w b (degsL (Ck.ends l))) : (degsL (Ck.ends l)).length = Ck.nK l := by
  rw [← Ck.nK_eq h.keys_nodup (fun k => by rw [degsL, degs_keys]; simp), List.length_map]
theorem MIs.size {w : World} {b : Nat} {m : List (Ck.Knot × Int)} (h : MIs w b m) : ∃ es clock, w.heap[b]? = some (.map es clock) ∧ es.size = m.length := by
  obtain ⟨es, clock, h1, h2, _⟩ := h
  refine ⟨es, clock, h1, ?_⟩
  have := congrArg List.length h2
  simpa using this
theorem nK_le (l : List Ck.Bar) : Ck.nK l ≤ 2 * l.length := by
  rw [← ends_length l]
  exact (Ck.nub_nodup _).length_le_of_subset (fun k hk => Ck.mem_nub.1 hk)
theorem meshL_nM (l : List Ck.Bar) : (meshL l l).length = Ck.nM l := by
  rw [meshL, ← List.countP_eq_length_filter, Ck.nM]
  refine List.countP_congr fun b hb => ?_
  obtain ⟨x, y, s⟩ := b
  simp only [isM, Ck.isMesh, allIn, meshBars4, List.all_cons, List.all_nil, Bool.and_true, Bool.and_eq_true, decide_eq_true_eq]
  rw [show y + 1 - 1 = y from by omega]
  constructor
  · rintro ⟨h1, _, h2, h3, h4⟩; exact ⟨h1, h2, h3, h4⟩
  · rintro ⟨h1, h2, h3, h4⟩
    subst h1
    exact ⟨rfl, hb, h2, h3, h4⟩

theorem MIs.len {w : World} {b : Nat} {m : List (Ck.Knot × Int)} (h : MIs w b m) : (Builtin.len_ #[62] 3 #[.map (some b)]).run Tryz.prog w = .ok (.int .i64 (m.length : Nat)) w := by
  obtain ⟨es, clock, h1, h2⟩ := h.size
  simp [Builtin.len_, run_underlying Tryz.underlying62, MapKept.run_getObj_map h1, goInt, h2, Result.andThen]
theorem five_of_block {w : World} {g : Nat} {a b c d e : Value} {t : TypeId} (h : w.heap[g]? = some (.cells #[a, b, c, d, e] t (0, 0))) : w.cell? ⟨g, 0, none⟩ = some a ∧ w.cell? ⟨g, 1, none⟩ = some b ∧ w.cell? ⟨g, 2, none⟩ = some c ∧ w.cell? ⟨g, 3, none⟩ = some d ∧ w.cell? ⟨g, 4, none⟩ = some e ∧ ∀ i, w.frozen? ⟨g, i, none⟩ = false := by
  refine ⟨?_, ?_, ?_, ?_, ?_, fun i => ?_⟩ <;> simp [World.cell?, World.frozen?, h]
def CountPost (l : List Ck.Bar) (w : World) (e : Ending) (w' : World) : Prop :=
  ∃ p : Nat, Ck.PartsIs l p ∧ e = .returned (.tuple #[.agg #[.int .i64 (Ck.nK l : Nat), .int .i64 (l.length : Nat), .int .i64 (Ck.nM l : Nat), .int .i64 p, .int .i64 ((l.length : Int) - (Ck.nK l : Nat) + p - (Ck.nM l : Nat))], .int .i64 0]) ∧ Below w.heap.size w w'

set_option maxHeartbeats 2000000 in
set_option maxRecDepth 100000 in
theorem netCount (A : Option Addr) (c : Nat) (l : List Ck.Bar) (w : World) (hl : l.length ≤ 4096) (hcap : l.length ≤ c) (hcm : c ≤ maxLen) (hN : Ck.Net l) (h : RB w w.heap.size A l) :
    Calls Tryz.prog 9 #[.slice A l.length c] w (CountPost l w) := by
  have HR := Lib.hid h
  have HN := Lib.hid hN
  have HE := Lib.hid ((netE_zero l).2 ⟨hl, hN⟩)
  have hnk := nK_le l
  have hnm : (meshL l l).length ≤ l.length := by have := meshL_le l l.length; rwa [List.take_length] at this
  clear h hN
  go_enter Tryz.func9, Tryz.ntmps9
  obtain ⟨w0, hw0⟩ : ∃ w0, w0 = w.alloc (.cells #[.int .i64 0, .int .i64 0, .int .i64 0, .int .i64 0, .int .i64 0] 36) := ⟨_, rfl⟩
  have hr0 : w0.heap[w.heap.size]? = some (.cells #[.int .i64 0, .int .i64 0, .int .i64 0, .int .i64 0, .int .i64 0] 36 (0, 0)) := by rw [hw0]; exact heap_alloc_new _ _
  have hb0 : Below w.heap.size w w0 := by rw [hw0]; exact (Below.refl _ _).alloc (Nat.le_refl _) _
  have hz0 : w.heap.size < w0.heap.size := by rw [hw0]; simp
  have HW := Lib.hid hw0
  have HR0 := Lib.hid hr0
  clear hw0 hr0
  go_wp2_with fail
  rw [← HW.out]
  refine (netCheckNet A c l _ hl hcap hcm ((HR.out.below hb0).more hb0.size)).mono ?_
  rintro e w1 ⟨rfl, hb1⟩
  rw [HE.out]
  have hc1 := hb0.trans (hb1.mono hb0.size)
  have hz1 := Nat.lt_of_lt_of_le hz0 hb1.size
  go_wp2_with fail
  refine (netDegrees A c l _ hl HN.out.1 ((HR.out.below hc1).more hc1.size)).mono ?_
  rintro e w2 ⟨b, rfl, hbz, hm2, hb2⟩
  have hc2 := hc1.trans (hb2.mono hc1.size)
  have hz2 := Nat.lt_of_lt_of_le hz1 hb2.size
  have hlen := hm2.len
  rw [degs_length hm2] at hlen
  have hms := meshL_nM l
  rw [hms] at hnm
  have HMS := Lib.hid hms
  clear hms
  go_wp2_with fail
  refine (netMeshesOf A c l _ hl HN.out.2 HN.out.1 ((HR.out.below hc2).more hc2.size)).mono ?_
  rintro e w3 ⟨v, rfl, hown, hb3⟩
  rw [HMS.out] at hown
  have hc3 := hc2.trans (hb3.mono hc2.size)
  have hz3 := Nat.lt_of_lt_of_le hz2 hb3.size
  have hlv : ∃ a cv, v = .slice a (Ck.nM l) cv := by
    rcases hown.2 with ⟨h1, h2⟩ | ⟨g, cap, cur, h1, _⟩
    · exact ⟨none, 0, by rw [h1, h2]⟩
    · exact ⟨_, _, h1⟩
  obtain ⟨av, cv, rfl⟩ := hlv
  clear hown
  go_wp2_with fail
  refine (netPartsOf A c l _ hl HN.out.2 HN.out.1 ((HR.out.below hc3).more hc3.size)).mono ?_
  rintro e w4 ⟨p, ap, cp, hp, hpl, rfl, hb4⟩
  have hc4 := hc3.trans (hb4.mono hc3.size)
  have hz4 := Nat.lt_of_lt_of_le hz3 hb4.size
  have hr4 := (hb4.block _ hz3).trans ((hb3.block _ hz2).trans ((hb2.block _ hz1).trans ((hb1.block _ hz0).trans HR0.out)))
  obtain ⟨r0, r1, r2, r3, r4, rf⟩ := five_of_block hr4
  have HR4 := Lib.hid hr4
  have HP := Lib.hid hp
  clear hr4 hp
  generalize hgk : Ck.nK l = nk at *
  generalize hgm : Ck.nM l = nm at *
  have HK := Lib.hid hgk
  have HM := Lib.hid hgm
  clear hgk hgm
  go_wp2
  exact bodyPost_ret (v := .tuple #[.agg #[.int .i64 (nk : Int), .int .i64 (l.length : Int), .int .i64 (nm : Int), .int .i64 (p : Int), .int .i64 ((l.length : Int) - nk + p - nm)], .int .i64 0]) (by simp [results, Tryz.results9, go_sem, r0, r1, r2, r3, r4, hz4]) rfl
    ⟨p, HP.out, by rw [HK.out, HM.out], (((((hc4.setCell (Nat.le_refl _) _).setCell (Nat.le_refl _) _).setCell (Nat.le_refl _) _).setCell (Nat.le_refl _) _).setCell (Nat.le_refl _) _).alloc (by simp; omega) _⟩
end Go.Proofs.YthihjphcjjpjpaaGreat

/- Rows of bars in memory: what a slice of bars of the call's own holds. -/
namespace Go.Proofs.YthihjphcjjpjpaaGreat
open Go.RowKit Ck

theorem RB.nil (w : World) (B : Nat) (A : Option Addr) : RB w B A [] := fun h => by simp at h

def bcellsL (l : List Ck.Bar) : List Value := l.flatMap fun b => [.int .i64 b.x, .int .i64 b.y, .int .i64 b.s]
theorem bcellsL_snoc (l : List Ck.Bar) (b : Ck.Bar) : bcellsL (l ++ [b]) = bcellsL l ++ [.int .i64 b.x, .int .i64 b.y, .int .i64 b.s] := by simp [bcellsL]
theorem three_of_block {w : World} {g : Nat} {a b c : Value} {t : TypeId} (h : w.heap[g]? = some (.cells #[a, b, c] t (0, 0))) : w.cell? ⟨g, 0, none⟩ = some a ∧ w.cell? ⟨g, 1, none⟩ = some b ∧ w.cell? ⟨g, 2, none⟩ = some c ∧ ∀ i, w.frozen? ⟨g, i, none⟩ = false := by
  refine ⟨?_, ?_, ?_, fun i => ?_⟩ <;> simp [World.cell?, World.frozen?, h]
theorem ownsRow_mono {w : World} {base base' : Nat} {e : TypeId} {size n : Nat} {v : Value} {xs : List Value} (h : w.ownsRow base e size v n xs) (hb : base' ≤ base) : w.ownsRow base' e size v n xs := by
  refine ⟨h.1, ?_⟩
  rcases h.2 with h2 | ⟨g, cap, cur, h1, h2, h3⟩
  · exact .inl h2
  · exact .inr ⟨g, cap, cur, h1, by omega, h3⟩
theorem own_slice {w : World} {base : Nat} {e : TypeId} {size n : Nat} {v : Value} {xs : List Value} (h : w.ownsRow base e size v n xs) : ∃ a c, v = .slice a n c ∧ n ≤ c ∧ c ≤ maxLen := by
  rcases h.2 with ⟨rfl, rfl⟩ | ⟨g, cap, cur, rfl, _, _, h1, h2, _⟩
  · exact ⟨none, 0, rfl, Nat.le_refl _, by unfold maxLen; omega⟩
  · exact ⟨_, _, rfl, h1, h2⟩
theorem bcellsL_at (l : List Ck.Bar) : ∀ (i : Nat) (h : i < l.length), (bcellsL l)[i * 3]? = some (.int .i64 l[i].x) ∧ (bcellsL l)[i * 3 + 1]? = some (.int .i64 l[i].y) ∧ (bcellsL l)[i * 3 + 2]? = some (.int .i64 l[i].s) := by
  induction l with
  | nil => intro i h; simp at h
  | cons a r ih =>
    intro i h
    have e : bcellsL (a :: r) = [.int .i64 a.x, .int .i64 a.y, .int .i64 a.s] ++ bcellsL r := by simp [bcellsL]
    rw [e]
    cases i with
    | zero => exact ⟨rfl, rfl, rfl⟩
    | succ i =>
      have := ih i (by simpa using h)
      rw [show (i + 1) * 3 = i * 3 + 3 from by omega]
      simpa using this
theorem bcellsL_length (l : List Ck.Bar) : (bcellsL l).length = l.length * 3 := by
  induction l with
  | nil => rfl
  | cons a r ih => simp [bcellsL] at ih ⊢; omega
/-- A row of the call's own that holds the cells of bars reads as these bars. -/
theorem RB.of_own {w : World} {base c : Nat} {A : Option Addr} {l : List Ck.Bar} {n : Nat} (h : w.ownsRow base 52 3 (.slice A n c) l.length (bcellsL l)) : RB w w.heap.size A l := fun hl => by
  obtain ⟨g, cap, hv, _, _, _, hg⟩ := own_form h hl
  injection hv with hA _ _
  subst hA
  have hc := h.cells (g := g) rfl
  refine ⟨g, 0, rfl, hg, fun i hi => ?_⟩
  obtain ⟨h0, h1, h2⟩ := bcellsL_at l i hi
  have k0 := hc _ _ h0
  have k1 := hc _ _ h1
  have k2 := hc _ _ h2
  rw [add0] at k0 k1 k2
  simp only [Nat.zero_add]
  exact ⟨k0, k1, k2⟩
theorem empty_row (w : World) (base : Nat) (hb : base ≤ w.heap.size) (t : TypeId) (size : Nat) : (w.alloc (.cells #[] t)).ownsRow base t size (.slice (some ⟨w.heap.size, 0, none⟩) 0 0) 0 [] :=
  ⟨by simp, .inr ⟨_, _, _, rfl, hb, heap_alloc_new _ _, Nat.le_refl _, by unfold maxLen; omega, by simp, by simp⟩⟩
theorem RB.news {w : World} {B : Nat} {b off : Nat} {l : List Ck.Bar} (h : RB w B (some ⟨b, off, none⟩) l) (hl : 0 < l.length) : ∀ (j : Nat) (u : Value), (bcellsL l)[j]? = some u → w.cell? ((⟨b, off, none⟩ : Addr).add j) = some u := by
  intro j u hu
  obtain ⟨b', off', e, _, hc⟩ := h hl
  cases e
  have hj : j < (bcellsL l).length := (List.getElem?_eq_some_iff.1 hu).1
  rw [bcellsL_length] at hj
  have hi : j / 3 < l.length := by omega
  obtain ⟨k0, k1, k2⟩ := hc (j / 3) hi
  obtain ⟨h0, h1, h2⟩ := bcellsL_at l (j / 3) hi
  have hadd : (⟨b, off, none⟩ : Addr).add j = ⟨b, off + j, none⟩ := by
    unfold Addr.add
    split
    · rename_i e; simp
    · rfl
  rw [hadd]
  have hm : j % 3 = 0 ∨ j % 3 = 1 ∨ j % 3 = 2 := by omega
  rcases hm with hm | hm | hm
  · have e : j = j / 3 * 3 := by omega
    rw [← e] at h0 k0
    rw [k0, ← hu, h0]
  · have e : j = j / 3 * 3 + 1 := by omega
    rw [← e] at h1
    rw [Nat.add_assoc, ← e] at k1
    rw [k1, ← hu, h1]
  · have e : j = j / 3 * 3 + 2 := by omega
    rw [← e] at h2
    rw [Nat.add_assoc, ← e] at k2
    rw [k2, ← hu, h2]
theorem bcellsL_one (l : List Ck.Bar) : ∀ u ∈ bcellsL l, u.oneCell' = true := by
  intro u hu
  simp only [bcellsL, List.mem_flatMap] at hu
  obtain ⟨b, _, hu⟩ := hu
  simp at hu
  rcases hu with rfl | rfl | rfl <;> rfl
theorem cmpB_lt_iff (a b : Bar) : cmpB a b < 0 ↔ Blt a b := by
  rw [← lessB_iff, ← cmpB_neg, decide_eq_true_eq]
/-- The slice is of the call's own, or reads so. -/
def OKS (w : World) (a : Option Addr) (c : Nat) (l : List Bar) : Prop := l.length ≤ c ∧ c ≤ maxLen ∧ (a = none → c = 0) ∧ RB w w.heap.size a l
theorem OKS.below {w w' : World} {a : Option Addr} {c : Nat} {l : List Bar} (h : OKS w a c l) (hb : Below w.heap.size w w') : OKS w' a c l := ⟨h.1, h.2.1, h.2.2.1, (h.2.2.2.below hb).more hb.size⟩
theorem own_oks {w : World} {base : Nat} {v : Value} {l : List Bar} (h : w.ownsRow base 52 3 v l.length (bcellsL l)) : ∃ a c, v = .slice a l.length c ∧ OKS w a c l := by
  rcases h.2 with ⟨rfl, hz⟩ | ⟨g, cap, cur, rfl, _, _, h1, h2, _⟩
  · have : l = [] := List.eq_nil_of_length_eq_zero hz
    subst this
    exact ⟨none, 0, rfl, Nat.zero_le _, by unfold maxLen; omega, fun _ => rfl, RB.nil _ _ _⟩
  · exact ⟨_, _, rfl, h1, h2, (fun e => by cases e), RB.of_own h⟩
def SlicePost (l : List Bar) (w : World) (e : Ending) (w' : World) : Prop := ∃ a c, e = .returned (.slice a l.length c) ∧ OKS w' a c l ∧ Below w.heap.size w w'
def PairPost (l : List Bar) (w : World) (e : Ending) (w' : World) : Prop := ∃ a c, e = .returned (.tuple #[.slice a l.length c, .int .i64 0]) ∧ OKS w' a c l ∧ Below w.heap.size w w'
end Go.Proofs.YthihjphcjjpjpaaGreat

/- The range over a map from knots to ints that the call has made: what has come of it so far, and its step. -/
namespace Go.Proofs.YthihjphcjjpjpaaGreat
open Go.RowKit Go.ChangeMaps Go.MapKept

/-- Block r is an iterator over the map in block b, which holds the pairs m; the keys ks have come. -/
def KRange (w : World) (b r : Nat) (m : List (Ck.Knot × Int)) (ks : List Ck.Knot) : Prop :=
  ∃ es clock since seen c0, w.heap[b]? = some (.map es clock) ∧ Ents es m ∧ (m.map (·.1)).Nodup ∧ (es.toList.map (·.born)).Nodup ∧ w.heap[r]? = some (.mapIter (some b) since seen c0) ∧
    (∀ x ∈ es.toList, x.born < since) ∧ since ≤ c0 ∧ since ≤ clock ∧ ks.Nodup ∧ ∀ k, k ∈ ks ↔ ∃ x ∈ es.toList, x.key = kvv k ∧ seen.contains x.born = true
theorem kvv_inj {a b : Ck.Knot} (h : kvv a = kvv b) : a = b := by
  obtain ⟨x, y⟩ := a
  obtain ⟨x', y'⟩ := b
  simpa [kvv] using h
theorem Ents.keys {es : Array MapEntry} {m : List (Ck.Knot × Int)} (h : Ents es m) : es.toList.map (·.key) = m.map fun p => kvv p.1 := by
  have := congrArg (List.map Prod.fst) h
  simpa [List.map_map, Function.comp_def] using this
theorem Ents.mem {es : Array MapEntry} {m : List (Ck.Knot × Int)} (h : Ents es m) {x : MapEntry} (hx : x ∈ es.toList) : ∃ p ∈ m, x.key = kvv p.1 ∧ x.val = .int .i64 p.2 := by
  have : (x.key, x.val) ∈ m.map fun p => (kvv p.1, Value.int .i64 p.2) := h ▸ List.mem_map_of_mem (f := fun e : MapEntry => (e.key, e.val)) hx
  obtain ⟨p, hp, e⟩ := List.mem_map.1 this
  simp only [Prod.mk.injEq] at e
  exact ⟨p, hp, e.1.symm, e.2.symm⟩
theorem Ents.has {es : Array MapEntry} {m : List (Ck.Knot × Int)} (h : Ents es m) (k : Ck.Knot) : k ∈ m.map (·.1) ↔ ∃ x ∈ es.toList, x.key = kvv k := by
  constructor
  · intro hk
    obtain ⟨p, hp, rfl⟩ := List.mem_map.1 hk
    have : kvv p.1 ∈ es.toList.map (·.key) := by rw [h.keys]; exact List.mem_map_of_mem (f := fun p : Ck.Knot × Int => kvv p.1) hp
    obtain ⟨x, hx, e⟩ := List.mem_map.1 this
    exact ⟨x, hx, e⟩
  · rintro ⟨x, hx, e⟩
    obtain ⟨p, hp, e1, _⟩ := h.mem hx
    rw [e] at e1
    rw [kvv_inj e1]
    exact List.mem_map_of_mem hp
theorem Ents.one {es : Array MapEntry} {m : List (Ck.Knot × Int)} (h : Ents es m) (hn : (m.map (·.1)).Nodup) {x y : MapEntry} (hx : x ∈ es.toList) (hy : y ∈ es.toList) (e : x.key = y.key) : x = y := by
  have hk : (es.toList.map (·.key)).Nodup := by
    rw [h.keys, show (m.map fun p => kvv p.1) = (m.map (·.1)).map kvv from by simp [List.map_map, Function.comp_def]]
    exact List.pairwise_map.2 (hn.imp fun {a b} hne e => hne (kvv_inj e))
  exact entry_eq_of_key (List.pairwise_map.1 hk) hx hy e

theorem KRange.owns {w : World} {b r : Nat} {m : List (Ck.Knot × Int)} {ks : List Ck.Knot} (h : KRange w b r m ks) : ∃ es clock since seen c0, w.heap[b]? = some (.map es clock) ∧ w.heap[r]? = some (.mapIter (some b) since seen c0) := by
  obtain ⟨es, clock, since, seen, c0, h1, _, _, _, h2, _⟩ := h
  exact ⟨es, clock, since, seen, c0, h1, h2⟩
theorem KRange.iter_walk {w : World} {b r : Nat} {m : List (Ck.Knot × Int)} {ks : List Ck.Knot} (h : KRange w b r m ks) : ∃ o : Obj, w.heap[r]? = some o ∧ o.isWalk = true := by
  obtain ⟨es, clock, since, seen, c0, _, h2⟩ := h.owns
  exact ⟨_, h2, rfl⟩
theorem KRange.nodup {w : World} {b r : Nat} {m : List (Ck.Knot × Int)} {ks : List Ck.Knot} (h : KRange w b r m ks) : ks.Nodup := by
  obtain ⟨es, clock, since, seen, c0, _, _, _, _, _, _, _, _, h1, _⟩ := h
  exact h1
theorem KRange.sub {w : World} {b r : Nat} {m : List (Ck.Knot × Int)} {ks : List Ck.Knot} (h : KRange w b r m ks) : ∀ k ∈ ks, k ∈ m.map (·.1) := by
  obtain ⟨es, clock, since, seen, c0, _, h2, _, _, _, _, _, _, _, h1⟩ := h
  intro k hk
  obtain ⟨x, hx, e, _⟩ := (h1 k).1 hk
  exact (h2.has k).2 ⟨x, hx, e⟩
theorem KRange.lt_of_new {w : World} {b r : Nat} {m : List (Ck.Knot × Int)} {ks : List Ck.Knot} (h : KRange w b r m ks) {k : Ck.Knot} (hk : k ∈ m.map (·.1)) (hn : k ∉ ks) : ks.length < m.length := by
  have h1 : (k :: ks).Nodup := List.nodup_cons.2 ⟨hn, h.nodup⟩
  have h2 := h1.length_le_of_subset (l₂ := m.map (·.1)) (fun x hx => by
    rcases List.mem_cons.1 hx with rfl | hx
    · exact hk
    · exact h.sub x hx)
  simp only [List.length_cons, List.length_map] at h2; omega
theorem KRange.of_walks {w w' : World} {b r : Nat} {m : List (Ck.Knot × Int)} {ks : List Ck.Knot} (h : KRange w b r m ks) (hk : KeepsWalks w w') : KRange w' b r m ks := by
  obtain ⟨es, clock, since, seen, c0, h1, h2, h3, h4, h5, h6⟩ := h
  exact ⟨es, clock, since, seen, c0, hk.same b _ h1 rfl, h2, h3, h4, hk.same r _ h5 rfl, h6⟩
theorem KRange.left_eq {w w' : World} {b r : Nat} {m : List (Ck.Knot × Int)} {ks : List Ck.Knot} (h : KRange w b r m ks) (hk : KeepsWalks w w') : w'.rangeLeft b r = w.rangeLeft b r := by
  obtain ⟨es, clock, since, seen, c0, h1, h2⟩ := h.owns
  simp only [World.rangeLeft, h1, h2, hk.same b _ h1 rfl, hk.same r _ h2 rfl]

theorem MIs.range {w : World} {b : Nat} {m : List (Ck.Knot × Int)} (h : MIs w b m) :
    ∃ w', (Instr.range 62 (.map (some b))).run Tryz.prog w = .ok (.pointer (some ⟨w.heap.size, 0, none⟩)) w' ∧ KRange w' b w.heap.size m [] ∧ w.grownBy w' none ∧ w'.heap.size = w.heap.size + 1 := by
  have hlt := h.lt
  obtain ⟨es, clock, h1, h2, h3, h4, h5⟩ := h
  refine ⟨_, run_range_map w _ _ _ b es clock Tryz.underlying62 h1, ⟨es, clock, clock, #[], clock, ((MapKept.heap_alloc w _).2 b hlt).trans h1, h2, h3, h4, (MapKept.heap_alloc w _).1, h5, Nat.le_refl _, Nat.le_refl _, List.nodup_nil, fun k => by simp⟩, World.grownBy_alloc w _ none, by simp⟩

theorem KRange.next {w : World} {b r : Nat} {m : List (Ck.Knot × Int)} {ks : List Ck.Knot} (h : KRange w b r m ks) (ty : TypeId) :
    ((∀ k, k ∈ ks ↔ k ∈ m.map (·.1)) ∧ (Instr.next (.pointer (some ⟨r, 0, none⟩)) false ty).run Tryz.prog w = .ok (.tuple #[.bool false]) w) ∨
    ∃ k v w', (k, v) ∈ m ∧ k ∉ ks ∧ (Instr.next (.pointer (some ⟨r, 0, none⟩)) false ty).run Tryz.prog w = .ok (.tuple #[.bool true, kvv k, .int .i64 v]) w' ∧ KRange w' b r m (ks ++ [k]) ∧ w'.rangeLeft b r < w.rangeLeft b r ∧ w.grownBy w' (some r) ∧ w'.heap.size = w.heap.size ∧
      (Instr.entry (.pointer (some ⟨r, 0, none⟩))).run Tryz.prog w' = .ok (.tuple #[kvv k, .int .i64 v]) w' := by
  obtain ⟨es, clock, since, seen, c0, hb, h2, h3, h4, hr, hold, hsc, hsk, hks, hiff⟩ := h
  have hne : r ≠ b := by rintro rfl; rw [hb] at hr; cases hr
  rcases run_next_at (P := Tryz.prog) w ty r b since c0 seen es clock hr hb hold hsc with ⟨h0, hrun⟩ | ⟨e, he, w1, hal, hrun⟩
  · refine .inl ⟨fun k => ?_, hrun⟩
    rw [hiff, h2.has]
    constructor
    · rintro ⟨x, hx, hk, _⟩; exact ⟨x, hx, hk⟩
    · rintro ⟨x, hx, hk⟩; exact ⟨x, hx, hk, all_seen es seen h0 x hx⟩
  · obtain ⟨hem, hes⟩ := mem_left he
    obtain ⟨p, hp, hkey, hval⟩ := h2.mem hem
    have hr1 : w1.heap[r]? = some (.mapIter (some b) since seen c0) := by rcases hal with rfl | rfl <;> exact hr
    have hb1 : w1.heap[b]? = some (.map es clock) := by rcases hal with rfl | rfl <;> exact hb
    have hset := heap_set (o' := .mapIter (some b) since (seen.push e.born) clock) hr1
    have hb' : (setBlock w1 r (.mapIter (some b) since (seen.push e.born) clock)).heap[b]? = some (.map es clock) := (hset.2 b (fun e1 => hne e1.symm)).trans hb1
    have hnew : p.1 ∉ ks := fun hk => by
      obtain ⟨x, hx, hxk, hxs⟩ := (hiff p.1).1 hk
      rw [h2.one h3 hx hem (hxk.trans hkey.symm), hes] at hxs
      cases hxs
    refine .inr ⟨p.1, p.2, _, hp, hnew, by rw [hrun, hkey, hval], ⟨es, clock, since, seen.push e.born, clock, hb', h2, h3, h4, hset.1, hold, hsk, hsk, ?_, fun k => ?_⟩, ?_, ?_, ?_, ?_⟩
    · exact List.nodup_append.2 ⟨hks, by simp, fun a ha c hc => by
        simp at hc; subst hc; exact fun e => hnew (e ▸ ha)⟩
    · rw [List.mem_append, hiff, List.mem_singleton]
      constructor
      · rintro (⟨x, hx, hk, hs⟩ | rfl)
        · exact ⟨x, hx, hk, by rw [contains_push, hs]; rfl⟩
        · exact ⟨e, hem, hkey, by rw [contains_push]; simp⟩
      · rintro ⟨x, hx, hk, hs⟩
        rw [contains_push] at hs
        cases hc : seen.contains x.born
        · rw [hc, Bool.false_or] at hs
          have hbe : x.born = e.born := by simpa using hs
          refine .inr ?_
          have hxe : x = e := born_inj h4 hx hem hbe
          subst hxe
          exact kvv_inj (hk.symm.trans hkey)
        · exact .inl ⟨x, hx, hk, hc⟩
    · have e1 : World.rangeLeft w b r = (leftOf es seen).size := by simp only [World.rangeLeft, hb, hr]
      have e2 : ∀ W : World, W.heap[b]? = some (.map es clock) → W.heap[r]? = some (.mapIter (some b) since (seen.push e.born) clock) → W.rangeLeft b r = (leftOf es (seen.push e.born)).size := fun W h1 h2 => by simp only [World.rangeLeft, h1, h2]
      rw [e1, e2 _ hb' hset.1]
      exact left_shrinks es seen e he
    · rcases hal with rfl | rfl <;> exact ⟨rfl, rfl, rfl, by simp [setBlock], fun i _ hi => hset.2 i (fun e1 => hi (by rw [e1]))⟩
    · rcases hal with rfl | rfl <;> simp [setBlock]
    · rw [run_entry_at _ r b since seen es clock e hset.1 hb' hem h4, hkey, hval]

def PairOf (m : List (Ck.Knot × Int)) (k : Ck.Knot) (v : Int) : Prop := (k, v) ∈ m
def KeyOf (m : List (Ck.Knot × Int)) (k : Ck.Knot) : Prop := k ∈ m.map (·.1)
section
variable {F : Fence} {n : Nat} (w : World) {ops : Array Oper} {rest : List Oper} {o : Oper} {a : Act} {Q : Exit → Act → World → Prop}
theorem wpListIn_range_knots (hg : o.guard = none) (m : Operand) (hop : o.op = Op.range 62 m) (b : Nat) (ps : List (Ck.Knot × Int)) (hm : a.eval m = .map (some b)) (hown : MIs w b ps)
    (hK : ∀ w', KRange w' b w.heap.size ps [] → w.grownBy w' none → w'.heap.size = w.heap.size + 1 → wpListIn F n Tryz.prog ops Q rest (a.put o.dst (.pointer (some ⟨w.heap.size, 0, none⟩))) w') :
    wpListIn F n Tryz.prog ops Q (o :: rest) a w := by
  refine wpListIn_plain hg fun K' hK' => ?_
  obtain ⟨w', hrun, r1, r2, r3⟩ := hown.range
  unfold Oper.wpIn
  refine ⟨?_, ?_⟩
  · simp [Oper.about, hop]
  · rw [Oper.semAt_plain F _ _ (by rw [hop]; intro c hc'; cases hc')]
    simp [execOp, hop, hm, hrun, Result.andThen]
    exact hK' _ _ (hK w' r1 r2 r3)
theorem wpListIn_next_knots (hg : o.guard = none) (it : Operand) (hop : o.op = Op.next it false) (b r : Nat) (ps : List (Ck.Knot × Int)) (ks : List Ck.Knot) (hit : a.eval it = .pointer (some ⟨r, 0, none⟩)) (h : KRange w b r ps ks)
    (hDone : (∀ k, k ∈ ks ↔ KeyOf ps k) → wpListIn F n Tryz.prog ops Q rest (a.put o.dst (.tuple #[.bool false])) w)
    (hMore : ∀ (k : Ck.Knot) (v : Int) (w' : World), KeyOf ps k → k ∉ ks → KRange w' b r ps (ks ++ [k]) → w'.rangeLeft b r < w.rangeLeft b r → w.grownBy w' (some r) → w'.heap.size = w.heap.size →
      (Instr.entry (.pointer (some ⟨r, 0, none⟩))).run Tryz.prog w' = .ok (.tuple #[.agg #[.int .i64 k.x, .int .i64 k.y], .int .i64 v]) w' → wpListIn F n Tryz.prog ops Q rest (a.put o.dst (.tuple #[.bool true, .agg #[.int .i64 k.x, .int .i64 k.y], .int .i64 v])) w') :
    wpListIn F n Tryz.prog ops Q (o :: rest) a w := by
  refine wpListIn_plain hg fun K' hK' => ?_
  unfold Oper.wpIn
  refine ⟨by simp [Oper.about, hop], ?_⟩
  rw [Oper.semAt_plain F _ _ (by rw [hop]; intro c hc'; cases hc')]
  rcases h.next o.type with ⟨hl, hrun⟩ | ⟨k, v, w', h1, h2, hrun, h3, h4, h5, h6, h7⟩
  · simp [execOp, hop, hit, hrun, Result.andThen]
    exact hK' _ _ (hDone hl)
  · simp [execOp, hop, hit, hrun, Result.andThen]
    exact hK' _ _ (hMore k v w' (show KeyOf ps k from List.mem_map_of_mem (f := fun p : Ck.Knot × Int => p.1) h1) h2 h3 h4 h5 h6 h7)
theorem wpListIn_next_pairs (hg : o.guard = none) (it : Operand) (hop : o.op = Op.next it false) (b r : Nat) (ps : List (Ck.Knot × Int)) (ks : List Ck.Knot) (hit : a.eval it = .pointer (some ⟨r, 0, none⟩)) (h : KRange w b r ps ks)
    (hDone : (∀ k, k ∈ ks ↔ KeyOf ps k) → wpListIn F n Tryz.prog ops Q rest (a.put o.dst (.tuple #[.bool false])) w)
    (hMore : ∀ (k : Ck.Knot) (v : Int) (w' : World), PairOf ps k v → k ∉ ks → KRange w' b r ps (ks ++ [k]) → w'.rangeLeft b r < w.rangeLeft b r → w.grownBy w' (some r) → w'.heap.size = w.heap.size →
      (Instr.entry (.pointer (some ⟨r, 0, none⟩))).run Tryz.prog w' = .ok (.tuple #[.agg #[.int .i64 k.x, .int .i64 k.y], .int .i64 v]) w' → wpListIn F n Tryz.prog ops Q rest (a.put o.dst (.tuple #[.bool true, .agg #[.int .i64 k.x, .int .i64 k.y], .int .i64 v])) w') :
    wpListIn F n Tryz.prog ops Q (o :: rest) a w := by
  refine wpListIn_plain hg fun K' hK' => ?_
  unfold Oper.wpIn
  refine ⟨by simp [Oper.about, hop], ?_⟩
  rw [Oper.semAt_plain F _ _ (by rw [hop]; intro c hc'; cases hc')]
  rcases h.next o.type with ⟨hl, hrun⟩ | ⟨k, v, w', h1, h2, hrun, h3, h4, h5, h6, h7⟩
  · simp [execOp, hop, hit, hrun, Result.andThen]
    exact hK' _ _ (hDone hl)
  · simp [execOp, hop, hit, hrun, Result.andThen]
    exact hK' _ _ (hMore k v w' h1 h2 h3 h4 h5 h6 h7)
end
end Go.Proofs.YthihjphcjjpjpaaGreat

/- A sheet's bars: plain mathematics, the bars of a cell, the iterator. -/
namespace Go.Proofs.YthihjphcjjpjpaaGreat
open Go.RowKit Go.Shelf Ck

def cel0 (x y : Int) (o : Bool) : Bar := if o then ⟨x + 1, y, -1⟩ else ⟨x, y, 1⟩
def cel1 (x y : Int) (o : Bool) : Bar := if o then ⟨x + 1, y, 1⟩ else ⟨x + 2, y, -1⟩
def oddB (r : Nat) : Bool := decide (r % 2 = 1)
def cellL (x y : Int) (r c : Nat) : List Bar := [cel0 (x + 2 * (c : Int)) (y + (r : Int)) (oddB r), cel1 (x + 2 * (c : Int)) (y + (r : Int)) (oddB r)]
/-- The first k cells of the row r. -/
def rowL (x y : Int) (r k : Nat) : List Bar := (List.range k).flatMap (cellL x y r)
/-- The first r rows. -/
def sheetP (x y : Int) (cols r : Nat) : List Bar := (List.range r).flatMap fun q => rowL x y q cols
theorem rowL_succ (x y : Int) (r k : Nat) : rowL x y r (k + 1) = rowL x y r k ++ cellL x y r k := by simp [rowL, List.range_succ]
theorem sheetP_succ (x y : Int) (cols r : Nat) : sheetP x y cols (r + 1) = sheetP x y cols r ++ rowL x y r cols := by simp [sheetP, List.range_succ]
theorem rowL_length (x y : Int) (r : Nat) : ∀ k, (rowL x y r k).length = 2 * k
  | 0 => rfl
  | k + 1 => by rw [rowL_succ, List.length_append, rowL_length x y r k]; simp [cellL]; omega
theorem sheetP_length (x y : Int) (cols : Nat) : ∀ r, (sheetP x y cols r).length = 2 * (cols * r)
  | 0 => by simp [sheetP]
  | r + 1 => by rw [sheetP_succ, List.length_append, sheetP_length x y cols r, rowL_length, Nat.mul_succ]; omega
theorem pre_short (x y : Int) {cols rows r c i : Nat} (hc : cols ≤ 256) (hr : rows ≤ 256) (h1 : r < rows) (h2 : c < cols) (h3 : i ≤ 2) : (sheetP x y cols r ++ rowL x y r c ++ (cellL x y r c).take i).length < 200000 := by
  rw [List.length_append, List.length_append, sheetP_length, rowL_length, List.length_take]
  have : cols * r ≤ 256 * 256 := Nat.mul_le_mul hc (by omega)
  omega

set_option maxHeartbeats 1000000 in
set_option maxRecDepth 100000 in
theorem netCellBars (x y : Int) (o : Bool) (w : World) (hx1 : -200000 ≤ x) (hx2 : x ≤ 200000) (_ : -200000 ≤ y) (_ : y ≤ 200000) :
    Calls Tryz.prog 61 #[.int .i64 x, .int .i64 y, .bool o] w fun e w' => e = .returned (.agg #[.int .i64 (cel0 x y o).x, .int .i64 (cel0 x y o).y, .int .i64 (cel0 x y o).s, .int .i64 (cel1 x y o).x, .int .i64 (cel1 x y o).y, .int .i64 (cel1 x y o).s]) ∧ Below w.heap.size w w' := by
  cases o
  · go_enter Tryz.func61, Tryz.ntmps61
    go_wp2
    exact bodyPost_ret (v := .agg #[.int .i64 x, .int .i64 y, .int .i64 1, .int .i64 (x + 2), .int .i64 y, .int .i64 (-1)]) (by simp [results, Tryz.results61, go_sem]) rfl ⟨rfl, by
      first
      | exact ((Below.refl _ _).alloc (Nat.le_refl _) _)
      | exact ((((((((Below.refl _ _).alloc (Nat.le_refl _) _).setCell (by simp) _).setCell (by simp) _).setCell (by simp) _).setCell (by simp) _).setCell (by simp) _).setCell (by simp) _)⟩
  · go_enter Tryz.func61, Tryz.ntmps61
    go_wp2
    exact bodyPost_ret (v := .agg #[.int .i64 (x + 1), .int .i64 y, .int .i64 (-1), .int .i64 (x + 1), .int .i64 y, .int .i64 1]) (by simp [results, Tryz.results61, go_sem]) rfl ⟨rfl, by
      first
      | exact ((Below.refl _ _).alloc (Nat.le_refl _) _)
      | exact ((((((((Below.refl _ _).alloc (Nat.le_refl _) _).setCell (by simp) _).setCell (by simp) _).setCell (by simp) _).setCell (by simp) _).setCell (by simp) _).setCell (by simp) _)⟩
theorem idxB0 (a b c d e f : Value) (w : World) : (Instr.index 103 (.agg #[a, b, c, d, e, f]) (.int .i64 0)).run Tryz.prog w = .ok (.agg #[a, b, c]) w := by kernel_rfl
theorem idxB1 (a b c d e f : Value) (w : World) : (Instr.index 103 (.agg #[a, b, c, d, e, f]) (.int .i64 1)).run Tryz.prog w = .ok (.agg #[d, e, f]) w := by kernel_rfl

/-- The blocks from B1 to below B2 are as they were. -/
def KR (B1 B2 : Nat) (W W' : World) : Prop := W.heap.size ≤ W'.heap.size ∧ ∀ b, B1 ≤ b → b < B2 → W'.heap[b]? = W.heap[b]?
theorem KR.refl (B1 B2 : Nat) (W : World) : KR B1 B2 W W := ⟨Nat.le_refl _, fun _ _ _ => rfl⟩
theorem KR.trans {B1 B2 : Nat} {A B C : World} (h : KR B1 B2 A B) (k : KR B1 B2 B C) : KR B1 B2 A C := ⟨Nat.le_trans h.1 k.1, fun b h1 h2 => (k.2 b h1 h2).trans (h.2 b h1 h2)⟩
theorem KR.of_below {B1 B2 : Nat} {W W' : World} (h : Below W.heap.size W W') (hB : B2 ≤ W.heap.size) : KR B1 B2 W W' := ⟨h.size, fun b _ h2 => h.block b (by omega)⟩
theorem KR.cell {B1 B2 : Nat} {W W' : World} (h : KR B1 B2 W W') {b o : Nat} (h1 : B1 ≤ b) (h2 : b < B2) : W'.cell? ⟨b, o, none⟩ = W.cell? ⟨b, o, none⟩ := World.cell?_of_block (h.2 b h1 h2)
theorem KR.put {B1 B2 : Nat} {w : World} (hB : B2 ≤ w.heap.size) (W : World) (l : Nat) (o o' : Obj) (hl : w.heap.size ≤ l) (_ : W.heap[l]? = some o) (_ : o.isCells = false) (_ : o.isWalk = false) : KR B1 B2 W (W.putObj l o') :=
  ⟨by simp, fun b _ h2 => World.putObj_heap_other (by omega)⟩
def barArr (b : Bar) : Array Value := #[.agg #[.int .i64 b.x, .int .i64 b.y, .int .i64 b.s]]
theorem grown_below {W W' : World} (hb : Below W.heap.size W W') : W.grownBy W' none := ⟨hb.os, hb.tape, hb.output, hb.size, fun i hi _ => hb.block i hi⟩

set_option maxRecDepth 100000 in
set_option maxHeartbeats 4000000 in
theorem sheet1_in (l Br Bc Ba B1 B2 n : Nat) (hn : 2 ≤ n) (x y : Int) (cols rows : Nat) (hc1 : cols ≤ 256) (hr1 : rows ≤ 256) (hx1 : -100000 ≤ x) (hx2 : x ≤ 100000) (hy1 : -100000 ≤ y) (hy2 : y ≤ 100000) (J Jx : List Bar → World → Prop)
    (hY : ∀ pre b W, J pre W → pre.length < 200000 → YieldAt Fence.wide (n - 1) Tryz.prog l (barArr b) W fun e W' =>
      (e = .returned (.bool true) ∧ J (pre ++ [b]) W' ∧ KR B1 B2 W W') ∨ (e = .returned (.bool false) ∧ Jx (pre ++ [b]) W'))
    (W : World) (hJ : AbidesFrom W.heap.size J) (hB : B2 ≤ W.heap.size) (_ : B1 ≤ Br) (_ : Br < B2) (hBc : B1 ≤ Bc) (hBc' : Bc < B2) (hBa : B1 ≤ Ba) (hBa' : Ba < B2)
    (mr : W.cell? ⟨Br, 0, none⟩ = some (.int .i64 rows)) (mc : W.cell? ⟨Bc, 0, none⟩ = some (.int .i64 cols)) (mx : W.cell? ⟨Ba, 0, none⟩ = some (.int .i64 x)) (my : W.cell? ⟨Ba, 1, none⟩ = some (.int .i64 y)) (h0 : J [] W) :
    CallsIn Fence.wide n Tryz.prog 60 #[.func (.yield l) #[] #[], .pointer (some ⟨Br, 0, none⟩), .pointer (some ⟨Bc, 0, none⟩), .pointer (some ⟨Ba, 0, none⟩)] W fun e W' => (∃ v, e = .returned v) ∧
      ((∃ ss : List Bar, ss = sheetP x y cols rows ∧ J ss W') ∨ (∃ pre : List Bar, True ∧ Jx pre W')) := by
  have hJn : ∀ {s : List Bar} {A B : World}, J s A → Below A.heap.size A B → J s B := fun hs hb => hJ _ _ _ none hs (grown_below hb) (fun r e => by cases e)
  have hf60 : Fence.wide.fn 61 := trivial
  have h1n : 1 ≤ n := by omega
  refine callsIn_of_wp Tryz.func60 rfl trivial ?_ rfl
  simp only [Tryz.ntmps60, List.size_toArray, List.length_cons, List.length_nil, Nat.reduceAdd, Nat.reduceSub, Array.replicate_succ, Array.replicate_zero, List.push_toArray, List.append_toArray, List.nil_append, List.cons_append]
  gi_wp2
  gi_loopw [10] (fun v wr => ∃ r : Nat, r ≤ rows ∧ v = .int .i64 r ∧ J (sheetP x y cols r) wr ∧ KR B1 B2 W wr) (fun v _ => rows - (intOf v).toNat)
  case atStart => exact ⟨0, Nat.zero_le _, rfl, h0, KR.refl _ _ _⟩
  case round =>
    obtain ⟨r, hr, rfl, hJr, hK⟩ := hrel
    by_cases hlt : r < rows
    · have nc := (hK.cell (o := 0) hBc hBc').trans mc
      gi_wp2
      gi_loopw [14] (fun v wr => ∃ c : Nat, c ≤ cols ∧ v = .int .i64 c ∧ J (sheetP x y cols r ++ rowL x y r c) wr ∧ KR B1 B2 W wr) (fun v _ => cols - (intOf v).toNat)
      case atStart => exact ⟨0, Nat.zero_le _, rfl, by simpa [rowL] using hJr, hK⟩
      case round =>
        obtain ⟨c, hc, rfl, hJc, hK2⟩ := hrel
        by_cases hltc : c < cols
        · have nx := (hK2.cell (o := 0) hBa hBa').trans mx
          have ny := (hK2.cell (o := 1) hBa hBa').trans my
          obtain ⟨o, ho⟩ : ∃ o, oddB r = o := ⟨_, rfl⟩
          have hoq : ((r : Int) % 2 == 1) = o := by
            rw [← ho, oddB, Bool.eq_iff_iff, beq_iff_eq, decide_eq_true_eq]; omega
          have HO := Lib.hid ho
          clear ho
          gi_wp2_with (gi_at_call 61; refine (callsIn_wide.2 (netCellBars (x + 2 * (c : Int)) (y + (r : Int)) o _ (by omega) (by omega) (by omega) (by omega))).mono ?_; rintro e w2 ⟨rfl, hb2⟩)
          have hBr2 : B2 ≤ wr.heap.size := Nat.le_trans hB hK2.1
          have hJ2 := hJn hJc hb2
          have hK3 := hK2.trans (KR.of_below hb2 hBr2)
          have HC0 := Lib.hid (show cellL x y r c = [cel0 (x + 2 * (c : Int)) (y + (r : Int)) o, cel1 (x + 2 * (c : Int)) (y + (r : Int)) o] by rw [cellL, HO.out])
          generalize cel0 (x + 2 * (c : Int)) (y + (r : Int)) o = p0 at *
          generalize cel1 (x + 2 * (c : Int)) (y + (r : Int)) o = p1 at *
          have hp0 := pre_short x y hc1 hr1 (i := 0) hlt hltc (by omega)
          have hp1 := pre_short x y hc1 hr1 (i := 1) hlt hltc (by omega)
          rw [HC0.out] at hp0 hp1
          have hlt' := Lib.hid hlt
          have hltc' := Lib.hid hltc
          clear nx ny hJc
          gi_loopw [30] (fun v wi => ∃ i : Nat, i ≤ 2 ∧ v = .int .i64 i ∧ J (sheetP x y cols r ++ rowL x y r c ++ [p0, p1].take i) wi ∧ KR B1 B2 W wi) (fun v _ => 2 - (intOf v).toNat)
          case atStart => exact ⟨0, Nat.zero_le _, rfl, by simpa using hJ2, hK3⟩
          case round =>
            obtain ⟨i, hi, rfl, hJi, hKi⟩ := hrel
            have hi3 : i = 0 ∨ i = 1 ∨ i = 2 := by omega
            rcases hi3 with rfl | rfl | rfl
            · have ix := idxB0 (.int .i64 p0.x) (.int .i64 p0.y) (.int .i64 p0.s) (.int .i64 p1.x) (.int .i64 p1.y) (.int .i64 p1.s)
              have hJ3 : J (sheetP x y cols r ++ rowL x y r c ++ [p0, p1].take 0) (wr.alloc (.cells #[.int .i64 p0.x, .int .i64 p0.y, .int .i64 p0.s] 52)) := hJn hJi ((Below.refl _ _).alloc (Nat.le_refl _) _)
              have hK4 : KR B1 B2 W (wr.alloc (.cells #[.int .i64 p0.x, .int .i64 p0.y, .int .i64 p0.s] 52)) := hKi.trans (KR.of_below ((Below.refl _ _).alloc (Nat.le_refl _) _) (Nat.le_trans hB hKi.1))
              obtain ⟨fn, tmps, assign, body, hy, hR⟩ := hY _ p0 _ hJ3 hp0
              dsimp only [barArr] at hy
              gi_wp2
              refine hR.mono ?_
              rintro e W3 (⟨rfl, hJ4, hk3⟩ | ⟨rfl, hJx3⟩)
              · gi_wp2
                go_roundw
                case rel => exact ⟨1, by omega, rfl, by simpa using hJ4, hK4.trans hk3⟩
                case measure => simp [intOf]
              · gi_wp2
                refine bodyPost_ret (results_none rfl _ _ _) rfl ?_
                exact ⟨⟨_, rfl⟩, .inr ⟨_, trivial, hJx3⟩⟩
            · have ix := idxB1 (.int .i64 p0.x) (.int .i64 p0.y) (.int .i64 p0.s) (.int .i64 p1.x) (.int .i64 p1.y) (.int .i64 p1.s)
              have hJ3 : J (sheetP x y cols r ++ rowL x y r c ++ [p0, p1].take 1) (wr.alloc (.cells #[.int .i64 p1.x, .int .i64 p1.y, .int .i64 p1.s] 52)) := hJn hJi ((Below.refl _ _).alloc (Nat.le_refl _) _)
              have hK4 : KR B1 B2 W (wr.alloc (.cells #[.int .i64 p1.x, .int .i64 p1.y, .int .i64 p1.s] 52)) := hKi.trans (KR.of_below ((Below.refl _ _).alloc (Nat.le_refl _) _) (Nat.le_trans hB hKi.1))
              obtain ⟨fn, tmps, assign, body, hy, hR⟩ := hY _ p1 _ hJ3 hp1
              dsimp only [barArr] at hy
              gi_wp2
              refine hR.mono ?_
              rintro e W3 (⟨rfl, hJ4, hk3⟩ | ⟨rfl, hJx3⟩)
              · gi_wp2
                go_roundw
                case rel => exact ⟨2, by omega, rfl, by simpa using hJ4, hK4.trans hk3⟩
                case measure => simp [intOf]
              · gi_wp2
                refine bodyPost_ret (results_none rfl _ _ _) rfl ?_
                exact ⟨⟨_, rfl⟩, .inr ⟨_, trivial, hJx3⟩⟩
            · gi_wp2
              go_roundw
              case rel => exact ⟨c + 1, by have := hltc'.out; omega, by go_num, by rw [rowL_succ, HC0.out, ← List.append_assoc]; simpa using hJi, hKi⟩
              case measure => have := hltc'.out; simp [intOf]; omega
        · have e : c = cols := by omega
          subst e
          gi_wp2
          go_roundw
          case rel => exact ⟨r + 1, by omega, by go_num, by rw [sheetP_succ]; exact hJc, hK2⟩
          case measure => simp [intOf]; omega
    · have e : r = rows := by omega
      subst e
      gi_wp2
      go_end0
      exact ⟨⟨_, rfl⟩, .inl ⟨_, rfl, hJr⟩⟩
end Go.Proofs.YthihjphcjjpjpaaGreat
