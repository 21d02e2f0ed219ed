/- Helpers, part 3. -/
import Derived.Test.YthihjphcjjpjpaaL2
import Derived.Deep.LoopGhost
import Derived.Maps.AppendAt
import Derived.Laws.MakeOwn
import Derived.Deep.AppendLies
import Derived.Deep.RegionLaw
/- The contract of numberFrom. -/
namespace Go.Proofs.Ythihjphcjjpjpaa
open Go.RowKit

theorem Try.info23 : (Try.prog.info? 23).map (fun i => (i.zero, i.size, i.bytes)) = some (some (.agg #[.int .i64 0, .int .i64 0]), 2, 16) := by kernel_rfl
/-- The number n is given to all knots that are connected with src. -/
def Numbered (l : List Ck.Bar) (src : Ck.Knot) (n : Int) (M0 M : List (Ck.Knot × Int)) : Prop :=
  (∀ k, Ck.Conn l src k → mget M k = n) ∧ ∀ k, ¬ Ck.Conn l src k → mget M k = mget M0 k
def NumPost (l : List Ck.Bar) (src : Ck.Knot) (n : Int) (M0 : List (Ck.Knot × Int)) (b : Nat) (w : World) (e : Ending) (w' : World) : Prop :=
  e = .returned (.tuple #[]) ∧ ∃ M, Numbered l src n M0 M ∧ MIs w' b M ∧ w.grownBy w' (some b)
theorem one_row (w : World) (base : Nat) (hb : base ≤ w.heap.size) (a b : Value) (t : TypeId) : (w.alloc (.cells #[a, b] t)).ownsRow base t 2 (.slice (some ⟨w.heap.size, 0, none⟩) 1 1) 1 [a, b] :=
  ⟨rfl, .inr ⟨_, _, _, rfl, hb, heap_alloc_new _ _, Nat.le_refl _, by unfold maxLen; omega, rfl, rfl⟩⟩

def numRel (l : List Ck.Bar) (src : Ck.Knot) (n : Int) (M0 : List (Ck.Knot × Int)) (b : Nat) (w : World) (g : Nat) (v : Value) (wi : World) : Prop :=
  ∃ V S M, g = 2 * ((Ck.ends l).length - V.length) + S.length ∧ Fl l M0 src n M V S none 0 ∧ wi.ownsRow w.heap.size 23 2 v S.length (kcellsL S) ∧ MIs wi b M ∧ w.grownBy wi (some b)

theorem end_range {l : List Ck.Bar} (hok : ∀ x ∈ l, Ck.okBar x) {k : Ck.Knot} (h : k ∈ Ck.ends l) : -100000 ≤ k.x ∧ k.x ≤ 100000 ∧ -100000 ≤ k.y ∧ k.y ≤ 100000 := by
  obtain ⟨b, hb, h⟩ := Ck.mem_ends.1 h
  obtain ⟨⟨h1, h2, _⟩, _, h4, h5⟩ := hok b hb
  rcases h with rfl | rfl
  · exact ⟨h1.1, h1.2, h2.1, h2.2⟩
  · exact ⟨h4.1, h4.2, h5.1, h5.2⟩
def numIn (l : List Ck.Bar) (src : Ck.Knot) (n : Int) (M0 : List (Ck.Knot × Int)) (b : Nat) (w : World) (k : Ck.Knot) (B G : Nat) (g : Nat) (v i : Value) (wi : World) : Prop :=
  ∃ j V S M, g = 4 - j ∧ j ≤ 4 ∧ i = .int .i64 (j : Nat) ∧ Fl l M0 src n M V S (some k) j ∧ wi.ownsRow w.heap.size 23 2 v S.length (kcellsL S) ∧ v.ownBlock ≠ some B ∧ MIs wi b M ∧ w.grownBy wi (some b) ∧
    wi.cell? ⟨B, 0, none⟩ = some (.int .i64 k.x) ∧ wi.cell? ⟨B, 1, none⟩ = some (.int .i64 k.y) ∧ B < wi.heap.size ∧ 2 * ((Ck.ends l).length - V.length) + S.length < G
theorem meas_push {N v s G : Nat} (h : 2 * (N - v) + s < G) (hv : v + 1 ≤ N) : 2 * (N - (v + 1)) + (s + 1) < G := by omega

set_option maxHeartbeats 4000000 in
set_option maxRecDepth 100000 in
theorem netNumberFrom (A : Option Addr) (c b : Nat) (l : List Ck.Bar) (src : Ck.Knot) (n : Int) (M0 : List (Ck.Knot × Int)) (w : World) (hl : l.length ≤ 4096) (hs : l.Pairwise Ck.Blt) (hok : ∀ x ∈ l, Ck.okBar x) (h : RB w w.heap.size A l)
    (hsrc : src ∈ Ck.ends l) (hn : 0 < n) (hn2 : n ≤ 10000) (h0 : mget M0 src = 0) (hcl : Closed l M0) (hM : MIs w b M0) :
    Calls Try.prog 81 #[.slice A l.length c, .agg #[.int .i64 src.x, .int .i64 src.y], .map (some b), .int .i64 n] w (NumPost l src n M0 b w) := by
  obtain ⟨i0, hi, hz0, hz1, hz2⟩ := info_parts Try.info23
  have HS := Lib.hid hs
  have HR := Lib.hid h
  have HI := Lib.hid hi
  have HZ0 := Lib.hid hz0
  have HZ1 := Lib.hid hz1
  have HZ2 := Lib.hid hz2
  have H0 := Lib.hid h0
  have HCL := Lib.hid hcl
  have HOK := Lib.hid hok
  have HM := Lib.hid hM
  have hlt := hM.lt
  clear hs h hi hz0 hz1 hz2 h0 hcl hok hM
  go_enter Try.func81, Try.ntmps81
  obtain ⟨w1, hw1, c0, c1, hb1, hz1⟩ := box2 w (.int .i64 src.x) (.int .i64 src.y) 23
  have HW := Lib.hid hw1
  clear hw1
  go_wp2_with (at_mapUpdate; refine wpList_mapUpdate_kn _ rfl _ _ _ rfl b M0 (by exact HM.out.below ((Below.refl _ _).alloc (Nat.le_refl _) _) hlt) src n rfl rfl rfl ?_; intro w2 hm2 hg2; rw [← HW.out] at hg2; have e0 : w2.cell? ⟨w.heap.size, 0, none⟩ = some (.int .i64 src.x) := (World.cell?_of_block (hg2.block w.heap.size hz1 (fun e => by cases e; omega))).trans c0; have e1 : w2.cell? ⟨w.heap.size, 1, none⟩ = some (.int .i64 src.y) := (World.cell?_of_block (hg2.block w.heap.size hz1 (fun e => by cases e; omega))).trans c1)
  have hgw : w.grownBy w2 (some b) := (gb_of_below hb1).trans hg2
  have HST := Lib.hid (Fl.start (l := l) (M0 := M0) (n := n) hsrc)
  have HEL := Lib.hid (ends_length l)
  go_loopg [8, 9, 11, 12] (2 * ((Ck.ends l).length - 1) + 1) (fun g v _ _ _ wi => numRel l src n M0 b w g v wi)
  case atStart => exact ⟨[src], [src], _, rfl, HST.out, one_row _ _ (by have := hgw.size; omega) _ _ _, hm2.below ((Below.refl _ _).alloc (Nat.le_refl _) _) hm2.lt, gb_below hgw ((Below.refl _ _).alloc (Nat.le_refl _) _)⟩
  case round =>
    obtain ⟨V, S, M, hg, hfl, hown, hmi, hgi⟩ := hrel
    have HG := Lib.hid hg
    have HFL := Lib.hid hfl
    have HOW := Lib.hid hown
    clear hg hfl hown
    rcases List.eq_nil_or_concat S with rfl | ⟨S', k, hSk⟩
    · have HRES := Lib.hid (HFL.out.result (fun x hx => (HOK.out x hx).2.1))
      rw [show ([] : List Ck.Knot).length = 0 from rfl] at HOW
      have hv : u8 = .slice none 0 0 ∨ ∃ g cap, u8 = .slice (some ⟨g, 0, none⟩) 0 cap := by
        rcases HOW.out.2 with ⟨h, _⟩ | ⟨g, cap, _, h, _⟩
        · exact .inl h
        · exact .inr ⟨g, cap, h⟩
      have HGI := Lib.hid hgi
      rcases hv with rfl | ⟨g, cap, rfl⟩
      all_goals
        go_wp2
        go_end0
        exact ⟨rfl, M, HRES.out, hmi, HGI.out⟩
    · rw [List.concat_eq_append] at hSk
      subst hSk
      have hle := (HFL.out.stack)
      have hbd := HFL.out.bound
      rw [HEL.out] at hbd
      simp only [List.length_append, List.length_cons, List.length_nil, Nat.zero_add] at hle
      rw [show (S' ++ [k]).length = S'.length + 1 from by simp] at HOW
      obtain ⟨g, cap, rfl, hbg, hcap1, hcap2, hgs⟩ := own_form HOW.out (by omega)
      obtain ⟨t0, t1⟩ := top_cells HOW.out
      unfold maxLen at hcap2
      have hk1 := HFL.out.ends k (HFL.out.sub k (by simp))
      have hi0 : (0 : Int) ≤ (S'.length : Int) := by omega
      have hi1 : (S'.length : Int) < (S'.length : Int) + 1 := by omega
      have hi2 : (S'.length : Int) ≤ (cap : Int) := by omega
      obtain ⟨kx1, kx2, ky1, ky2⟩ := end_range HOK.out hk1
      have hgz := hgi.size
      have hgb : g ≠ b := by omega
      obtain ⟨wo, rfl⟩ : ∃ wo : World, wo = wr := ⟨_, rfl⟩
      obtain ⟨w3, hw3, d0, d1, hb3, hz3⟩ := box2 wo (.int .i64 k.x) (.int .i64 k.y) 23
      have HW3 := Lib.hid hw3
      clear hw3
      go_wp2_with fail
      refine (netBarsAround k.x k.y _ (by omega) (by omega) (by omega) (by omega)).mono ?_
      rintro e w4 ⟨rfl, hb4⟩
      rw [← HW3.out] at hb4
      have hq4 : Below wo.heap.size wo w4 := hb3.trans (hb4.mono (by omega))
      have hz4 : wo.heap.size < w4.heap.size := Nat.lt_of_lt_of_le hz3 hb4.size
      have f0 := (hb4.cell (p := ⟨wo.heap.size, 0, none⟩) hz3).trans d0
      have f1 := (hb4.cell (p := ⟨wo.heap.size, 1, none⟩) hz3).trans d1
      have HO4 := Lib.hid (ownsRow_below (ownsRow_pop (kcellsL_length S') (by rw [← kcellsL_snoc]; exact HOW.out)) hq4)
      have hm4 := hmi.below hq4 hmi.lt
      have hg4 := gb_below hgi hq4
      have HP := Lib.hid HFL.out.pop
      clear t0 t1 d0 d1
      go_wp2_with fail
      go_loopg [8, 11, 12, 34] 4 (fun g' v _ _ i wi => numIn l src n M0 b w k wo.heap.size gk g' v i wi)
      case atStart =>
        refine ⟨0, V, S', M, rfl, by omega, rfl, HP.out, HO4.out, ?_, hm4, hg4, f0, f1, hz4, ?_⟩
        · intro e
          have e' : g = wo.heap.size := by injection e
          omega
        · rw [HG.out]; simp
      case round =>
        obtain ⟨j, V, S, M, hgk, hj, rfl, hfl, hown, hob, hmi, hgi, e0, e1, hBz, hme⟩ := hrel
        have HFL := Lib.hid hfl
        have HOW := Lib.hid hown
        have HOB := Lib.hid hob
        have HGK := Lib.hid hgk
        have HME := Lib.hid hme
        have hj' : j = 0 ∨ j = 1 ∨ j = 2 ∨ j = 3 ∨ j = 4 := by omega
        have hgz0 := hgz
        have hgz := hgi.size
        have HB := Lib.hid (((HR.out.grown HM.out (Nat.le_refl _) hgi).more hgi.size))
        clear hfl hown hob hgk hme
        rcases hj' with rfl | rfl | rfl | rfl | rfl
        · have hidx := ix0 (.int .i64 (k.x - 1)) (.int .i64 (k.y - 1)) (.int .i64 (1)) (.int .i64 (k.x + 1)) (.int .i64 (k.y - 1)) (.int .i64 (-1)) (.int .i64 (k.x)) (.int .i64 (k.y)) (.int .i64 (-1)) (.int .i64 (k.x)) (.int .i64 (k.y)) (.int .i64 (1))
          have HP := Lib.hid (show (nb k)[0]? = some ((⟨k.x - 1, k.y - 1, 1⟩ : Ck.Bar), (⟨k.x - 1, k.y - 1⟩ : Ck.Knot)) from rfl)
          by_cases hz : mget M (⟨k.x - 1, k.y - 1⟩ : Ck.Knot) = 0
          · have hzb : (mget M (⟨k.x - 1, k.y - 1⟩ : Ck.Knot) == 0) = true := by rw [hz]; rfl
            have HZ := Lib.hid hz
            clear hz
            cases hin : decide ((⟨k.x - 1, k.y - 1, 1⟩ : Ck.Bar) ∈ l)
            · have HIN := Lib.hid hin
              clear hin
              go_wp2_with fail
              refine (netOtherDown (k.x - 1) (k.y - 1) (1) k.x k.y _ (by omega)).mono ?_
              rintro e w5 ⟨rfl, hb5⟩
              have hq5 : Below wr.heap.size wr w5 := ((Below.refl _ _).alloc (Nat.le_refl _) _).trans (hb5.mono (by simp))
              have b0 : w5.cell? ⟨wr.heap.size, 0, none⟩ = some (.int .i64 (k.x - 1)) := by
                rw [hb5.cell (p := ⟨_, _, none⟩) (by simp), World.cell?_alloc_at _ _ _ _ (by simp)]; rfl
              have b1 : w5.cell? ⟨wr.heap.size, 1, none⟩ = some (.int .i64 (k.y - 1)) := by
                rw [hb5.cell (p := ⟨_, _, none⟩) (by simp), World.cell?_alloc_at _ _ _ _ (by simp)]; rfl
              have b2 : w5.cell? ⟨wr.heap.size, 2, none⟩ = some (.int .i64 (1)) := by
                rw [hb5.cell (p := ⟨_, _, none⟩) (by simp), World.cell?_alloc_at _ _ _ _ (by simp)]; rfl
              have hz5 : wr.heap.size < w5.heap.size := by have := hb5.size; simp at this; omega
              obtain ⟨w6, hw6, q0, q1, hb6, hz6⟩ := box2 w5 (.int .i64 (k.x - 1)) (.int .i64 (k.y - 1)) 23
              have HW6 := Lib.hid hw6
              clear hw6
              have hq6 : Below wr.heap.size wr w6 := hq5.trans (hb6.mono hq5.size)
              have hm6 := hmi.below hq6 hmi.lt
              go_wp2_with (at_lookup; refine wpList_lookup_kn _ rfl _ _ rfl b M (by rw [← HW6.out]; exact hm6) (⟨k.x - 1, k.y - 1⟩ : Ck.Knot) rfl rfl ?_)
              refine (netHasBar A c l _ _ _ _ hl HS.out (by rw [← HW6.out]; exact (HB.out.below hq6).more hq6.size)).mono ?_
              rintro e w7 ⟨rfl, hb7⟩
              rw [HIN.out]
              have hq7 : Below wr.heap.size wr w7 := hq6.trans ((HW6.out ▸ hb7).mono hq6.size)
              have hm7 := hmi.below hq7 hmi.lt
              go_wp2
              go_roundg (4 - (0 + 1))
              case measure => rw [HGK.out]; decide
              case rel => exact ⟨0 + 1, V, S, M, rfl, by omega, by go_num, HFL.out.skip HCL.out H0.out HP.out (fun h => by have := HIN.out; simp [h.2] at this), ownsRow_below HOW.out hq7, HOB.out, hm7, gb_below hgi hq7, (hq7.cell (p := ⟨_, _, none⟩) hBz).trans e0, (hq7.cell (p := ⟨_, _, none⟩) hBz).trans e1, Nat.lt_of_lt_of_le hBz hq7.size, HME.out⟩
            · have HIN := Lib.hid hin
              clear hin
              go_wp2_with fail
              refine (netOtherDown (k.x - 1) (k.y - 1) (1) k.x k.y _ (by omega)).mono ?_
              rintro e w5 ⟨rfl, hb5⟩
              have hq5 : Below wr.heap.size wr w5 := ((Below.refl _ _).alloc (Nat.le_refl _) _).trans (hb5.mono (by simp))
              have b0 : w5.cell? ⟨wr.heap.size, 0, none⟩ = some (.int .i64 (k.x - 1)) := by
                rw [hb5.cell (p := ⟨_, _, none⟩) (by simp), World.cell?_alloc_at _ _ _ _ (by simp)]; rfl
              have b1 : w5.cell? ⟨wr.heap.size, 1, none⟩ = some (.int .i64 (k.y - 1)) := by
                rw [hb5.cell (p := ⟨_, _, none⟩) (by simp), World.cell?_alloc_at _ _ _ _ (by simp)]; rfl
              have b2 : w5.cell? ⟨wr.heap.size, 2, none⟩ = some (.int .i64 (1)) := by
                rw [hb5.cell (p := ⟨_, _, none⟩) (by simp), World.cell?_alloc_at _ _ _ _ (by simp)]; rfl
              have hz5 : wr.heap.size < w5.heap.size := by have := hb5.size; simp at this; omega
              obtain ⟨w6, hw6, q0, q1, hb6, hz6⟩ := box2 w5 (.int .i64 (k.x - 1)) (.int .i64 (k.y - 1)) 23
              have HW6 := Lib.hid hw6
              clear hw6
              have hq6 : Below wr.heap.size wr w6 := hq5.trans (hb6.mono hq5.size)
              have hm6 := hmi.below hq6 hmi.lt
              go_wp2_with (at_lookup; refine wpList_lookup_kn _ rfl _ _ rfl b M (by rw [← HW6.out]; exact hm6) (⟨k.x - 1, k.y - 1⟩ : Ck.Knot) rfl rfl ?_)
              refine (netHasBar A c l _ _ _ _ hl HS.out (by rw [← HW6.out]; exact (HB.out.below hq6).more hq6.size)).mono ?_
              rintro e w7 ⟨rfl, hb7⟩
              rw [HIN.out]
              have hq7 : Below wr.heap.size wr w7 := hq6.trans ((HW6.out ▸ hb7).mono hq6.size)
              have hm7 := hmi.below hq7 hmi.lt
              have u0 : w7.cell? ⟨w5.heap.size, 0, none⟩ = some (.int .i64 (k.x - 1)) := ((HW6.out ▸ hb7).cell (p := ⟨_, _, none⟩) hz6).trans q0
              have u1 : w7.cell? ⟨w5.heap.size, 1, none⟩ = some (.int .i64 (k.y - 1)) := ((HW6.out ▸ hb7).cell (p := ⟨_, _, none⟩) hz6).trans q1
              have hz7 : w5.heap.size < w7.heap.size := Nat.lt_of_lt_of_le hz6 (HW6.out ▸ hb7).size
              have hbne : wo.heap.size ≠ b := by have := hgz0; omega
              have hst := HFL.out.stack
              have hbd := HFL.out.bound
              rw [HEL.out] at hbd
              go_wp2_with (first
                | (at_mapUpdate; go_loud (refine wpList_mapUpdate_kn _ rfl _ _ _ rfl b M hm7 (⟨k.x - 1, k.y - 1⟩ : Ck.Knot) n rfl rfl rfl ?_); intro w8 hm8 hg8; go_loud (have p0 : w8.cell? ⟨w5.heap.size, 0, none⟩ = some (.int .i64 (k.x - 1)) := (World.cell?_of_block (hg8.block _ hz7 (fun e => by have e2 : w5.heap.size = b := Option.some.inj e; omega))).trans u0); go_loud (have p1 : w8.cell? ⟨w5.heap.size, 1, none⟩ = some (.int .i64 (k.y - 1)) := (World.cell?_of_block (hg8.block _ hz7 (fun e => by have e2 : w5.heap.size = b := Option.some.inj e; omega))).trans u1); go_loud (have HO8 := Lib.hid ((ownsRow_below HOW.out hq7).kept hg8 (.inr (fun e => by have := ownsRow_base HOW.out b e; omega)))); have hg80 := hg8.size)
                | (at_builtin; refine wpList_append_own_at _ rfl _ _ 59 rfl w.heap.size 23 i0 (.agg #[.int .i64 0, .int .i64 0]) 2 16 Try.underlying59 HI.out HZ0.out HZ1.out HZ2.out rfl (by decide) _ _ _ rfl (HO8.out.alloc _) ⟨w8.heap.size, 0, none⟩ 1 1 [.int .i64 (k.x - 1), .int .i64 (k.y - 1)] rfl rfl (two_new _ _ _ _) ?c2 ?c3 ?c4 ?c5 ?_))
              case c2 => intro u hu; simp at hu; rcases hu with rfl | rfl <;> rfl
              case c3 => unfold maxLen; omega
              case c4 => omega
              case c5 => have := hq7.size; simp; omega
              intro v' w9 hown9 hgrow9 _ hblk9
              have hq8 : Below w8.heap.size w8 (w8.alloc (.cells #[.int .i64 (k.x - 1), .int .i64 (k.y - 1)] 23)) := (Below.refl _ _).alloc (Nat.le_refl _) _
              have hB7 : wo.heap.size < w7.heap.size := Nat.lt_of_lt_of_le hBz hq7.size
              have hB8 : wo.heap.size < w8.heap.size := Nat.lt_of_lt_of_le hB7 hg80
              have keepB : ∀ i, w9.cell? ⟨wo.heap.size, i, none⟩ = wr.cell? ⟨wo.heap.size, i, none⟩ := fun i =>
                (((World.cell?_of_block (hgrow9.block wo.heap.size (by simp; omega) (fun e => HOB.out e.symm))).trans (hq8.cell (p := ⟨_, i, none⟩) hB8)).trans (World.cell?_of_block (hg8.block wo.heap.size hB7 (fun e => hbne (by injection e))))).trans (hq7.cell (p := ⟨_, i, none⟩) hBz)
              have k0 := (keepB 0).trans e0
              have k1 := (keepB 1).trans e1
              have hm9 : MIs w9 b (mput M (⟨k.x - 1, k.y - 1⟩ : Ck.Knot) n) := (hm8.below hq8 hm8.lt).of_block (hgrow9.block b (by have := hm8.lt; simp; omega) (fun e => by have := ownsRow_base HOW.out b e.symm; omega))
              have hg9 : w.grownBy w9 (some b) := gb_row (gb_below ((gb_below hgi hq7).trans hg8) hq8) hgrow9 (ownsRow_base HOW.out)
              have hob9 : v'.ownBlock ≠ some wo.heap.size := by
                rcases hblk9 with h | h
                · rw [h]; exact HOB.out
                · rw [h]; intro e; have e' : w8.heap.size + 1 = wo.heap.size := Option.some.inj e; omega
              have hB9 : wo.heap.size < w9.heap.size := by have := hgrow9.size; simp at this; omega
              have HO9 := Lib.hid hown9
              have HPU := Lib.hid (HFL.out.push (by omega) HP.out HZ.out (of_decide_eq_true HIN.out))
              have hpb := HPU.out.bound
              have HME9 := Lib.hid (meas_push HME.out hpb)
              clear keepB hown9 hgrow9 hblk9 hg8 hpb hm8 hq8 p0 p1 u0 u1
              go_wp2
              go_roundg (4 - (0 + 1))
              case measure => rw [HGK.out]; decide
              case rel => exact ⟨0 + 1, (⟨k.x - 1, k.y - 1⟩ : Ck.Knot) :: V, S ++ [(⟨k.x - 1, k.y - 1⟩ : Ck.Knot)], mput M (⟨k.x - 1, k.y - 1⟩ : Ck.Knot) n, rfl, by omega, by go_num, HPU.out, by rw [kcellsL_snoc, List.length_append]; exact HO9.out, hob9, hm9, hg9, k0, k1, hB9, by rw [List.length_append]; exact HME9.out⟩
          · have hzb : (mget M (⟨k.x - 1, k.y - 1⟩ : Ck.Knot) == 0) = false := by simpa using hz
            have HZ := Lib.hid hz
            clear hz
            go_wp2_with fail
            refine (netOtherDown (k.x - 1) (k.y - 1) (1) k.x k.y _ (by omega)).mono ?_
            rintro e w5 ⟨rfl, hb5⟩
            have hq5 : Below wr.heap.size wr w5 := ((Below.refl _ _).alloc (Nat.le_refl _) _).trans (hb5.mono (by simp))
            have b0 : w5.cell? ⟨wr.heap.size, 0, none⟩ = some (.int .i64 (k.x - 1)) := by
              rw [hb5.cell (p := ⟨_, _, none⟩) (by simp), World.cell?_alloc_at _ _ _ _ (by simp)]; rfl
            have b1 : w5.cell? ⟨wr.heap.size, 1, none⟩ = some (.int .i64 (k.y - 1)) := by
              rw [hb5.cell (p := ⟨_, _, none⟩) (by simp), World.cell?_alloc_at _ _ _ _ (by simp)]; rfl
            have b2 : w5.cell? ⟨wr.heap.size, 2, none⟩ = some (.int .i64 (1)) := by
              rw [hb5.cell (p := ⟨_, _, none⟩) (by simp), World.cell?_alloc_at _ _ _ _ (by simp)]; rfl
            have hz5 : wr.heap.size < w5.heap.size := by have := hb5.size; simp at this; omega
            obtain ⟨w6, hw6, q0, q1, hb6, hz6⟩ := box2 w5 (.int .i64 (k.x - 1)) (.int .i64 (k.y - 1)) 23
            have HW6 := Lib.hid hw6
            clear hw6
            have hq6 : Below wr.heap.size wr w6 := hq5.trans (hb6.mono hq5.size)
            have hm6 := hmi.below hq6 hmi.lt
            go_wp2_with (at_lookup; refine wpList_lookup_kn _ rfl _ _ rfl b M (by rw [← HW6.out]; exact hm6) (⟨k.x - 1, k.y - 1⟩ : Ck.Knot) rfl rfl ?_)
            go_roundg (4 - (0 + 1))
            case measure => rw [HGK.out]; decide
            case rel => rw [← HW6.out]; exact ⟨0 + 1, V, S, M, rfl, by omega, by go_num, HFL.out.skip HCL.out H0.out HP.out (fun h => HZ.out h.1), ownsRow_below HOW.out hq6, HOB.out, hm6, gb_below hgi hq6, (hq6.cell (p := ⟨_, _, none⟩) hBz).trans e0, (hq6.cell (p := ⟨_, _, none⟩) hBz).trans e1, Nat.lt_of_lt_of_le hBz hq6.size, HME.out⟩
        · have hidx := ix1 (.int .i64 (k.x - 1)) (.int .i64 (k.y - 1)) (.int .i64 (1)) (.int .i64 (k.x + 1)) (.int .i64 (k.y - 1)) (.int .i64 (-1)) (.int .i64 (k.x)) (.int .i64 (k.y)) (.int .i64 (-1)) (.int .i64 (k.x)) (.int .i64 (k.y)) (.int .i64 (1))
          have HP := Lib.hid (show (nb k)[1]? = some ((⟨k.x + 1, k.y - 1, -1⟩ : Ck.Bar), (⟨k.x + 1, k.y - 1⟩ : Ck.Knot)) from rfl)
          by_cases hz : mget M (⟨k.x + 1, k.y - 1⟩ : Ck.Knot) = 0
          · have hzb : (mget M (⟨k.x + 1, k.y - 1⟩ : Ck.Knot) == 0) = true := by rw [hz]; rfl
            have HZ := Lib.hid hz
            clear hz
            cases hin : decide ((⟨k.x + 1, k.y - 1, -1⟩ : Ck.Bar) ∈ l)
            · have HIN := Lib.hid hin
              clear hin
              go_wp2_with fail
              refine (netOtherDown (k.x + 1) (k.y - 1) (-1) k.x k.y _ (by omega)).mono ?_
              rintro e w5 ⟨rfl, hb5⟩
              have hq5 : Below wr.heap.size wr w5 := ((Below.refl _ _).alloc (Nat.le_refl _) _).trans (hb5.mono (by simp))
              have b0 : w5.cell? ⟨wr.heap.size, 0, none⟩ = some (.int .i64 (k.x + 1)) := by
                rw [hb5.cell (p := ⟨_, _, none⟩) (by simp), World.cell?_alloc_at _ _ _ _ (by simp)]; rfl
              have b1 : w5.cell? ⟨wr.heap.size, 1, none⟩ = some (.int .i64 (k.y - 1)) := by
                rw [hb5.cell (p := ⟨_, _, none⟩) (by simp), World.cell?_alloc_at _ _ _ _ (by simp)]; rfl
              have b2 : w5.cell? ⟨wr.heap.size, 2, none⟩ = some (.int .i64 (-1)) := by
                rw [hb5.cell (p := ⟨_, _, none⟩) (by simp), World.cell?_alloc_at _ _ _ _ (by simp)]; rfl
              have hz5 : wr.heap.size < w5.heap.size := by have := hb5.size; simp at this; omega
              obtain ⟨w6, hw6, q0, q1, hb6, hz6⟩ := box2 w5 (.int .i64 (k.x + 1)) (.int .i64 (k.y - 1)) 23
              have HW6 := Lib.hid hw6
              clear hw6
              have hq6 : Below wr.heap.size wr w6 := hq5.trans (hb6.mono hq5.size)
              have hm6 := hmi.below hq6 hmi.lt
              go_wp2_with (at_lookup; refine wpList_lookup_kn _ rfl _ _ rfl b M (by rw [← HW6.out]; exact hm6) (⟨k.x + 1, k.y - 1⟩ : Ck.Knot) rfl rfl ?_)
              refine (netHasBar A c l _ _ _ _ hl HS.out (by rw [← HW6.out]; exact (HB.out.below hq6).more hq6.size)).mono ?_
              rintro e w7 ⟨rfl, hb7⟩
              rw [HIN.out]
              have hq7 : Below wr.heap.size wr w7 := hq6.trans ((HW6.out ▸ hb7).mono hq6.size)
              have hm7 := hmi.below hq7 hmi.lt
              go_wp2
              go_roundg (4 - (1 + 1))
              case measure => rw [HGK.out]; decide
              case rel => exact ⟨1 + 1, V, S, M, rfl, by omega, by go_num, HFL.out.skip HCL.out H0.out HP.out (fun h => by have := HIN.out; simp [h.2] at this), ownsRow_below HOW.out hq7, HOB.out, hm7, gb_below hgi hq7, (hq7.cell (p := ⟨_, _, none⟩) hBz).trans e0, (hq7.cell (p := ⟨_, _, none⟩) hBz).trans e1, Nat.lt_of_lt_of_le hBz hq7.size, HME.out⟩
            · have HIN := Lib.hid hin
              clear hin
              go_wp2_with fail
              refine (netOtherDown (k.x + 1) (k.y - 1) (-1) k.x k.y _ (by omega)).mono ?_
              rintro e w5 ⟨rfl, hb5⟩
              have hq5 : Below wr.heap.size wr w5 := ((Below.refl _ _).alloc (Nat.le_refl _) _).trans (hb5.mono (by simp))
              have b0 : w5.cell? ⟨wr.heap.size, 0, none⟩ = some (.int .i64 (k.x + 1)) := by
                rw [hb5.cell (p := ⟨_, _, none⟩) (by simp), World.cell?_alloc_at _ _ _ _ (by simp)]; rfl
              have b1 : w5.cell? ⟨wr.heap.size, 1, none⟩ = some (.int .i64 (k.y - 1)) := by
                rw [hb5.cell (p := ⟨_, _, none⟩) (by simp), World.cell?_alloc_at _ _ _ _ (by simp)]; rfl
              have b2 : w5.cell? ⟨wr.heap.size, 2, none⟩ = some (.int .i64 (-1)) := by
                rw [hb5.cell (p := ⟨_, _, none⟩) (by simp), World.cell?_alloc_at _ _ _ _ (by simp)]; rfl
              have hz5 : wr.heap.size < w5.heap.size := by have := hb5.size; simp at this; omega
              obtain ⟨w6, hw6, q0, q1, hb6, hz6⟩ := box2 w5 (.int .i64 (k.x + 1)) (.int .i64 (k.y - 1)) 23
              have HW6 := Lib.hid hw6
              clear hw6
              have hq6 : Below wr.heap.size wr w6 := hq5.trans (hb6.mono hq5.size)
              have hm6 := hmi.below hq6 hmi.lt
              go_wp2_with (at_lookup; refine wpList_lookup_kn _ rfl _ _ rfl b M (by rw [← HW6.out]; exact hm6) (⟨k.x + 1, k.y - 1⟩ : Ck.Knot) rfl rfl ?_)
              refine (netHasBar A c l _ _ _ _ hl HS.out (by rw [← HW6.out]; exact (HB.out.below hq6).more hq6.size)).mono ?_
              rintro e w7 ⟨rfl, hb7⟩
              rw [HIN.out]
              have hq7 : Below wr.heap.size wr w7 := hq6.trans ((HW6.out ▸ hb7).mono hq6.size)
              have hm7 := hmi.below hq7 hmi.lt
              have u0 : w7.cell? ⟨w5.heap.size, 0, none⟩ = some (.int .i64 (k.x + 1)) := ((HW6.out ▸ hb7).cell (p := ⟨_, _, none⟩) hz6).trans q0
              have u1 : w7.cell? ⟨w5.heap.size, 1, none⟩ = some (.int .i64 (k.y - 1)) := ((HW6.out ▸ hb7).cell (p := ⟨_, _, none⟩) hz6).trans q1
              have hz7 : w5.heap.size < w7.heap.size := Nat.lt_of_lt_of_le hz6 (HW6.out ▸ hb7).size
              have hbne : wo.heap.size ≠ b := by have := hgz0; omega
              have hst := HFL.out.stack
              have hbd := HFL.out.bound
              rw [HEL.out] at hbd
              go_wp2_with (first
                | (at_mapUpdate; go_loud (refine wpList_mapUpdate_kn _ rfl _ _ _ rfl b M hm7 (⟨k.x + 1, k.y - 1⟩ : Ck.Knot) n rfl rfl rfl ?_); intro w8 hm8 hg8; go_loud (have p0 : w8.cell? ⟨w5.heap.size, 0, none⟩ = some (.int .i64 (k.x + 1)) := (World.cell?_of_block (hg8.block _ hz7 (fun e => by have e2 : w5.heap.size = b := Option.some.inj e; omega))).trans u0); go_loud (have p1 : w8.cell? ⟨w5.heap.size, 1, none⟩ = some (.int .i64 (k.y - 1)) := (World.cell?_of_block (hg8.block _ hz7 (fun e => by have e2 : w5.heap.size = b := Option.some.inj e; omega))).trans u1); go_loud (have HO8 := Lib.hid ((ownsRow_below HOW.out hq7).kept hg8 (.inr (fun e => by have := ownsRow_base HOW.out b e; omega)))); have hg80 := hg8.size)
                | (at_builtin; refine wpList_append_own_at _ rfl _ _ 59 rfl w.heap.size 23 i0 (.agg #[.int .i64 0, .int .i64 0]) 2 16 Try.underlying59 HI.out HZ0.out HZ1.out HZ2.out rfl (by decide) _ _ _ rfl (HO8.out.alloc _) ⟨w8.heap.size, 0, none⟩ 1 1 [.int .i64 (k.x + 1), .int .i64 (k.y - 1)] rfl rfl (two_new _ _ _ _) ?c2 ?c3 ?c4 ?c5 ?_))
              case c2 => intro u hu; simp at hu; rcases hu with rfl | rfl <;> rfl
              case c3 => unfold maxLen; omega
              case c4 => omega
              case c5 => have := hq7.size; simp; omega
              intro v' w9 hown9 hgrow9 _ hblk9
              have hq8 : Below w8.heap.size w8 (w8.alloc (.cells #[.int .i64 (k.x + 1), .int .i64 (k.y - 1)] 23)) := (Below.refl _ _).alloc (Nat.le_refl _) _
              have hB7 : wo.heap.size < w7.heap.size := Nat.lt_of_lt_of_le hBz hq7.size
              have hB8 : wo.heap.size < w8.heap.size := Nat.lt_of_lt_of_le hB7 hg80
              have keepB : ∀ i, w9.cell? ⟨wo.heap.size, i, none⟩ = wr.cell? ⟨wo.heap.size, i, none⟩ := fun i =>
                (((World.cell?_of_block (hgrow9.block wo.heap.size (by simp; omega) (fun e => HOB.out e.symm))).trans (hq8.cell (p := ⟨_, i, none⟩) hB8)).trans (World.cell?_of_block (hg8.block wo.heap.size hB7 (fun e => hbne (by injection e))))).trans (hq7.cell (p := ⟨_, i, none⟩) hBz)
              have k0 := (keepB 0).trans e0
              have k1 := (keepB 1).trans e1
              have hm9 : MIs w9 b (mput M (⟨k.x + 1, k.y - 1⟩ : Ck.Knot) n) := (hm8.below hq8 hm8.lt).of_block (hgrow9.block b (by have := hm8.lt; simp; omega) (fun e => by have := ownsRow_base HOW.out b e.symm; omega))
              have hg9 : w.grownBy w9 (some b) := gb_row (gb_below ((gb_below hgi hq7).trans hg8) hq8) hgrow9 (ownsRow_base HOW.out)
              have hob9 : v'.ownBlock ≠ some wo.heap.size := by
                rcases hblk9 with h | h
                · rw [h]; exact HOB.out
                · rw [h]; intro e; have e' : w8.heap.size + 1 = wo.heap.size := Option.some.inj e; omega
              have hB9 : wo.heap.size < w9.heap.size := by have := hgrow9.size; simp at this; omega
              have HO9 := Lib.hid hown9
              have HPU := Lib.hid (HFL.out.push (by omega) HP.out HZ.out (of_decide_eq_true HIN.out))
              have hpb := HPU.out.bound
              have HME9 := Lib.hid (meas_push HME.out hpb)
              clear keepB hown9 hgrow9 hblk9 hg8 hpb hm8 hq8 p0 p1 u0 u1
              go_wp2
              go_roundg (4 - (1 + 1))
              case measure => rw [HGK.out]; decide
              case rel => exact ⟨1 + 1, (⟨k.x + 1, k.y - 1⟩ : Ck.Knot) :: V, S ++ [(⟨k.x + 1, k.y - 1⟩ : Ck.Knot)], mput M (⟨k.x + 1, k.y - 1⟩ : Ck.Knot) n, rfl, by omega, by go_num, HPU.out, by rw [kcellsL_snoc, List.length_append]; exact HO9.out, hob9, hm9, hg9, k0, k1, hB9, by rw [List.length_append]; exact HME9.out⟩
          · have hzb : (mget M (⟨k.x + 1, k.y - 1⟩ : Ck.Knot) == 0) = false := by simpa using hz
            have HZ := Lib.hid hz
            clear hz
            go_wp2_with fail
            refine (netOtherDown (k.x + 1) (k.y - 1) (-1) k.x k.y _ (by omega)).mono ?_
            rintro e w5 ⟨rfl, hb5⟩
            have hq5 : Below wr.heap.size wr w5 := ((Below.refl _ _).alloc (Nat.le_refl _) _).trans (hb5.mono (by simp))
            have b0 : w5.cell? ⟨wr.heap.size, 0, none⟩ = some (.int .i64 (k.x + 1)) := by
              rw [hb5.cell (p := ⟨_, _, none⟩) (by simp), World.cell?_alloc_at _ _ _ _ (by simp)]; rfl
            have b1 : w5.cell? ⟨wr.heap.size, 1, none⟩ = some (.int .i64 (k.y - 1)) := by
              rw [hb5.cell (p := ⟨_, _, none⟩) (by simp), World.cell?_alloc_at _ _ _ _ (by simp)]; rfl
            have b2 : w5.cell? ⟨wr.heap.size, 2, none⟩ = some (.int .i64 (-1)) := by
              rw [hb5.cell (p := ⟨_, _, none⟩) (by simp), World.cell?_alloc_at _ _ _ _ (by simp)]; rfl
            have hz5 : wr.heap.size < w5.heap.size := by have := hb5.size; simp at this; omega
            obtain ⟨w6, hw6, q0, q1, hb6, hz6⟩ := box2 w5 (.int .i64 (k.x + 1)) (.int .i64 (k.y - 1)) 23
            have HW6 := Lib.hid hw6
            clear hw6
            have hq6 : Below wr.heap.size wr w6 := hq5.trans (hb6.mono hq5.size)
            have hm6 := hmi.below hq6 hmi.lt
            go_wp2_with (at_lookup; refine wpList_lookup_kn _ rfl _ _ rfl b M (by rw [← HW6.out]; exact hm6) (⟨k.x + 1, k.y - 1⟩ : Ck.Knot) rfl rfl ?_)
            go_roundg (4 - (1 + 1))
            case measure => rw [HGK.out]; decide
            case rel => rw [← HW6.out]; exact ⟨1 + 1, V, S, M, rfl, by omega, by go_num, HFL.out.skip HCL.out H0.out HP.out (fun h => HZ.out h.1), ownsRow_below HOW.out hq6, HOB.out, hm6, gb_below hgi hq6, (hq6.cell (p := ⟨_, _, none⟩) hBz).trans e0, (hq6.cell (p := ⟨_, _, none⟩) hBz).trans e1, Nat.lt_of_lt_of_le hBz hq6.size, HME.out⟩
        · have hidx := ix2 (.int .i64 (k.x - 1)) (.int .i64 (k.y - 1)) (.int .i64 (1)) (.int .i64 (k.x + 1)) (.int .i64 (k.y - 1)) (.int .i64 (-1)) (.int .i64 (k.x)) (.int .i64 (k.y)) (.int .i64 (-1)) (.int .i64 (k.x)) (.int .i64 (k.y)) (.int .i64 (1))
          have HP := Lib.hid (show (nb k)[2]? = some ((⟨k.x, k.y, -1⟩ : Ck.Bar), (⟨k.x - 1, k.y + 1⟩ : Ck.Knot)) from rfl)
          by_cases hz : mget M (⟨k.x - 1, k.y + 1⟩ : Ck.Knot) = 0
          · have hzb : (mget M (⟨k.x - 1, k.y + 1⟩ : Ck.Knot) == 0) = true := by rw [hz]; rfl
            have HZ := Lib.hid hz
            clear hz
            cases hin : decide ((⟨k.x, k.y, -1⟩ : Ck.Bar) ∈ l)
            · have HIN := Lib.hid hin
              clear hin
              go_wp2_with fail
              refine (netOtherUp k.x k.y (-1) _ kx1 kx2 ky1 ky2 (by decide) (by decide)).mono ?_
              rintro e w5 ⟨rfl, hb5⟩
              rw [show k.x + -1 = k.x - 1 from by omega]
              have hq5 : Below wr.heap.size wr w5 := ((Below.refl _ _).alloc (Nat.le_refl _) _).trans (hb5.mono (by simp))
              have b0 : w5.cell? ⟨wr.heap.size, 0, none⟩ = some (.int .i64 (k.x)) := by
                rw [hb5.cell (p := ⟨_, _, none⟩) (by simp), World.cell?_alloc_at _ _ _ _ (by simp)]; rfl
              have b1 : w5.cell? ⟨wr.heap.size, 1, none⟩ = some (.int .i64 (k.y)) := by
                rw [hb5.cell (p := ⟨_, _, none⟩) (by simp), World.cell?_alloc_at _ _ _ _ (by simp)]; rfl
              have b2 : w5.cell? ⟨wr.heap.size, 2, none⟩ = some (.int .i64 (-1)) := by
                rw [hb5.cell (p := ⟨_, _, none⟩) (by simp), World.cell?_alloc_at _ _ _ _ (by simp)]; rfl
              have hz5 : wr.heap.size < w5.heap.size := by have := hb5.size; simp at this; omega
              obtain ⟨w6, hw6, q0, q1, hb6, hz6⟩ := box2 w5 (.int .i64 (k.x - 1)) (.int .i64 (k.y + 1)) 23
              have HW6 := Lib.hid hw6
              clear hw6
              have hq6 : Below wr.heap.size wr w6 := hq5.trans (hb6.mono hq5.size)
              have hm6 := hmi.below hq6 hmi.lt
              go_wp2_with (at_lookup; refine wpList_lookup_kn _ rfl _ _ rfl b M (by rw [← HW6.out]; exact hm6) (⟨k.x - 1, k.y + 1⟩ : Ck.Knot) rfl rfl ?_)
              refine (netHasBar A c l _ _ _ _ hl HS.out (by rw [← HW6.out]; exact (HB.out.below hq6).more hq6.size)).mono ?_
              rintro e w7 ⟨rfl, hb7⟩
              rw [HIN.out]
              have hq7 : Below wr.heap.size wr w7 := hq6.trans ((HW6.out ▸ hb7).mono hq6.size)
              have hm7 := hmi.below hq7 hmi.lt
              go_wp2
              go_roundg (4 - (2 + 1))
              case measure => rw [HGK.out]; decide
              case rel => exact ⟨2 + 1, V, S, M, rfl, by omega, by go_num, HFL.out.skip HCL.out H0.out HP.out (fun h => by have := HIN.out; simp [h.2] at this), ownsRow_below HOW.out hq7, HOB.out, hm7, gb_below hgi hq7, (hq7.cell (p := ⟨_, _, none⟩) hBz).trans e0, (hq7.cell (p := ⟨_, _, none⟩) hBz).trans e1, Nat.lt_of_lt_of_le hBz hq7.size, HME.out⟩
            · have HIN := Lib.hid hin
              clear hin
              go_wp2_with fail
              refine (netOtherUp k.x k.y (-1) _ kx1 kx2 ky1 ky2 (by decide) (by decide)).mono ?_
              rintro e w5 ⟨rfl, hb5⟩
              rw [show k.x + -1 = k.x - 1 from by omega]
              have hq5 : Below wr.heap.size wr w5 := ((Below.refl _ _).alloc (Nat.le_refl _) _).trans (hb5.mono (by simp))
              have b0 : w5.cell? ⟨wr.heap.size, 0, none⟩ = some (.int .i64 (k.x)) := by
                rw [hb5.cell (p := ⟨_, _, none⟩) (by simp), World.cell?_alloc_at _ _ _ _ (by simp)]; rfl
              have b1 : w5.cell? ⟨wr.heap.size, 1, none⟩ = some (.int .i64 (k.y)) := by
                rw [hb5.cell (p := ⟨_, _, none⟩) (by simp), World.cell?_alloc_at _ _ _ _ (by simp)]; rfl
              have b2 : w5.cell? ⟨wr.heap.size, 2, none⟩ = some (.int .i64 (-1)) := by
                rw [hb5.cell (p := ⟨_, _, none⟩) (by simp), World.cell?_alloc_at _ _ _ _ (by simp)]; rfl
              have hz5 : wr.heap.size < w5.heap.size := by have := hb5.size; simp at this; omega
              obtain ⟨w6, hw6, q0, q1, hb6, hz6⟩ := box2 w5 (.int .i64 (k.x - 1)) (.int .i64 (k.y + 1)) 23
              have HW6 := Lib.hid hw6
              clear hw6
              have hq6 : Below wr.heap.size wr w6 := hq5.trans (hb6.mono hq5.size)
              have hm6 := hmi.below hq6 hmi.lt
              go_wp2_with (at_lookup; refine wpList_lookup_kn _ rfl _ _ rfl b M (by rw [← HW6.out]; exact hm6) (⟨k.x - 1, k.y + 1⟩ : Ck.Knot) rfl rfl ?_)
              refine (netHasBar A c l _ _ _ _ hl HS.out (by rw [← HW6.out]; exact (HB.out.below hq6).more hq6.size)).mono ?_
              rintro e w7 ⟨rfl, hb7⟩
              rw [HIN.out]
              have hq7 : Below wr.heap.size wr w7 := hq6.trans ((HW6.out ▸ hb7).mono hq6.size)
              have hm7 := hmi.below hq7 hmi.lt
              have u0 : w7.cell? ⟨w5.heap.size, 0, none⟩ = some (.int .i64 (k.x - 1)) := ((HW6.out ▸ hb7).cell (p := ⟨_, _, none⟩) hz6).trans q0
              have u1 : w7.cell? ⟨w5.heap.size, 1, none⟩ = some (.int .i64 (k.y + 1)) := ((HW6.out ▸ hb7).cell (p := ⟨_, _, none⟩) hz6).trans q1
              have hz7 : w5.heap.size < w7.heap.size := Nat.lt_of_lt_of_le hz6 (HW6.out ▸ hb7).size
              have hbne : wo.heap.size ≠ b := by have := hgz0; omega
              have hst := HFL.out.stack
              have hbd := HFL.out.bound
              rw [HEL.out] at hbd
              go_wp2_with (first
                | (at_mapUpdate; go_loud (refine wpList_mapUpdate_kn _ rfl _ _ _ rfl b M hm7 (⟨k.x - 1, k.y + 1⟩ : Ck.Knot) n rfl rfl rfl ?_); intro w8 hm8 hg8; go_loud (have p0 : w8.cell? ⟨w5.heap.size, 0, none⟩ = some (.int .i64 (k.x - 1)) := (World.cell?_of_block (hg8.block _ hz7 (fun e => by have e2 : w5.heap.size = b := Option.some.inj e; omega))).trans u0); go_loud (have p1 : w8.cell? ⟨w5.heap.size, 1, none⟩ = some (.int .i64 (k.y + 1)) := (World.cell?_of_block (hg8.block _ hz7 (fun e => by have e2 : w5.heap.size = b := Option.some.inj e; omega))).trans u1); go_loud (have HO8 := Lib.hid ((ownsRow_below HOW.out hq7).kept hg8 (.inr (fun e => by have := ownsRow_base HOW.out b e; omega)))); have hg80 := hg8.size)
                | (at_builtin; refine wpList_append_own_at _ rfl _ _ 59 rfl w.heap.size 23 i0 (.agg #[.int .i64 0, .int .i64 0]) 2 16 Try.underlying59 HI.out HZ0.out HZ1.out HZ2.out rfl (by decide) _ _ _ rfl (HO8.out.alloc _) ⟨w8.heap.size, 0, none⟩ 1 1 [.int .i64 (k.x - 1), .int .i64 (k.y + 1)] rfl rfl (two_new _ _ _ _) ?c2 ?c3 ?c4 ?c5 ?_))
              case c2 => intro u hu; simp at hu; rcases hu with rfl | rfl <;> rfl
              case c3 => unfold maxLen; omega
              case c4 => omega
              case c5 => have := hq7.size; simp; omega
              intro v' w9 hown9 hgrow9 _ hblk9
              have hq8 : Below w8.heap.size w8 (w8.alloc (.cells #[.int .i64 (k.x - 1), .int .i64 (k.y + 1)] 23)) := (Below.refl _ _).alloc (Nat.le_refl _) _
              have hB7 : wo.heap.size < w7.heap.size := Nat.lt_of_lt_of_le hBz hq7.size
              have hB8 : wo.heap.size < w8.heap.size := Nat.lt_of_lt_of_le hB7 hg80
              have keepB : ∀ i, w9.cell? ⟨wo.heap.size, i, none⟩ = wr.cell? ⟨wo.heap.size, i, none⟩ := fun i =>
                (((World.cell?_of_block (hgrow9.block wo.heap.size (by simp; omega) (fun e => HOB.out e.symm))).trans (hq8.cell (p := ⟨_, i, none⟩) hB8)).trans (World.cell?_of_block (hg8.block wo.heap.size hB7 (fun e => hbne (by injection e))))).trans (hq7.cell (p := ⟨_, i, none⟩) hBz)
              have k0 := (keepB 0).trans e0
              have k1 := (keepB 1).trans e1
              have hm9 : MIs w9 b (mput M (⟨k.x - 1, k.y + 1⟩ : Ck.Knot) n) := (hm8.below hq8 hm8.lt).of_block (hgrow9.block b (by have := hm8.lt; simp; omega) (fun e => by have := ownsRow_base HOW.out b e.symm; omega))
              have hg9 : w.grownBy w9 (some b) := gb_row (gb_below ((gb_below hgi hq7).trans hg8) hq8) hgrow9 (ownsRow_base HOW.out)
              have hob9 : v'.ownBlock ≠ some wo.heap.size := by
                rcases hblk9 with h | h
                · rw [h]; exact HOB.out
                · rw [h]; intro e; have e' : w8.heap.size + 1 = wo.heap.size := Option.some.inj e; omega
              have hB9 : wo.heap.size < w9.heap.size := by have := hgrow9.size; simp at this; omega
              have HO9 := Lib.hid hown9
              have HPU := Lib.hid (HFL.out.push (by omega) HP.out HZ.out (of_decide_eq_true HIN.out))
              have hpb := HPU.out.bound
              have HME9 := Lib.hid (meas_push HME.out hpb)
              clear keepB hown9 hgrow9 hblk9 hg8 hpb hm8 hq8 p0 p1 u0 u1
              go_wp2
              go_roundg (4 - (2 + 1))
              case measure => rw [HGK.out]; decide
              case rel => exact ⟨2 + 1, (⟨k.x - 1, k.y + 1⟩ : Ck.Knot) :: V, S ++ [(⟨k.x - 1, k.y + 1⟩ : Ck.Knot)], mput M (⟨k.x - 1, k.y + 1⟩ : Ck.Knot) n, rfl, by omega, by go_num, HPU.out, by rw [kcellsL_snoc, List.length_append]; exact HO9.out, hob9, hm9, hg9, k0, k1, hB9, by rw [List.length_append]; exact HME9.out⟩
          · have hzb : (mget M (⟨k.x - 1, k.y + 1⟩ : Ck.Knot) == 0) = false := by simpa using hz
            have HZ := Lib.hid hz
            clear hz
            go_wp2_with fail
            refine (netOtherUp k.x k.y (-1) _ kx1 kx2 ky1 ky2 (by decide) (by decide)).mono ?_
            rintro e w5 ⟨rfl, hb5⟩
            rw [show k.x + -1 = k.x - 1 from by omega]
            have hq5 : Below wr.heap.size wr w5 := ((Below.refl _ _).alloc (Nat.le_refl _) _).trans (hb5.mono (by simp))
            have b0 : w5.cell? ⟨wr.heap.size, 0, none⟩ = some (.int .i64 (k.x)) := by
              rw [hb5.cell (p := ⟨_, _, none⟩) (by simp), World.cell?_alloc_at _ _ _ _ (by simp)]; rfl
            have b1 : w5.cell? ⟨wr.heap.size, 1, none⟩ = some (.int .i64 (k.y)) := by
              rw [hb5.cell (p := ⟨_, _, none⟩) (by simp), World.cell?_alloc_at _ _ _ _ (by simp)]; rfl
            have b2 : w5.cell? ⟨wr.heap.size, 2, none⟩ = some (.int .i64 (-1)) := by
              rw [hb5.cell (p := ⟨_, _, none⟩) (by simp), World.cell?_alloc_at _ _ _ _ (by simp)]; rfl
            have hz5 : wr.heap.size < w5.heap.size := by have := hb5.size; simp at this; omega
            obtain ⟨w6, hw6, q0, q1, hb6, hz6⟩ := box2 w5 (.int .i64 (k.x - 1)) (.int .i64 (k.y + 1)) 23
            have HW6 := Lib.hid hw6
            clear hw6
            have hq6 : Below wr.heap.size wr w6 := hq5.trans (hb6.mono hq5.size)
            have hm6 := hmi.below hq6 hmi.lt
            go_wp2_with (at_lookup; refine wpList_lookup_kn _ rfl _ _ rfl b M (by rw [← HW6.out]; exact hm6) (⟨k.x - 1, k.y + 1⟩ : Ck.Knot) rfl rfl ?_)
            go_roundg (4 - (2 + 1))
            case measure => rw [HGK.out]; decide
            case rel => rw [← HW6.out]; exact ⟨2 + 1, V, S, M, rfl, by omega, by go_num, HFL.out.skip HCL.out H0.out HP.out (fun h => HZ.out h.1), ownsRow_below HOW.out hq6, HOB.out, hm6, gb_below hgi hq6, (hq6.cell (p := ⟨_, _, none⟩) hBz).trans e0, (hq6.cell (p := ⟨_, _, none⟩) hBz).trans e1, Nat.lt_of_lt_of_le hBz hq6.size, HME.out⟩
        · have hidx := ix3 (.int .i64 (k.x - 1)) (.int .i64 (k.y - 1)) (.int .i64 (1)) (.int .i64 (k.x + 1)) (.int .i64 (k.y - 1)) (.int .i64 (-1)) (.int .i64 (k.x)) (.int .i64 (k.y)) (.int .i64 (-1)) (.int .i64 (k.x)) (.int .i64 (k.y)) (.int .i64 (1))
          have HP := Lib.hid (show (nb k)[3]? = some ((⟨k.x, k.y, 1⟩ : Ck.Bar), (⟨k.x + 1, k.y + 1⟩ : Ck.Knot)) from rfl)
          by_cases hz : mget M (⟨k.x + 1, k.y + 1⟩ : Ck.Knot) = 0
          · have hzb : (mget M (⟨k.x + 1, k.y + 1⟩ : Ck.Knot) == 0) = true := by rw [hz]; rfl
            have HZ := Lib.hid hz
            clear hz
            cases hin : decide ((⟨k.x, k.y, 1⟩ : Ck.Bar) ∈ l)
            · have HIN := Lib.hid hin
              clear hin
              go_wp2_with fail
              refine (netOtherUp k.x k.y (1) _ kx1 kx2 ky1 ky2 (by decide) (by decide)).mono ?_
              rintro e w5 ⟨rfl, hb5⟩
              have hq5 : Below wr.heap.size wr w5 := ((Below.refl _ _).alloc (Nat.le_refl _) _).trans (hb5.mono (by simp))
              have b0 : w5.cell? ⟨wr.heap.size, 0, none⟩ = some (.int .i64 (k.x)) := by
                rw [hb5.cell (p := ⟨_, _, none⟩) (by simp), World.cell?_alloc_at _ _ _ _ (by simp)]; rfl
              have b1 : w5.cell? ⟨wr.heap.size, 1, none⟩ = some (.int .i64 (k.y)) := by
                rw [hb5.cell (p := ⟨_, _, none⟩) (by simp), World.cell?_alloc_at _ _ _ _ (by simp)]; rfl
              have b2 : w5.cell? ⟨wr.heap.size, 2, none⟩ = some (.int .i64 (1)) := by
                rw [hb5.cell (p := ⟨_, _, none⟩) (by simp), World.cell?_alloc_at _ _ _ _ (by simp)]; rfl
              have hz5 : wr.heap.size < w5.heap.size := by have := hb5.size; simp at this; omega
              obtain ⟨w6, hw6, q0, q1, hb6, hz6⟩ := box2 w5 (.int .i64 (k.x + 1)) (.int .i64 (k.y + 1)) 23
              have HW6 := Lib.hid hw6
              clear hw6
              have hq6 : Below wr.heap.size wr w6 := hq5.trans (hb6.mono hq5.size)
              have hm6 := hmi.below hq6 hmi.lt
              go_wp2_with (at_lookup; refine wpList_lookup_kn _ rfl _ _ rfl b M (by rw [← HW6.out]; exact hm6) (⟨k.x + 1, k.y + 1⟩ : Ck.Knot) rfl rfl ?_)
              refine (netHasBar A c l _ _ _ _ hl HS.out (by rw [← HW6.out]; exact (HB.out.below hq6).more hq6.size)).mono ?_
              rintro e w7 ⟨rfl, hb7⟩
              rw [HIN.out]
              have hq7 : Below wr.heap.size wr w7 := hq6.trans ((HW6.out ▸ hb7).mono hq6.size)
              have hm7 := hmi.below hq7 hmi.lt
              go_wp2
              go_roundg (4 - (3 + 1))
              case measure => rw [HGK.out]; decide
              case rel => exact ⟨3 + 1, V, S, M, rfl, by omega, by go_num, HFL.out.skip HCL.out H0.out HP.out (fun h => by have := HIN.out; simp [h.2] at this), ownsRow_below HOW.out hq7, HOB.out, hm7, gb_below hgi hq7, (hq7.cell (p := ⟨_, _, none⟩) hBz).trans e0, (hq7.cell (p := ⟨_, _, none⟩) hBz).trans e1, Nat.lt_of_lt_of_le hBz hq7.size, HME.out⟩
            · have HIN := Lib.hid hin
              clear hin
              go_wp2_with fail
              refine (netOtherUp k.x k.y (1) _ kx1 kx2 ky1 ky2 (by decide) (by decide)).mono ?_
              rintro e w5 ⟨rfl, hb5⟩
              have hq5 : Below wr.heap.size wr w5 := ((Below.refl _ _).alloc (Nat.le_refl _) _).trans (hb5.mono (by simp))
              have b0 : w5.cell? ⟨wr.heap.size, 0, none⟩ = some (.int .i64 (k.x)) := by
                rw [hb5.cell (p := ⟨_, _, none⟩) (by simp), World.cell?_alloc_at _ _ _ _ (by simp)]; rfl
              have b1 : w5.cell? ⟨wr.heap.size, 1, none⟩ = some (.int .i64 (k.y)) := by
                rw [hb5.cell (p := ⟨_, _, none⟩) (by simp), World.cell?_alloc_at _ _ _ _ (by simp)]; rfl
              have b2 : w5.cell? ⟨wr.heap.size, 2, none⟩ = some (.int .i64 (1)) := by
                rw [hb5.cell (p := ⟨_, _, none⟩) (by simp), World.cell?_alloc_at _ _ _ _ (by simp)]; rfl
              have hz5 : wr.heap.size < w5.heap.size := by have := hb5.size; simp at this; omega
              obtain ⟨w6, hw6, q0, q1, hb6, hz6⟩ := box2 w5 (.int .i64 (k.x + 1)) (.int .i64 (k.y + 1)) 23
              have HW6 := Lib.hid hw6
              clear hw6
              have hq6 : Below wr.heap.size wr w6 := hq5.trans (hb6.mono hq5.size)
              have hm6 := hmi.below hq6 hmi.lt
              go_wp2_with (at_lookup; refine wpList_lookup_kn _ rfl _ _ rfl b M (by rw [← HW6.out]; exact hm6) (⟨k.x + 1, k.y + 1⟩ : Ck.Knot) rfl rfl ?_)
              refine (netHasBar A c l _ _ _ _ hl HS.out (by rw [← HW6.out]; exact (HB.out.below hq6).more hq6.size)).mono ?_
              rintro e w7 ⟨rfl, hb7⟩
              rw [HIN.out]
              have hq7 : Below wr.heap.size wr w7 := hq6.trans ((HW6.out ▸ hb7).mono hq6.size)
              have hm7 := hmi.below hq7 hmi.lt
              have u0 : w7.cell? ⟨w5.heap.size, 0, none⟩ = some (.int .i64 (k.x + 1)) := ((HW6.out ▸ hb7).cell (p := ⟨_, _, none⟩) hz6).trans q0
              have u1 : w7.cell? ⟨w5.heap.size, 1, none⟩ = some (.int .i64 (k.y + 1)) := ((HW6.out ▸ hb7).cell (p := ⟨_, _, none⟩) hz6).trans q1
              have hz7 : w5.heap.size < w7.heap.size := Nat.lt_of_lt_of_le hz6 (HW6.out ▸ hb7).size
              have hbne : wo.heap.size ≠ b := by have := hgz0; omega
              have hst := HFL.out.stack
              have hbd := HFL.out.bound
              rw [HEL.out] at hbd
              go_wp2_with (first
                | (at_mapUpdate; go_loud (refine wpList_mapUpdate_kn _ rfl _ _ _ rfl b M hm7 (⟨k.x + 1, k.y + 1⟩ : Ck.Knot) n rfl rfl rfl ?_); intro w8 hm8 hg8; go_loud (have p0 : w8.cell? ⟨w5.heap.size, 0, none⟩ = some (.int .i64 (k.x + 1)) := (World.cell?_of_block (hg8.block _ hz7 (fun e => by have e2 : w5.heap.size = b := Option.some.inj e; omega))).trans u0); go_loud (have p1 : w8.cell? ⟨w5.heap.size, 1, none⟩ = some (.int .i64 (k.y + 1)) := (World.cell?_of_block (hg8.block _ hz7 (fun e => by have e2 : w5.heap.size = b := Option.some.inj e; omega))).trans u1); go_loud (have HO8 := Lib.hid ((ownsRow_below HOW.out hq7).kept hg8 (.inr (fun e => by have := ownsRow_base HOW.out b e; omega)))); have hg80 := hg8.size)
                | (at_builtin; refine wpList_append_own_at _ rfl _ _ 59 rfl w.heap.size 23 i0 (.agg #[.int .i64 0, .int .i64 0]) 2 16 Try.underlying59 HI.out HZ0.out HZ1.out HZ2.out rfl (by decide) _ _ _ rfl (HO8.out.alloc _) ⟨w8.heap.size, 0, none⟩ 1 1 [.int .i64 (k.x + 1), .int .i64 (k.y + 1)] rfl rfl (two_new _ _ _ _) ?c2 ?c3 ?c4 ?c5 ?_))
              case c2 => intro u hu; simp at hu; rcases hu with rfl | rfl <;> rfl
              case c3 => unfold maxLen; omega
              case c4 => omega
              case c5 => have := hq7.size; simp; omega
              intro v' w9 hown9 hgrow9 _ hblk9
              have hq8 : Below w8.heap.size w8 (w8.alloc (.cells #[.int .i64 (k.x + 1), .int .i64 (k.y + 1)] 23)) := (Below.refl _ _).alloc (Nat.le_refl _) _
              have hB7 : wo.heap.size < w7.heap.size := Nat.lt_of_lt_of_le hBz hq7.size
              have hB8 : wo.heap.size < w8.heap.size := Nat.lt_of_lt_of_le hB7 hg80
              have keepB : ∀ i, w9.cell? ⟨wo.heap.size, i, none⟩ = wr.cell? ⟨wo.heap.size, i, none⟩ := fun i =>
                (((World.cell?_of_block (hgrow9.block wo.heap.size (by simp; omega) (fun e => HOB.out e.symm))).trans (hq8.cell (p := ⟨_, i, none⟩) hB8)).trans (World.cell?_of_block (hg8.block wo.heap.size hB7 (fun e => hbne (by injection e))))).trans (hq7.cell (p := ⟨_, i, none⟩) hBz)
              have k0 := (keepB 0).trans e0
              have k1 := (keepB 1).trans e1
              have hm9 : MIs w9 b (mput M (⟨k.x + 1, k.y + 1⟩ : Ck.Knot) n) := (hm8.below hq8 hm8.lt).of_block (hgrow9.block b (by have := hm8.lt; simp; omega) (fun e => by have := ownsRow_base HOW.out b e.symm; omega))
              have hg9 : w.grownBy w9 (some b) := gb_row (gb_below ((gb_below hgi hq7).trans hg8) hq8) hgrow9 (ownsRow_base HOW.out)
              have hob9 : v'.ownBlock ≠ some wo.heap.size := by
                rcases hblk9 with h | h
                · rw [h]; exact HOB.out
                · rw [h]; intro e; have e' : w8.heap.size + 1 = wo.heap.size := Option.some.inj e; omega
              have hB9 : wo.heap.size < w9.heap.size := by have := hgrow9.size; simp at this; omega
              have HO9 := Lib.hid hown9
              have HPU := Lib.hid (HFL.out.push (by omega) HP.out HZ.out (of_decide_eq_true HIN.out))
              have hpb := HPU.out.bound
              have HME9 := Lib.hid (meas_push HME.out hpb)
              clear keepB hown9 hgrow9 hblk9 hg8 hpb hm8 hq8 p0 p1 u0 u1
              go_wp2
              go_roundg (4 - (3 + 1))
              case measure => rw [HGK.out]; decide
              case rel => exact ⟨3 + 1, (⟨k.x + 1, k.y + 1⟩ : Ck.Knot) :: V, S ++ [(⟨k.x + 1, k.y + 1⟩ : Ck.Knot)], mput M (⟨k.x + 1, k.y + 1⟩ : Ck.Knot) n, rfl, by omega, by go_num, HPU.out, by rw [kcellsL_snoc, List.length_append]; exact HO9.out, hob9, hm9, hg9, k0, k1, hB9, by rw [List.length_append]; exact HME9.out⟩
          · have hzb : (mget M (⟨k.x + 1, k.y + 1⟩ : Ck.Knot) == 0) = false := by simpa using hz
            have HZ := Lib.hid hz
            clear hz
            go_wp2_with fail
            refine (netOtherUp k.x k.y (1) _ kx1 kx2 ky1 ky2 (by decide) (by decide)).mono ?_
            rintro e w5 ⟨rfl, hb5⟩
            have hq5 : Below wr.heap.size wr w5 := ((Below.refl _ _).alloc (Nat.le_refl _) _).trans (hb5.mono (by simp))
            have b0 : w5.cell? ⟨wr.heap.size, 0, none⟩ = some (.int .i64 (k.x)) := by
              rw [hb5.cell (p := ⟨_, _, none⟩) (by simp), World.cell?_alloc_at _ _ _ _ (by simp)]; rfl
            have b1 : w5.cell? ⟨wr.heap.size, 1, none⟩ = some (.int .i64 (k.y)) := by
              rw [hb5.cell (p := ⟨_, _, none⟩) (by simp), World.cell?_alloc_at _ _ _ _ (by simp)]; rfl
            have b2 : w5.cell? ⟨wr.heap.size, 2, none⟩ = some (.int .i64 (1)) := by
              rw [hb5.cell (p := ⟨_, _, none⟩) (by simp), World.cell?_alloc_at _ _ _ _ (by simp)]; rfl
            have hz5 : wr.heap.size < w5.heap.size := by have := hb5.size; simp at this; omega
            obtain ⟨w6, hw6, q0, q1, hb6, hz6⟩ := box2 w5 (.int .i64 (k.x + 1)) (.int .i64 (k.y + 1)) 23
            have HW6 := Lib.hid hw6
            clear hw6
            have hq6 : Below wr.heap.size wr w6 := hq5.trans (hb6.mono hq5.size)
            have hm6 := hmi.below hq6 hmi.lt
            go_wp2_with (at_lookup; refine wpList_lookup_kn _ rfl _ _ rfl b M (by rw [← HW6.out]; exact hm6) (⟨k.x + 1, k.y + 1⟩ : Ck.Knot) rfl rfl ?_)
            go_roundg (4 - (3 + 1))
            case measure => rw [HGK.out]; decide
            case rel => rw [← HW6.out]; exact ⟨3 + 1, V, S, M, rfl, by omega, by go_num, HFL.out.skip HCL.out H0.out HP.out (fun h => HZ.out h.1), ownsRow_below HOW.out hq6, HOB.out, hm6, gb_below hgi hq6, (hq6.cell (p := ⟨_, _, none⟩) hBz).trans e0, (hq6.cell (p := ⟨_, _, none⟩) hBz).trans e1, Nat.lt_of_lt_of_le hBz hq6.size, HME.out⟩
        · go_wp2
          go_roundg (2 * ((Ck.ends l).length - V.length) + S.length)
          case measure => exact HME.out
          case rel => exact ⟨V, S, M, rfl, HFL.out.done, HOW.out, hmi, hgi⟩
end Go.Proofs.Ythihjphcjjpjpaa

/- Plain mathematics of the parts: what holds of the numbers after some bars have been gone through. -/
namespace Go.Proofs.Ythihjphcjjpjpaa
open Ck

structure Pt (l : List Bar) (i : Nat) (count : Nat) (M : List (Knot × Int)) : Prop where
  num : ∀ k, mget M k ≠ 0 ↔ ∃ b ∈ l.take i, Conn l b.lo k
  lo : ∀ k, 0 ≤ mget M k
  hi : ∀ k, mget M k ≤ count
  le : count ≤ i
  cnt : ∀ n, CntIs l ((l.take i).map Bar.lo).reverse (l.drop i) n → CntIs l [] l (count + n)
theorem Pt.start (l : List Bar) : Pt l 0 0 [] where
  num k := by simp [mget]
  lo k := by simp [mget]
  hi k := by simp [mget]
  le := Nat.le_refl _
  cnt n h := by simpa using h
theorem Pt.closed {l : List Bar} {i count : Nat} {M : List (Knot × Int)} (h : Pt l i count M) : Closed l M := fun b hb k m ha hk => by
  obtain ⟨c, hc, hcc⟩ := (h.num k).1 hk
  exact (h.num m).2 ⟨c, hc, hcc.trans (.one hb ha)⟩
theorem mem_take_succ {l : List Bar} {i : Nat} (hi : i < l.length) {b : Bar} : b ∈ l.take (i + 1) ↔ b ∈ l.take i ∨ b = l[i] := by
  rw [List.take_succ_eq_append_getElem hi, List.mem_append, List.mem_singleton]
theorem seen_iff {l : List Bar} {i : Nat} {k : Knot} : (∃ s ∈ ((l.take i).map Bar.lo).reverse, Conn l s k) ↔ ∃ b ∈ l.take i, Conn l b.lo k := by
  constructor
  · rintro ⟨s, hs, h⟩
    rw [List.mem_reverse, List.mem_map] at hs
    obtain ⟨b, hb, rfl⟩ := hs
    exact ⟨b, hb, h⟩
  · rintro ⟨b, hb, h⟩
    exact ⟨b.lo, by rw [List.mem_reverse, List.mem_map]; exact ⟨b, hb, rfl⟩, h⟩
theorem seen_succ {l : List Bar} {i : Nat} (hi : i < l.length) : ((l.take (i + 1)).map Bar.lo).reverse = l[i].lo :: ((l.take i).map Bar.lo).reverse := by
  rw [List.take_succ_eq_append_getElem hi, List.map_append, List.reverse_append]
  rfl
theorem Pt.old {l : List Bar} {i count : Nat} {M : List (Knot × Int)} (h : Pt l i count M) (hi : i < l.length) (hz : ¬ mget M l[i].lo = 0) : Pt l (i + 1) count M where
  num k := by
    rw [h.num]
    constructor
    · rintro ⟨b, hb, hc⟩
      exact ⟨b, (mem_take_succ hi).2 (.inl hb), hc⟩
    · rintro ⟨b, hb, hc⟩
      rcases (mem_take_succ hi).1 hb with hb | hb
      · exact ⟨b, hb, hc⟩
      · subst hb
        obtain ⟨c, hc2, hcc⟩ := (h.num _).1 hz
        exact ⟨c, hc2, hcc.trans hc⟩
  lo := h.lo
  hi := h.hi
  le := Nat.le_succ_of_le h.le
  cnt n hn := h.cnt n (by
    rw [List.drop_eq_getElem_cons hi]
    exact .old (seen_iff.2 ((h.num _).1 hz)) (by rw [seen_succ hi] at hn; exact hn))
theorem Pt.fresh {l : List Bar} {i count : Nat} {M M' : List (Knot × Int)} (h : Pt l i count M) (hi : i < l.length) (hz : mget M l[i].lo = 0)
    (h1 : ∀ k, Conn l l[i].lo k → mget M' k = ((count + 1 : Nat) : Int)) (h2 : ∀ k, ¬ Conn l l[i].lo k → mget M' k = mget M k) : Pt l (i + 1) (count + 1) M' where
  num k := by
    by_cases hc : Conn l l[i].lo k
    · rw [h1 k hc]
      refine ⟨fun _ => ⟨l[i], (mem_take_succ hi).2 (.inr rfl), hc⟩, fun _ => by omega⟩
    · rw [h2 k hc, h.num]
      constructor
      · rintro ⟨b, hb, hcc⟩
        exact ⟨b, (mem_take_succ hi).2 (.inl hb), hcc⟩
      · rintro ⟨b, hb, hcc⟩
        rcases (mem_take_succ hi).1 hb with hb | hb
        · exact ⟨b, hb, hcc⟩
        · subst hb
          exact absurd hcc hc
  lo k := by
    by_cases hc : Conn l l[i].lo k
    · rw [h1 k hc]; omega
    · rw [h2 k hc]; exact h.lo k
  hi k := by
    by_cases hc : Conn l l[i].lo k
    · rw [h1 k hc]; omega
    · rw [h2 k hc]; have := h.hi k; omega
  le := Nat.succ_le_succ h.le
  cnt n hn := by
    rw [show count + 1 + n = count + (n + 1) from by omega]
    refine h.cnt (n + 1) ?_
    rw [List.drop_eq_getElem_cons hi]
    exact .fresh (fun e => (h.num _).2 (seen_iff.1 e) hz) (by rw [seen_succ hi] at hn; exact hn)
theorem Pt.done {l : List Bar} {count : Nat} {M : List (Knot × Int)} (h : Pt l l.length count M) : PartsIs l count := by
  have := h.cnt 0 (by rw [List.drop_length]; exact .nil _)
  exact this
theorem Pt.pos {l : List Bar} {count : Nat} {M : List (Knot × Int)} (h : Pt l l.length count M) {b : Bar} (hb : b ∈ l) : 0 < mget M b.lo ∧ mget M b.lo ≤ count := by
  have h1 := (h.num b.lo).2 ⟨b, by rw [List.take_length]; exact hb, .refl _⟩
  have h2 := h.lo b.lo
  exact ⟨by omega, h.hi _⟩
end Go.Proofs.Ythihjphcjjpjpaa

/- A slice of slices of bars that the call itself fills: its block, and the rows that it owns. -/
namespace Go.Proofs.Ythihjphcjjpjpaa
open Go.RowKit

structure Heads (W : World) (base P n K : Nat) (cur : Array Value) : Prop where
  blk : W.heap[P]? = some (.cells cur 31 (0, 0))
  size : cur.size = n
  own : ∀ j (h : j < cur.size), ∃ m xs, W.ownsRow base 48 3 cur[j] m xs ∧ m ≤ K
  apart : ∀ j j' (h : j < cur.size) (h' : j' < cur.size), j ≠ j' → cur[j].ownBlock = none ∨ cur[j].ownBlock ≠ cur[j'].ownBlock
theorem Heads.lt {W : World} {base P n K : Nat} {cur : Array Value} (h : Heads W base P n K cur) : P < W.heap.size := (Array.getElem?_eq_some_iff.1 h.blk).1
theorem Heads.cell {W : World} {base P n K : Nat} {cur : Array Value} (h : Heads W base P n K cur) {q : Nat} (hq : q < cur.size) : W.cell? ⟨P, q, none⟩ = some cur[q] := by
  simp [World.cell?, h.blk, Array.getElem?_eq_getElem hq]
theorem Heads.frozen {W : World} {base P n K : Nat} {cur : Array Value} (h : Heads W base P n K cur) (q : Nat) : W.frozen? ⟨P, q, none⟩ = false := by
  simp [World.frozen?, h.blk]
theorem own_block_ne {W : World} {base P : Nat} {e t : TypeId} {size n : Nat} {v : Value} {xs : List Value} {cur : Array Value} (h : W.ownsRow base e size v n xs) (hb : W.heap[P]? = some (.cells cur t (0, 0))) (hne : e ≠ t) : v.ownBlock ≠ some P := by
  intro he
  rcases h.2 with ⟨rfl, _⟩ | ⟨g, cap, c, rfl, _, hh, _⟩
  · cases he
  · have : g = P := by injection he
    subst this
    rw [hh] at hb
    injection hb with hb
    injection hb with _ ht
    exact hne ht
theorem own_map_ne {W : World} {base b : Nat} {e : TypeId} {size n : Nat} {v : Value} {xs : List Value} {m : List (Ck.Knot × Int)} (h : W.ownsRow base e size v n xs) (hb : MIs W b m) : v.ownBlock ≠ some b := by
  intro he
  obtain ⟨es, clock, h1, _⟩ := hb
  rcases h.2 with ⟨rfl, _⟩ | ⟨g, cap, c, rfl, _, hh, _⟩
  · cases he
  · have : g = b := by injection he
    subst this
    rw [hh] at h1
    cases h1
theorem own_lt {W : World} {base : Nat} {e : TypeId} {size n g : Nat} {v : Value} {xs : List Value} (h : W.ownsRow base e size v n xs) (hb : v.ownBlock = some g) : g < W.heap.size := by
  rcases h.2 with ⟨rfl, _⟩ | ⟨g', cap, c, rfl, _, hh, _⟩
  · cases hb
  · have : g' = g := by injection hb
    subst this
    exact (Array.getElem?_eq_some_iff.1 hh).1
theorem Heads.below {W W' : World} {base P n K : Nat} {cur : Array Value} (h : Heads W base P n K cur) (hb : Below W.heap.size W W') : Heads W' base P n K cur where
  blk := (hb.block P h.lt).trans h.blk
  size := h.size
  own j hj := by
    obtain ⟨m, xs, h1, h2⟩ := h.own j hj
    exact ⟨m, xs, ownsRow_below h1 hb, h2⟩
  apart := h.apart
theorem setCell_grown (W : World) (P q : Nat) (v : Value) : W.grownBy (W.setCell ⟨P, q, none⟩ v) (some P) :=
  ⟨rfl, rfl, rfl, by simp [World.setCell], fun i _ hi => Below.heap_setCell _ _ _ _ (fun e => hi (by rw [e]))⟩
theorem Heads.step {W W1 W2 : World} {base P n K q m g cap : Nat} {cur : Array Value} {xs' : List Value} (h : Heads W base P n K cur) (hW : Below W.heap.size W W1) (hq : q < cur.size)
    (hown : W2.ownsRow base 48 3 (.slice (some ⟨g, 0, none⟩) m cap) m xs') (hm : m ≤ K + 1) (hg : W1.grownBy W2 cur[q].ownBlock) (hblk : cur[q].ownBlock = some g ∨ g = W1.heap.size) :
    Heads (W2.setCell ⟨P, q, none⟩ (.slice (some ⟨g, 0, none⟩) m cap)) base P n (K + 1) (cur.set q (.slice (some ⟨g, 0, none⟩) m cap)) := by
  have hT : (48 : Nat) ≠ 31 := by decide
  have h1 := h.below hW
  obtain ⟨mq, xq, oq, _⟩ := h1.own q hq
  have hPne := own_block_ne oq h1.blk hT
  have hP2 : W2.heap[P]? = some (.cells cur 31 (0, 0)) := (hg.block P h1.lt (fun e => hPne e.symm)).trans h1.blk
  have hs := setCell_grown W2 P q (.slice (some ⟨g, 0, none⟩) m cap)
  have hgne : (Value.slice (some ⟨g, 0, none⟩) m cap).ownBlock ≠ some P := own_block_ne hown hP2 hT
  have hold : ∀ j (hj : j < cur.size) (hjq : j ≠ q), ∃ m xs, W2.ownsRow base 48 3 cur[j] m xs ∧ m ≤ K := fun j hj hjq => by
    obtain ⟨mj, xj, oj, hmj⟩ := h1.own j hj
    exact ⟨mj, xj, oj.kept hg (h.apart j q hj hq hjq), hmj⟩
  refine ⟨?_, by rw [Array.size_set, h.size], fun j hj => ?_, fun j j' hj hj' hne => ?_⟩
  · simp only [World.setCell, Array.getElem?_modify, hP2]
    simp [Array.setIfInBounds, hq]
  · rw [Array.size_set] at hj
    by_cases hjq : q = j
    · subst hjq
      rw [Array.getElem_set_self]
      exact ⟨m, xs', hown.kept hs (.inr hgne), hm⟩
    · rw [Array.getElem_set_ne _ hj hjq]
      obtain ⟨mj, xj, oj, hmj⟩ := hold j hj (fun e => hjq e.symm)
      exact ⟨mj, xj, oj.kept hs (.inr (own_block_ne oj hP2 hT)), by omega⟩
  · rw [Array.size_set] at hj hj'
    have other : ∀ i (hi : i < cur.size), i ≠ q → cur[i].ownBlock = none ∨ cur[i].ownBlock ≠ some g := fun i hi hiq => by
      rcases hblk with hb | hb
      · rw [← hb]; exact h.apart i q hi hq hiq
      · refine .inr (fun e => ?_)
        obtain ⟨mi, xi, oi, _⟩ := h1.own i hi
        have := own_lt oi e
        omega
    by_cases e1 : q = j
    · subst e1
      rw [Array.getElem_set_self, Array.getElem_set_ne _ hj' hne]
      refine .inr (fun e => ?_)
      rcases other j' hj' (fun e => hne e.symm) with h' | h'
      · rw [h'] at e; cases e
      · exact h' e.symm
    · rw [Array.getElem_set_ne _ hj e1]
      by_cases e2 : q = j'
      · subst e2
        rw [Array.getElem_set_self]
        exact other j hj (fun e => e1 e.symm)
      · rw [Array.getElem_set_ne _ hj' e2]
        exact h.apart j j' hj hj' hne
end Go.Proofs.Ythihjphcjjpjpaa

/- The contract of partsOf: a slice with as many parts as the net has. -/
namespace Go.Proofs.Ythihjphcjjpjpaa
open Go.RowKit

theorem Try.info48 : (Try.prog.info? 48).map (fun i => (i.zero, i.size, i.bytes)) = some (some (.agg #[.int .i64 0, .int .i64 0, .int .i64 0]), 3, 24) := by kernel_rfl
theorem Try.info31 : (Try.prog.info? 31).map (fun i => (i.zero, i.size, i.bytes)) = some (some (.slice none 0 0), 1, 24) := by kernel_rfl
def zeros (n : Nat) : Array Value := madeCells (Value.slice none 0 0).cells (n * 1)
theorem Heads.made (w : World) (base n : Nat) (_ : base ≤ w.heap.size) : Heads (w.alloc (.cells (zeros n) 31)) base w.heap.size n 0 (zeros n) where
  blk := heap_alloc_new _ _
  size := by rw [zeros, size_madeCells]; omega
  own j hj := by
    have : (zeros n)[j] = .slice none 0 0 := by simp [zeros, madeCells, Value.cells, Nat.mod_one]
    rw [this]
    exact ⟨0, [], World.ownsRow_nil _ _ _ _, Nat.le_refl _⟩
  apart j j' hj hj' _ := by
    have : (zeros n)[j] = .slice none 0 0 := by simp [zeros, madeCells, Value.cells, Nat.mod_one]
    rw [this]
    exact .inl rfl

theorem three_new (w : World) (a b c : Value) (t : TypeId) : ∀ (j : Nat) (u : Value), [a, b, c][j]? = some u → (w.alloc (.cells #[a, b, c] t)).cell? ((⟨w.heap.size, 0, none⟩ : Addr).add j) = some u := by
  obtain ⟨w1, rfl, h0, h1, h2, _⟩ := box3 w a b c t
  intro j u h
  rw [add0]
  match j, h with
  | 0, h => cases h; exact h0
  | 1, h => cases h; exact h1
  | 2, h => cases h; exact h2

def PartPost (l : List Ck.Bar) (w : World) (e : Ending) (w' : World) : Prop := ∃ n a c, Ck.PartsIs l n ∧ n ≤ l.length ∧ e = .returned (.slice a n c) ∧ Below w.heap.size w w'

set_option maxHeartbeats 4000000 in
set_option maxRecDepth 100000 in
theorem netPartsOf (A : Option Addr) (c : Nat) (l : List Ck.Bar) (w : World) (hl : l.length ≤ 4096) (hs : l.Pairwise Ck.Blt) (hok : ∀ x ∈ l, Ck.okBar x) (h : RB w w.heap.size A l) :
    Calls Try.prog 57 #[.slice A l.length c] w (PartPost l w) := by
  have hmm := @run_makeMap Try.prog
  have hl' : (l.length : Int) ≤ 4096 := by omega
  have HS := Lib.hid hs
  have HR := Lib.hid h
  have HOK := Lib.hid hok
  clear hs h hok
  go_enter Try.func57, Try.ntmps57
  go_wp2_with fail
  go_step3
  go_wp2_with fail
  go_step3
  go_wp2_with fail

  go_loopg [4, 5] l.length (fun g cv iv wi => ∃ i n M, g = l.length - i ∧ i ≤ l.length ∧ cv = .int .i64 (n : Nat) ∧ iv = .int .i64 (i : Nat) ∧ Pt l i n M ∧ MIs wi w.heap.size M ∧ Below w.heap.size w wi)
  case atStart => exact ⟨0, 0, [], rfl, Nat.zero_le _, rfl, rfl, Pt.start l, MIs.made _, (Below.refl _ _).alloc (Nat.le_refl _) _⟩
  case round =>
    obtain ⟨i, n, M, hg, hi, rfl, rfl, hpt, hmi, hbi⟩ := hrel
    have HG := Lib.hid hg
    have HPT := Lib.hid hpt
    clear hg hpt
    by_cases hlt : i < l.length
    · have hne : ((i : Int) == (l.length : Int)) = false := by rw [beq_eq_false_iff_ne]; omega
      have hrb := HR.out.below hbi
      have hbz := hbi.size
      obtain ⟨b, off, rfl, hB, hc⟩ := hrb (by omega)
      obtain ⟨c0, c1, c2⟩ := hc i hlt
      clear hc hrb
      have hml := hmi.lt
      by_cases hz : mget M l[i].lo = 0
      · have hzb : (mget M l[i].lo == 0) = true := by rw [hz]; rfl
        have HZ := Lib.hid hz
        have hnl := HPT.out.le
        clear hz
        go_wp2_with fail
        refine (netLower _ _ _ _).mono ?_
        rintro e w2 ⟨rfl, hb2⟩
        have hm2 := hmi.below hb2 hml
        have hz2 : b < wr.heap.size := by omega
        have d0 := (hb2.cell (p := ⟨b, off + i * 3, none⟩) hz2).trans c0
        have d1 := (hb2.cell (p := ⟨b, off + i * 3 + 1, none⟩) hz2).trans c1
        have d2 := (hb2.cell (p := ⟨b, off + i * 3 + 2, none⟩) hz2).trans c2
        clear c0 c1 c2
        go_wp2_with (first
          | (at_lookup; refine wpList_lookup_kn _ rfl _ _ rfl w.heap.size M hm2 l[i].lo rfl rfl ?_)
          | (go_at_call 72; refine (netLower _ _ _ _).mono ?_; rintro e w3 ⟨rfl, hb3⟩)
          | (go_at_call 81; refine (netNumberFrom _ c w.heap.size l l[i].lo ((n : Int) + 1) M _ hl HS.out HOK.out ((HR.out.below ((hbi.trans (hb2.mono hbz)).trans (hb3.mono (by have := hb2.size; omega)))).more (by have := hb2.size; have := hb3.size; omega)) (Ck.lo_ends (List.getElem_mem hlt)) (by omega) (by omega) HZ.out HPT.out.closed (hm2.below hb3 hm2.lt)).mono ?_; rintro e w4 ⟨rfl, M', hnum, hm4, hg4⟩))
        have hb4 : Below w.heap.size w w4 := ((hbi.trans (hb2.mono hbz)).trans (hb3.mono (by have := hb2.size; omega))).grown hg4 (by have := hb2.size; have := hb3.size; omega) (fun q e => by cases e; exact Nat.le_refl _)
        go_roundg (l.length - (i + 1))
        case measure => rw [HG.out]; omega
        case rel => exact ⟨i + 1, n + 1, M', rfl, by omega, by go_num, by go_num, HPT.out.fresh hlt HZ.out (fun k hk => by rw [hnum.1 k hk]; omega) hnum.2, hm4, hb4⟩
      · have hzb : (mget M l[i].lo == 0) = false := by simpa using hz
        have HZ := Lib.hid hz
        clear hz
        go_wp2_with fail
        refine (netLower _ _ _ _).mono ?_
        rintro e w2 ⟨rfl, hb2⟩
        have hm2 := hmi.below hb2 hml
        go_wp2_with (at_lookup; refine wpList_lookup_kn _ rfl _ _ rfl w.heap.size M hm2 l[i].lo rfl rfl ?_)
        go_roundg (l.length - (i + 1))
        case measure => rw [HG.out]; omega
        case rel => exact ⟨i + 1, n, M, rfl, by omega, rfl, by go_num, HPT.out.old hlt HZ.out, hm2, hbi.trans (hb2.mono hbz)⟩
    · obtain rfl : i = l.length := by omega
      obtain ⟨i1, hi1, hz01, hz11, hz21⟩ := info_parts Try.info31
      have hnl := HPT.out.le
      have hmk : ∀ W : World, (Instr.makeSlice 103 (.int .i64 (n : Int)) (.int .i64 (n : Int))).run Try.prog W = .ok (.slice (some ⟨W.heap.size, 0, none⟩) n n) (W.alloc (.cells (zeros n) 31)) := fun W => by
        have := run_make (P := Try.prog) W 103 31 i1 (.slice none 0 0) Try.underlying103 hi1 hz01 .i64 .i64 (n : Int) (n : Int) (by omega) (by omega) (by rw [hz21]; omega) (by omega)
        rw [hz11, Int.toNat_natCast] at this
        exact this
      have hbz := hbi.size
      obtain ⟨wo, rfl⟩ : ∃ wo : World, wo = wr := ⟨_, rfl⟩
      have HH := Lib.hid (Heads.made wo w.heap.size n hbz)
      have hm1 := hmi.below ((Below.refl _ _).alloc (Nat.le_refl _) (.cells (zeros n) 31)) hmi.lt
      have hb1 := hbi.alloc hbz (.cells (zeros n) 31)
      obtain ⟨wp, hwp⟩ : ∃ wp, wp = wo.alloc (.cells (zeros n) 31) := ⟨_, rfl⟩
      rw [← hwp] at HH hm1 hb1
      have HWP := Lib.hid hwp
      clear hwp hi1 hz01 hz11 hz21
      go_wp2_with fail
      rw [← HWP.out]
      obtain ⟨ib, hib, hb0, hb01, hb02⟩ := info_parts Try.info48
      have HIB := Lib.hid hib
      have HB0 := Lib.hid hb0
      have HB1 := Lib.hid hb01
      have HB2 := Lib.hid hb02
      clear hib hb0 hb01 hb02
      go_loopg [8, 9, 42] l.length (fun g _ _ iv wi => ∃ k cur, g = l.length - k ∧ k ≤ l.length ∧ iv = .int .i64 (k : Nat) ∧ Heads wi w.heap.size wo.heap.size n k cur ∧ MIs wi w.heap.size M ∧ Below w.heap.size w wi)
      case atStart => exact ⟨0, zeros n, rfl, Nat.zero_le _, rfl, HH.out, hm1, hb1⟩
      case round =>
        obtain ⟨k, cur, hg, hk, rfl, hh, hmk2, hbk⟩ := hrel
        have HGK := Lib.hid hg
        have HHK := Lib.hid hh
        clear hg hh
        by_cases hlt : k < l.length
        · have hrb := HR.out.below hbk
          have hbkz := hbk.size
          obtain ⟨b, off, rfl, hB, hc⟩ := hrb (by omega)
          obtain ⟨c0, c1, c2⟩ := hc k hlt
          obtain ⟨hp1, hp2⟩ := HPT.out.pos (List.getElem_mem hlt)
          obtain ⟨q, hq⟩ : ∃ q : Nat, mget M l[k].lo = (q : Int) + 1 := ⟨(mget M l[k].lo - 1).toNat, by omega⟩
          have hqn : q < n := by omega
          have HQ := Lib.hid hq
          clear hc hrb hq hp1 hp2
          go_wp2_with fail
          refine (netLower _ _ _ _).mono ?_
          rintro e w2 ⟨rfl, hb2⟩
          have b0 : w2.cell? ⟨wr.heap.size, 0, none⟩ = some (.int .i64 l[k].x) := by
            rw [hb2.cell (p := ⟨_, _, none⟩) (by simp), World.cell?_alloc_at _ _ _ _ (by simp)]; rfl
          have b1 : w2.cell? ⟨wr.heap.size, 1, none⟩ = some (.int .i64 l[k].y) := by
            rw [hb2.cell (p := ⟨_, _, none⟩) (by simp), World.cell?_alloc_at _ _ _ _ (by simp)]; rfl
          have b2 : w2.cell? ⟨wr.heap.size, 2, none⟩ = some (.int .i64 l[k].s) := by
            rw [hb2.cell (p := ⟨_, _, none⟩) (by simp), World.cell?_alloc_at _ _ _ _ (by simp)]; rfl
          have hq2 : Below wr.heap.size wr w2 := ((Below.refl _ _).alloc (Nat.le_refl _) _).trans (hb2.mono (by simp))
          have hm2 := hmk2.below hq2 hmk2.lt
          have hh2 := HHK.out.below hq2
          have hqs : q < cur.size := by rw [hh2.size]; exact hqn
          have hPc := hh2.cell hqs
          have hPf := hh2.frozen q
          obtain ⟨mq, xq, oq, hmq⟩ := hh2.own q hqs
          have HO := Lib.hid oq
          have HH2 := Lib.hid hh2
          have HPC := Lib.hid hPc
          have HPF := Lib.hid hPf
          have hbq := hbk.trans (hq2.mono hbkz)
          have hbqz := hbq.size
          generalize hcq : cur[q] = vq at hPc oq HO
          have HCQ := Lib.hid hcq
          have hqi0 : (0 : Int) ≤ (q : Int) := by omega
          have hqi1 : (q : Int) < (n : Int) := by omega
          clear oq hh2 hcq c0 c1 c2 hb2
          go_wp2_with (at_lookup; refine wpList_lookup_kn _ rfl _ _ rfl w.heap.size M hm2 l[k].lo rfl rfl ?_; rw [HQ.out])
          have hPlt := HH2.out.lt
          have hPne : vq.ownBlock ≠ some wo.heap.size := own_block_ne HO.out HH2.out.blk (by decide)
          go_region_law (first
            | (refine step_append_lies _ rfl (.tmp 56) (.tmp 58) 31 rfl w.heap.size 48 ib (.agg #[.int .i64 0, .int .i64 0, .int .i64 0]) 3 24 Try.underlying31 HIB.out HB0.out HB1.out HB2.out rfl (by decide) vq mq xq (by simp [Act.eval]) (by exact HO.out.alloc _) ⟨w2.heap.size, 0, none⟩ 1 1 [.int .i64 l[k].x, .int .i64 l[k].y, .int .i64 l[k].s] (by simp [Act.eval]) rfl (by exact three_new _ _ _ _ _) (by intro u hu; simp at hu; rcases hu with rfl | rfl | rfl <;> rfl) (by decide) (by unfold maxLen; omega) (by omega) (by simp; omega) (w2.heap.size + 1) (by simp) ?_; intro g cap w5 hown5 hgrow5 hblk5 hg5; have s0 : w5.cell? ⟨wo.heap.size, q, none⟩ = some vq := (World.cell?_of_block (hgrow5.block wo.heap.size (by simp; omega) (fun e => hPne e.symm))).trans (((Below.refl _ w2).alloc (Nat.le_refl _) _).cell (p := ⟨wo.heap.size, q, none⟩) hPlt |>.trans hPc); have sf : w5.frozen? ⟨wo.heap.size, q, none⟩ = false := (World.frozen?_of_block (hgrow5.block wo.heap.size (by simp; omega) (fun e => hPne e.symm))).trans (((Below.refl _ w2).alloc (Nat.le_refl _) _).frozen (p := ⟨wo.heap.size, q, none⟩) hPlt |>.trans hPf)))
          all_goals
            have hW1 : Below w2.heap.size w2 ((w2.alloc (.cells #[.int .i64 l[k].x, .int .i64 l[k].y, .int .i64 l[k].s] 48)).drew) := below_drew ((Below.refl _ _).alloc (Nat.le_refl _) _)
            have hmlt := hmi.lt
            have hm5 : MIs w5 w.heap.size M := (hm2.below hW1 hm2.lt).of_block (hgrow5.block w.heap.size (by have := hm2.lt; simp; omega) (fun e => own_map_ne HO.out hm2 e.symm))
            have hm6 : MIs (w5.setCell ⟨wo.heap.size, q, none⟩ (.slice (some ⟨g, 0, none⟩) (mq + 1) cap)) w.heap.size M := hm5.of_block (Below.heap_setCell _ _ _ _ (by show w.heap.size ≠ wo.heap.size; omega))
            have hb6 : Below w.heap.size w (w5.setCell ⟨wo.heap.size, q, none⟩ (.slice (some ⟨g, 0, none⟩) (mq + 1) cap)) := ((hbq.trans (hW1.mono hbqz)).grown hgrow5 (by simp; omega) (ownsRow_base HO.out)).setCell (by show w.heap.size ≤ wo.heap.size; omega) _
            have HST := Lib.hid (HH2.out.step hW1 hqs hown5 (by omega) (by rw [HCQ.out]; exact hgrow5) (by rw [HCQ.out]; simpa using hblk5))
            have HM6 := Lib.hid hm6
            have HB6 := Lib.hid hb6
            clear hW1 hm5 hm6 hb6 hown5 hgrow5 hblk5 s0 sf hg5
            go_wp2
            go_roundg (l.length - (k + 1))
            case measure => rw [HGK.out]; omega
            case rel => exact ⟨k + 1, _, rfl, by omega, by go_num, HST.out, HM6.out, HB6.out⟩
        · obtain rfl : k = l.length := by omega
          have HD := Lib.hid HPT.out.done
          go_wp2
          go_ret
          exact ⟨n, _, _, HD.out, hnl, rfl, hbk⟩
end Go.Proofs.Ythihjphcjjpjpaa

/- The contract of Count at a valid net. -/
namespace Go.Proofs.Ythihjphcjjpjpaa
open Go.RowKit

theorem farB_iff (n : Int) : farB n = false ↔ Ck.inPlace n := by simp [farB, Ck.inPlace]
theorem knotE_ok (x y : Int) : knotE x y = 0 ↔ Ck.okKnot ⟨x, y⟩ := by
  unfold knotE Ck.okKnot
  cases hx : farB x
  · cases hy : farB y
    · have h1 := (farB_iff x).1 hx
      have h2 := (farB_iff y).1 hy
      simp [h1, h2, evenB]
    · have h2 : ¬ Ck.inPlace y := fun h => by rw [(farB_iff y).2 h] at hy; cases hy
      simp [h2]
  · have h2 : ¬ Ck.inPlace x := fun h => by rw [(farB_iff x).2 h] at hx; cases hx
    simp [h2]
theorem barE_iff (b : Ck.Bar) : barE b.x b.y b.s = 0 ↔ Ck.okBar b := by
  unfold barE Ck.okBar
  by_cases h1 : knotE b.x b.y = 0
  · by_cases h2 : b.s = 1 ∨ b.s = -1
    · simp only [h1, if_true, if_pos h2, knotE_ok]
      have hk : Ck.okKnot ⟨b.x, b.y⟩ := (knotE_ok _ _).1 h1
      constructor
      · rintro ⟨a, c, _⟩
        exact ⟨hk, h2.symm, a, c⟩
      · rintro ⟨_, _, a, c⟩
        refine ⟨a, c, ?_⟩
        have := hk.2.2
        simp only at this ⊢
        omega
    · simp only [h1, if_true, if_neg h2]
      constructor
      · intro h; omega
      · rintro ⟨_, h, _⟩; exact absurd h.symm h2
  · simp only [if_neg h1]
    constructor
    · intro h; exact absurd h h1
    · rintro ⟨h, _⟩; exact absurd ((knotE_ok _ _).2 h) h1
theorem netFrom_zero : ∀ (l : List Ck.Bar) (p : Option Ck.Bar), netFrom p l = 0 ↔ (∀ b ∈ l, Ck.okBar b) ∧ (match p with | none => l.Pairwise Ck.Blt | some a => (a :: l).Pairwise Ck.Blt)
  | [], none => by simp [netFrom]
  | [], some a => by simp [netFrom]
  | b :: r, none => by
    unfold netFrom
    by_cases h : barE b.x b.y b.s = 0
    · rw [if_pos h, netFrom_zero r (some b)]
      simp only [List.mem_cons, forall_eq_or_imp, (barE_iff b).1 h, true_and]
    · rw [if_neg h]
      constructor
      · intro h'; exact absurd h' h
      · intro h'; exact absurd ((barE_iff b).2 (h'.1 b (by simp))) h
  | b :: r, some a => by
    unfold netFrom
    by_cases h : barE b.x b.y b.s = 0
    · rw [if_pos h]
      by_cases hl : lessB a.x a.y a.s b.x b.y b.s = true
      · have hab := (lessB_iff a b).1 hl
        rw [if_pos hl, netFrom_zero r (some b)]
        simp only [List.mem_cons, forall_eq_or_imp, (barE_iff b).1 h, true_and]
        constructor
        · rintro ⟨h1, h2⟩
          exact ⟨h1, List.pairwise_cons.2 ⟨fun c hc => by
            rcases List.mem_cons.1 hc with rfl | hc
            · exact hab
            · exact hab.trans ((List.pairwise_cons.1 h2).1 c hc), h2⟩⟩
        · rintro ⟨h1, h2⟩
          exact ⟨h1, (List.pairwise_cons.1 h2).2⟩
      · rw [if_neg hl]
        constructor
        · intro h'; omega
        · rintro ⟨_, h2⟩
          exact absurd ((lessB_iff a b).2 ((List.pairwise_cons.1 h2).1 b (by simp))) hl
    · rw [if_neg h]
      constructor
      · intro h'; exact absurd h' h
      · intro h'; exact absurd ((barE_iff b).2 (h'.1 b (by simp))) h
theorem netE_zero (l : List Ck.Bar) : netE l = 0 ↔ l.length ≤ 4096 ∧ Ck.Net l := by
  unfold netE
  split
  · constructor
    · intro h; omega
    · rintro ⟨h, _⟩; omega
  · rw [netFrom_zero]
    constructor
    · rintro ⟨h1, h2⟩; exact ⟨by omega, h1, h2⟩
    · rintro ⟨_, h1, h2⟩; exact ⟨h1, h2⟩

theorem mput_keys (m : List (Ck.Knot × Int)) (k k' : Ck.Knot) (v : Int) : k' ∈ (mput m k v).map (·.1) ↔ k' = k ∨ k' ∈ m.map (·.1) := by
  induction m with
  | nil => simp [mput]
  | cons p r ih =>
    by_cases h : k = p.1
    · rw [show mput (p :: r) k v = (k, v) :: r from by simp [mput, h]]
      simp only [List.map_cons, List.mem_cons, ← h]
      constructor
      · rintro (h1 | h1)
        · exact .inl h1
        · exact .inr (.inr h1)
      · rintro (h1 | h1 | h1)
        · exact .inl h1
        · exact .inl h1
        · exact .inr h1
    · simp only [mput, if_neg h, List.map_cons, List.mem_cons, ih]
      constructor
      · rintro (h1 | h1 | h1)
        · exact .inr (.inl h1)
        · exact .inl h1
        · exact .inr (.inr h1)
      · rintro (h1 | h1 | h1)
        · exact .inr (.inl h1)
        · exact .inl h1
        · exact .inr (.inr h1)
theorem degs_keys (ks : List Ck.Knot) : ∀ (m : List (Ck.Knot × Int)) (k : Ck.Knot), k ∈ (ks.foldl incr m).map (·.1) ↔ k ∈ ks ∨ k ∈ m.map (·.1) := by
  induction ks with
  | nil => intro m k; simp
  | cons a r ih =>
    intro m k
    rw [List.foldl_cons, ih, incr, mput_keys, List.mem_cons]
    constructor
    · rintro (h | h | h)
      · exact .inl (.inr h)
      · exact .inl (.inl h)
      · exact .inr h
    · rintro ((h | h) | h)
      · exact .inr (.inl h)
      · exact .inl h
      · exact .inr (.inr h)
theorem MIs.keys_nodup {w : World} {b : Nat} {m : List (Ck.Knot × Int)} (h : MIs w b m) : (m.map (·.1)).Nodup := by
  obtain ⟨_, _, _, _, h3, _⟩ := h
  exact h3
theorem degs_length {w : World} {b : Nat} {l : List Ck.Bar} (h : MIs w b (degsL (Ck.ends l))) : (degsL (Ck.ends l)).length = Ck.nK l := by
  rw [← Ck.nK_eq h.keys_nodup (fun k => by rw [degsL, degs_keys]; simp), List.length_map]
theorem MIs.size {w : World} {b : Nat} {m : List (Ck.Knot × Int)} (h : MIs w b m) : ∃ es clock, w.heap[b]? = some (.map es clock) ∧ es.size = m.length := by
  obtain ⟨es, clock, h1, h2, _⟩ := h
  refine ⟨es, clock, h1, ?_⟩
  have := congrArg List.length h2
  simpa using this
theorem nK_le (l : List Ck.Bar) : Ck.nK l ≤ 2 * l.length := by
  rw [← ends_length l]
  exact (Ck.nub_nodup _).length_le_of_subset (fun k hk => Ck.mem_nub.1 hk)
theorem meshL_nM (l : List Ck.Bar) : (meshL l l).length = Ck.nM l := by
  rw [meshL, ← List.countP_eq_length_filter, Ck.nM]
  refine List.countP_congr fun b hb => ?_
  obtain ⟨x, y, s⟩ := b
  simp only [isM, Ck.isMesh, allIn, meshBars4, List.all_cons, List.all_nil, Bool.and_true, Bool.and_eq_true, decide_eq_true_eq]
  rw [show y + 1 - 1 = y from by omega]
  constructor
  · rintro ⟨h1, _, h2, h3, h4⟩; exact ⟨h1, h2, h3, h4⟩
  · rintro ⟨h1, h2, h3, h4⟩
    subst h1
    exact ⟨rfl, hb, h2, h3, h4⟩

theorem MIs.len {w : World} {b : Nat} {m : List (Ck.Knot × Int)} (h : MIs w b m) : (Builtin.len_ #[101] 3 #[.map (some b)]).run Try.prog w = .ok (.int .i64 (m.length : Nat)) w := by
  obtain ⟨es, clock, h1, h2⟩ := h.size
  simp [Builtin.len_, run_underlying Try.underlying101, MapKept.run_getObj_map h1, goInt, h2, Result.andThen]
theorem five_of_block {w : World} {g : Nat} {a b c d e : Value} {t : TypeId} (h : w.heap[g]? = some (.cells #[a, b, c, d, e] t (0, 0))) : w.cell? ⟨g, 0, none⟩ = some a ∧ w.cell? ⟨g, 1, none⟩ = some b ∧ w.cell? ⟨g, 2, none⟩ = some c ∧ w.cell? ⟨g, 3, none⟩ = some d ∧ w.cell? ⟨g, 4, none⟩ = some e ∧ ∀ i, w.frozen? ⟨g, i, none⟩ = false := by
  refine ⟨?_, ?_, ?_, ?_, ?_, fun i => ?_⟩ <;> simp [World.cell?, World.frozen?, h]
def CountPost (l : List Ck.Bar) (w : World) (e : Ending) (w' : World) : Prop :=
  ∃ p : Nat, Ck.PartsIs l p ∧ e = .returned (.tuple #[.agg #[.int .i64 (Ck.nK l : Nat), .int .i64 (l.length : Nat), .int .i64 (Ck.nM l : Nat), .int .i64 p, .int .i64 ((l.length : Int) - (Ck.nK l : Nat) + p - (Ck.nM l : Nat))], .int .i64 0]) ∧ Below w.heap.size w w'

set_option maxHeartbeats 2000000 in
set_option maxRecDepth 100000 in
theorem netCount (A : Option Addr) (c : Nat) (l : List Ck.Bar) (w : World) (hl : l.length ≤ 4096) (hcap : l.length ≤ c) (hcm : c ≤ maxLen) (hN : Ck.Net l) (h : RB w w.heap.size A l) :
    Calls Try.prog 25 #[.slice A l.length c] w (CountPost l w) := by
  have HR := Lib.hid h
  have HN := Lib.hid hN
  have HE := Lib.hid ((netE_zero l).2 ⟨hl, hN⟩)
  have hnk := nK_le l
  have hnm : (meshL l l).length ≤ l.length := by have := meshL_le l l.length; rwa [List.take_length] at this
  clear h hN
  go_enter Try.func25, Try.ntmps25
  obtain ⟨w0, hw0⟩ : ∃ w0, w0 = w.alloc (.cells #[.int .i64 0, .int .i64 0, .int .i64 0, .int .i64 0, .int .i64 0] 66) := ⟨_, rfl⟩
  have hr0 : w0.heap[w.heap.size]? = some (.cells #[.int .i64 0, .int .i64 0, .int .i64 0, .int .i64 0, .int .i64 0] 66 (0, 0)) := by rw [hw0]; exact heap_alloc_new _ _
  have hb0 : Below w.heap.size w w0 := by rw [hw0]; exact (Below.refl _ _).alloc (Nat.le_refl _) _
  have hz0 : w.heap.size < w0.heap.size := by rw [hw0]; simp
  have HW := Lib.hid hw0
  have HR0 := Lib.hid hr0
  clear hw0 hr0
  go_wp2_with fail
  rw [← HW.out]
  refine (netCheckNet A c l _ hl hcap hcm ((HR.out.below hb0).more hb0.size)).mono ?_
  rintro e w1 ⟨rfl, hb1⟩
  rw [HE.out]
  have hc1 := hb0.trans (hb1.mono hb0.size)
  have hz1 := Nat.lt_of_lt_of_le hz0 hb1.size
  go_wp2_with fail
  refine (netDegrees A c l _ hl HN.out.1 ((HR.out.below hc1).more hc1.size)).mono ?_
  rintro e w2 ⟨b, rfl, hbz, hm2, hb2⟩
  have hc2 := hc1.trans (hb2.mono hc1.size)
  have hz2 := Nat.lt_of_lt_of_le hz1 hb2.size
  have hlen := hm2.len
  rw [degs_length hm2] at hlen
  have hms := meshL_nM l
  rw [hms] at hnm
  have HMS := Lib.hid hms
  clear hms
  go_wp2_with fail
  refine (netMeshesOf A c l _ hl HN.out.2 HN.out.1 ((HR.out.below hc2).more hc2.size)).mono ?_
  rintro e w3 ⟨v, rfl, hown, hb3⟩
  rw [HMS.out] at hown
  have hc3 := hc2.trans (hb3.mono hc2.size)
  have hz3 := Nat.lt_of_lt_of_le hz2 hb3.size
  have hlv : ∃ a cv, v = .slice a (Ck.nM l) cv := by
    rcases hown.2 with ⟨h1, h2⟩ | ⟨g, cap, cur, h1, _⟩
    · exact ⟨none, 0, by rw [h1, h2]⟩
    · exact ⟨_, _, h1⟩
  obtain ⟨av, cv, rfl⟩ := hlv
  clear hown
  go_wp2_with fail
  refine (netPartsOf A c l _ hl HN.out.2 HN.out.1 ((HR.out.below hc3).more hc3.size)).mono ?_
  rintro e w4 ⟨p, ap, cp, hp, hpl, rfl, hb4⟩
  have hc4 := hc3.trans (hb4.mono hc3.size)
  have hz4 := Nat.lt_of_lt_of_le hz3 hb4.size
  have hr4 := (hb4.block _ hz3).trans ((hb3.block _ hz2).trans ((hb2.block _ hz1).trans ((hb1.block _ hz0).trans HR0.out)))
  obtain ⟨r0, r1, r2, r3, r4, rf⟩ := five_of_block hr4
  have HR4 := Lib.hid hr4
  have HP := Lib.hid hp
  clear hr4 hp
  generalize hgk : Ck.nK l = nk at *
  generalize hgm : Ck.nM l = nm at *
  have HK := Lib.hid hgk
  have HM := Lib.hid hgm
  clear hgk hgm
  go_wp2
  exact bodyPost_ret (v := .tuple #[.agg #[.int .i64 (nk : Int), .int .i64 (l.length : Int), .int .i64 (nm : Int), .int .i64 (p : Int), .int .i64 ((l.length : Int) - nk + p - nm)], .int .i64 0]) (by simp [results, Try.results25, go_sem, r0, r1, r2, r3, r4, hz4]) rfl
    ⟨p, HP.out, by rw [HK.out, HM.out], (((((hc4.setCell (Nat.le_refl _) _).setCell (Nat.le_refl _) _).setCell (Nat.le_refl _) _).setCell (Nat.le_refl _) _).setCell (Nat.le_refl _) _).alloc (by simp; omega) _⟩
end Go.Proofs.Ythihjphcjjpjpaa

/- Contracts of compareHeads and merge, where all that either list has is kept. -/
namespace Go.Proofs.Ythihjphcjjpjpaa
open Go.RowKit

def headsE : List Ck.Bar → List Ck.Bar → Int
  | [], _ => 1
  | _ :: _, [] => -1
  | a :: _, b :: _ => cmpB a b
theorem RB.head {w : World} {B : Nat} {A : Option Addr} {a : Ck.Bar} {r : List Ck.Bar} (h : RB w B A (a :: r)) : ∃ b off, A = some ⟨b, off, none⟩ ∧ b < B ∧ w.cell? ⟨b, off, none⟩ = some (.int .i64 a.x) ∧ w.cell? ⟨b, off + 1, none⟩ = some (.int .i64 a.y) ∧ w.cell? ⟨b, off + 2, none⟩ = some (.int .i64 a.s) ∧ RB w B (some ⟨b, off + 3, none⟩) r := by
  obtain ⟨b, off, rfl, hb, hc⟩ := h (by simp)
  have h0 := hc 0 (by simp)
  simp only [List.getElem_cons_zero, Nat.zero_mul, Nat.add_zero] at h0
  refine ⟨b, off, rfl, hb, h0.1, h0.2.1, h0.2.2, fun hl => ⟨b, off + 3, rfl, hb, fun i hi => ?_⟩⟩
  have := hc (i + 1) (by simpa using hi)
  simp only [List.getElem_cons_succ] at this
  rw [show off + (i + 1) * 3 = off + 3 + i * 3 from by omega] at this
  exact this
theorem RB.nil (w : World) (B : Nat) (A : Option Addr) : RB w B A [] := fun h => by simp at h

set_option maxHeartbeats 1000000 in
set_option maxRecDepth 100000 in
theorem netHeads (A A' : Option Addr) (c c' : Nat) (l l' : List Ck.Bar) (w : World) (hl : l.length ≤ 10000) (hl' : l'.length ≤ 10000) (h : RB w w.heap.size A l) (h' : RB w w.heap.size A' l') :
    Calls Try.prog 83 #[.slice A l.length c, .slice A' l'.length c', .func (.func 69) #[] #[]] w fun e w' => e = .returned (.int .i64 (headsE l l')) ∧ Below w.heap.size w w' := by
  match l, l', h, h' with
  | [], l', _, _ =>
    go_enter Try.func83, Try.ntmps83
    go_wp2
    go_ret
    exact ⟨rfl, Below.refl _ _⟩
  | a :: r, [], _, _ =>
    have h1 : ((r.length : Int) + 1 == 0) = false := by rw [beq_eq_false_iff_ne]; omega
    have h2 : (((a :: r).length : Int) == 0) = false := by rw [beq_eq_false_iff_ne]; simp only [List.length_cons]; omega
    go_enter Try.func83, Try.ntmps83
    go_wp2
    go_ret
    exact ⟨rfl, Below.refl _ _⟩
  | a :: r, a' :: r', h, h' =>
    obtain ⟨b, off, rfl, hb, c0, c1, c2, _⟩ := h.head
    obtain ⟨b', off', rfl, hb', d0, d1, d2, _⟩ := h'.head
    have h1 : ((r.length : Int) + 1 == 0) = false := by rw [beq_eq_false_iff_ne]; omega
    have h3 : ((r'.length : Int) + 1 == 0) = false := by rw [beq_eq_false_iff_ne]; omega
    have h5 : (0 : Int) < (r.length : Int) + 1 := by omega
    have h6 : (0 : Int) < (r'.length : Int) + 1 := by omega
    clear h h'
    go_enter Try.func83, Try.ntmps83
    go_wp2_with fail
    refine wp_region_still_tail 7 (by kernel_rfl) (by kernel_rfl) ?_
    simp only [List.take_succ_cons, List.take_zero, List.drop_succ_cons, List.drop_zero]
    repeat still_step
    refine wpStill_nil ?_
    change wpList _ _ _ _ _ w.drew
    go_wp2_with fail
    refine (netCompareBars_below _ _ _ _ _ _ _).mono ?_
    rintro e w2 ⟨rfl, hb2⟩
    go_wp2
    go_ret
    exact ⟨rfl, (below_drew (Below.refl _ _)).trans hb2⟩
end Go.Proofs.Ythihjphcjjpjpaa

/- The contract of merge where all is kept. -/
namespace Go.Proofs.Ythihjphcjjpjpaa
open Go.RowKit

def mergeU : List Ck.Bar → List Ck.Bar → List Ck.Bar
  | [], l' => l'
  | a :: r, [] => a :: r
  | a :: r, b :: r' => if cmpB a b < 0 then a :: mergeU r (b :: r') else if 0 < cmpB a b then b :: mergeU (a :: r) r' else a :: mergeU r r'
termination_by l l' => l.length + l'.length
def bcellsL (l : List Ck.Bar) : List Value := l.flatMap fun b => [.int .i64 b.x, .int .i64 b.y, .int .i64 b.s]
theorem bcellsL_snoc (l : List Ck.Bar) (b : Ck.Bar) : bcellsL (l ++ [b]) = bcellsL l ++ [.int .i64 b.x, .int .i64 b.y, .int .i64 b.s] := by simp [bcellsL]
theorem headsE_neg {ra rb : List Ck.Bar} (h : headsE ra rb < 0) : ∃ a r, ra = a :: r ∧ mergeU ra rb = a :: mergeU r rb := by
  match ra, rb, h with
  | [], _, h => simp [headsE] at h
  | a :: r, [], _ => exact ⟨a, r, rfl, by cases r <;> simp [mergeU]⟩
  | a :: r, b :: r', h =>
    have h' : cmpB a b < 0 := h
    exact ⟨a, r, rfl, by rw [mergeU, if_pos h']⟩
theorem headsE_pos {ra rb : List Ck.Bar} (h : 0 < headsE ra rb) (hne : 0 < ra.length + rb.length) : ∃ b r', rb = b :: r' ∧ mergeU ra rb = b :: mergeU ra r' := by
  match ra, rb, h with
  | [], [], _ => simp at hne
  | [], b :: r', _ => exact ⟨b, r', rfl, by simp [mergeU]⟩
  | a :: r, [], h => simp [headsE] at h
  | a :: r, b :: r', h => 
    have h' : 0 < cmpB a b := h
    exact ⟨b, r', rfl, by rw [mergeU, if_neg (by omega), if_pos h']⟩
theorem headsE_zero {ra rb : List Ck.Bar} (h : headsE ra rb = 0) : ∃ a r r', ra = a :: r ∧ rb = a :: r' ∧ mergeU ra rb = a :: mergeU r r' := by
  match ra, rb, h with
  | [], _, h => simp [headsE] at h
  | a :: r, [], h => simp [headsE] at h
  | a :: r, b :: r', h =>
    have h' : cmpB a b = 0 := h
    have e := (cmpB_zero _ _).1 h'
    subst e
    exact ⟨a, r, r', rfl, rfl, by rw [mergeU, if_neg (by omega), if_neg (by omega)]⟩

set_option maxHeartbeats 400000 in
theorem keepUnion (x y : Bool) (w : World) : Calls Try.prog 38 #[.bool x, .bool y] w fun e w' => e = .returned (.bool (x || y)) ∧ w = w' := by
  cases x
  all_goals
    go_enter Try.func38, Try.ntmps38
    go_wp2
    go_ret
    exact ⟨rfl, rfl⟩

theorem three_of_block {w : World} {g : Nat} {a b c : Value} {t : TypeId} (h : w.heap[g]? = some (.cells #[a, b, c] t (0, 0))) : w.cell? ⟨g, 0, none⟩ = some a ∧ w.cell? ⟨g, 1, none⟩ = some b ∧ w.cell? ⟨g, 2, none⟩ = some c ∧ ∀ i, w.frozen? ⟨g, i, none⟩ = false := by
  refine ⟨?_, ?_, ?_, fun i => ?_⟩ <;> simp [World.cell?, World.frozen?, h]
/-- A bar is stored into a variable of its own. -/
theorem put3 {w : World} {g : Nat} {a b c : Value} {t : TypeId} (h : w.heap[g]? = some (.cells #[a, b, c] t (0, 0))) (x y z : Value) :
    ∃ W, W = ((w.setCell ⟨g, 0, none⟩ x).setCell ⟨g, 1, none⟩ y).setCell ⟨g, 2, none⟩ z ∧ W.heap[g]? = some (.cells #[x, y, z] t (0, 0)) ∧ Below g w W ∧ W.heap.size = w.heap.size := by
  refine ⟨_, rfl, ?_, (((Below.refl g w).setCell (p := ⟨g, 0, none⟩) (Nat.le_refl g) _).setCell (p := ⟨g, 1, none⟩) (Nat.le_refl g) _).setCell (p := ⟨g, 2, none⟩) (Nat.le_refl g) _, by simp [World.setCell]⟩
  simp [World.setCell, Array.getElem?_modify, h, Array.setIfInBounds]
/-- What is left of a list when its first bar is taken: the slice's address stays where no room is left behind it. -/
theorem RB.cut1 {w : World} {B b off c : Nat} {r : List Ck.Bar} (h : RB w B (some ⟨b, off + 3, none⟩) r) (hc : r.length + 1 ≤ c) (A : Option Addr) (hA : c ≠ 1 → A = some ⟨b, off + 3, none⟩) : RB w B A r := fun hl => by
  rw [hA (by omega)]
  exact h hl

def MrgPost (l l' : List Ck.Bar) (w : World) (e : Ending) (w' : World) : Prop :=
  ∃ v, e = .returned v ∧ w'.ownsRow w.heap.size 48 3 v (mergeU l l').length (bcellsL (mergeU l l')) ∧ Below w.heap.size w w'
def mrgRel (l0 l0' : List Ck.Bar) (w : World) (g : Nat) (va vb vo : Value) (wi : World) : Prop :=
  ∃ A A' c c' ra rb out, g = ra.length + rb.length ∧ va = .slice A ra.length c ∧ vb = .slice A' rb.length c' ∧ ra.length ≤ c ∧ c ≤ 9223372036854775807 ∧ rb.length ≤ c' ∧ c' ≤ 9223372036854775807 ∧ RB wi w.heap.size A ra ∧ RB wi w.heap.size A' rb ∧
    mergeU l0 l0' = out ++ mergeU ra rb ∧ out.length + ra.length + rb.length ≤ l0.length + l0'.length ∧ wi.ownsRow w.heap.size 48 3 vo out.length (bcellsL out) ∧ Below w.heap.size w wi

set_option maxHeartbeats 4000000 in
set_option maxRecDepth 100000 in
theorem netMergeU (A A' : Option Addr) (c c' : Nat) (l l' : List Ck.Bar) (w : World) (hl : l.length ≤ 4096) (hl' : l'.length ≤ 4096) (hc : l.length ≤ c) (hcm : c ≤ maxLen) (hc' : l'.length ≤ c') (hcm' : c' ≤ maxLen) (h : RB w w.heap.size A l) (h' : RB w w.heap.size A' l') :
    Calls Try.prog 68 #[.slice A l.length c, .slice A' l'.length c', .func (.func 69) #[] #[], .func (.func 38) #[] #[]] w (MrgPost l l' w) := by
  obtain ⟨ib, hib, hb0, hb01, hb02⟩ := info_parts Try.info48
  have HIB := Lib.hid hib
  have HB0 := Lib.hid hb0
  have HB1 := Lib.hid hb01
  have HB2 := Lib.hid hb02
  have HR := Lib.hid h
  have HR' := Lib.hid h'
  clear hib hb0 hb01 hb02 h h'
  unfold maxLen at hcm hcm'
  go_enter Try.func68, Try.ntmps68
  go_wp2_with fail
  go_loopg [0, 1, 9, 10, 11] (l.length + l'.length) (fun g va vb vo _ _ wi => mrgRel l l' w g va vb vo wi)
  case atStart => exact ⟨A, A', c, c', l, l', [], rfl, rfl, rfl, hc, hcm, hc', hcm', HR.out, HR'.out, rfl, by simp, World.ownsRow_nil _ _ _ _, Below.refl _ _⟩
  case round =>
    obtain ⟨A1, A2, c1, c2, ra, rb, out, hg, rfl, rfl, k1, k2, k3, k4, r1, r2, hm, hlen, hown, hb⟩ := hrel
    have HG := Lib.hid hg
    have HM := Lib.hid hm
    have HO := Lib.hid hown
    have HA := Lib.hid r1
    have HB := Lib.hid r2
    have hbz := hb.size
    clear hg hm hown r1 r2
    by_cases hne : 0 < ra.length + rb.length
    · rcases Int.lt_trichotomy (headsE ra rb) 0 with ho | ho | ho
      · obtain ⟨a, r, rfl, hmu⟩ := headsE_neg ho
        have HMU := Lib.hid hmu
        have ho1 : (headsE (a :: r) rb ≤ 0) := by omega
        have ho2 : ¬ (0 ≤ headsE (a :: r) rb) := by omega
        have HRA := HA.out.head
        clear hmu
        obtain ⟨b, off, rfl, hbb, d0, d1, d2, ht⟩ := HRA
        have HT := Lib.hid ht
        clear ht
        generalize hoe : headsE (a :: r) rb = o at ho ho1 ho2
        have HOE := Lib.hid hoe
        clear hoe
        go_wp2_with fail
        refine (netHeads (some ⟨b, off, none⟩) A2 c1 c2 (a :: r) rb _ (by simp at hlen ⊢; omega) (by simp at hlen; omega) (HA.out.more hbz) (HB.out.more hbz)).mono ?_
        rintro e w2 ⟨rfl, hb2⟩
        rw [HOE.out]
        have hz2 := hb2.size
        have e0 := (hb2.cell (p := ⟨b, off, none⟩) (by show b < _; omega)).trans d0
        have e1 := (hb2.cell (p := ⟨b, off + 1, none⟩) (by show b < _; omega)).trans d1
        have e2 := (hb2.cell (p := ⟨b, off + 2, none⟩) (by show b < _; omega)).trans d2
        clear d0 d1 d2
        obtain ⟨w3, hw3⟩ : ∃ w3, w3 = w2.alloc (.cells #[.int .i64 0, .int .i64 0, .int .i64 0] 48) := ⟨_, rfl⟩
        have hx : w3.heap[w2.heap.size]? = some (.cells #[.int .i64 0, .int .i64 0, .int .i64 0] 48 (0, 0)) := by rw [hw3]; exact heap_alloc_new _ _
        have hb3 : Below w2.heap.size w2 w3 := by rw [hw3]; exact (Below.refl _ _).alloc (Nat.le_refl _) _
        have hz3 : w2.heap.size < w3.heap.size := by rw [hw3]; simp
        obtain ⟨W, hW, hxW, hbW, hzW⟩ := put3 hx (.int .i64 a.x) (.int .i64 a.y) (.int .i64 a.s)
        obtain ⟨f0, f1, f2, ff⟩ := three_of_block hx
        obtain ⟨g0, g1, g2, _⟩ := three_of_block hxW
        have HW3 := Lib.hid hw3
        have HWW := Lib.hid hW
        have HZW := Lib.hid hzW
        clear hzW
        replace e0 := (hb3.cell (p := ⟨b, off, none⟩) (by show b < _; omega)).trans e0
        replace e1 := (hb3.cell (p := ⟨b, off + 1, none⟩) (by show b < _; omega)).trans e1
        replace e2 := (hb3.cell (p := ⟨b, off + 2, none⟩) (by show b < _; omega)).trans e2
        have hq : Below wr.heap.size wr W := (hb2.trans (hb3.mono hz2)).trans (hbW.mono hz2)
        have HOW := Lib.hid (ownsRow_below HO.out hq)
        have hbw := hb.trans (hq.mono hbz)
        have HTW := Lib.hid ((HT.out.below (hq.mono hbz)))
        have HBW := Lib.hid ((HB.out.below (hq.mono hbz)))
        have hi1 : (0 : Int) < (r.length : Int) + 1 := by omega
        have hi2 : (1 : Int) ≤ (r.length : Int) + 1 := by omega
        have hi3 : (r.length : Int) + 1 ≤ (c1 : Int) := by simp at k1; omega
        clear hw3 hW hx hxW
        go_wp2_with fail
        rw [← HW3.out]
        go_region
        rw [← HWW.out]
        generalize hA1 : (if c1 = 1 then some (⟨b, off, none⟩ : Addr) else some ⟨b, off + 3, none⟩) = A1
        have HRA1 := Lib.hid (HTW.out.cut1 (c := c1) (by simp at k1; omega) A1 (fun hne => by rw [← hA1, if_neg hne]))
        clear hA1 e0 e1 e2
        go_wp2_with (first
          | (go_at_call 38; refine (keepUnion _ _ _).mono ?_; rintro e w' ⟨rfl, rfl⟩)
          | (at_builtin; refine wpList_append_own _ rfl _ _ 31 rfl w.heap.size 48 ib (.agg #[.int .i64 0, .int .i64 0, .int .i64 0]) 3 24 Try.underlying31 HIB.out HB0.out HB1.out HB2.out rfl (by decide) _ _ _ rfl (by exact HOW.out.alloc _) ⟨W.heap.size, 0, none⟩ 1 1 [.int .i64 a.x, .int .i64 a.y, .int .i64 a.s] rfl rfl ?c1 ?c2 ?c3 ?c4 ?c5 ?_))
        case c1 => exact three_new _ _ _ _ _
        case c2 => intro u hu; simp at hu; rcases hu with rfl | rfl | rfl <;> rfl
        case c3 => unfold maxLen; simp at hlen; omega
        case c4 => simp at hlen; omega
        case c5 => have := hbw.size; simp; omega
        intro v' w4 hown4 hgrow4 _
        have hq4 : Below w.heap.size w w4 := (below_drew (hbw.alloc hbw.size (.cells #[.int .i64 a.x, .int .i64 a.y, .int .i64 a.s] 48))).grown hgrow4 (by have := hbw.size; simp; omega) (ownsRow_base HOW.out)
        have hsame : ∀ {X : Option Addr} {q : List Ck.Bar}, RB W w.heap.size X q → RB w4 w.heap.size X q := fun hX => by
          intro hl
          obtain ⟨b', off', e', hb', hc'⟩ := hX hl
          have hk : ∀ o, w4.cell? ⟨b', o, none⟩ = W.cell? ⟨b', o, none⟩ := fun o => (hq4.cell (p := ⟨b', o, none⟩) hb').trans (hbw.cell (p := ⟨b', o, none⟩) hb').symm
          exact ⟨b', off', e', hb', fun i hi => ⟨(hk _).trans (hc' i hi).1, (hk _).trans (hc' i hi).2.1, (hk _).trans (hc' i hi).2.2⟩⟩
        have HRA4 := Lib.hid (hsame HRA1.out)
        have HRB4 := Lib.hid (hsame HBW.out)
        have HO4 := Lib.hid hown4
        clear hown4 hgrow4 hsame
        go_wp2
        go_roundg (r.length + rb.length)
        case measure => rw [HG.out]; simp only [List.length_cons]; omega
        case rel => exact ⟨A1, A2, c1 - 1, c2, r, rb, out ++ [a], rfl, rfl, rfl, by simp at k1; omega, by omega, k3, k4, HRA4.out, HRB4.out, by rw [HM.out, HMU.out]; simp, by simp at hlen ⊢; omega, by rw [bcellsL_snoc, List.length_append]; exact HO4.out, hq4⟩
      · obtain ⟨a, r, r', rfl, rfl, hmu⟩ := headsE_zero ho
        have HMU := Lib.hid hmu
        have ho1 : (headsE (a :: r) (a :: r') ≤ 0) := by omega
        have ho2 : (0 ≤ headsE (a :: r) (a :: r')) := by omega
        have HRA := HA.out.head
        have HRB := HB.out.head
        clear hmu
        obtain ⟨b, off, rfl, hbb, d0, d1, d2, ht⟩ := HRA
        have HT := Lib.hid ht
        clear ht
        obtain ⟨b', off', rfl, hbb', d0', d1', d2', ht'⟩ := HRB
        have HT' := Lib.hid ht'
        clear ht'
        generalize hoe : headsE (a :: r) (a :: r') = o at ho ho1 ho2
        have HOE := Lib.hid hoe
        clear hoe
        go_wp2_with fail
        refine (netHeads (some ⟨b, off, none⟩) (some ⟨b', off', none⟩) c1 c2 (a :: r) (a :: r') _ (by simp at hlen ⊢; omega) (by simp at hlen ⊢; omega) (HA.out.more hbz) (HB.out.more hbz)).mono ?_
        rintro e w2 ⟨rfl, hb2⟩
        rw [HOE.out]
        have hz2 := hb2.size
        have e0 := (hb2.cell (p := ⟨b, off, none⟩) (by show b < _; omega)).trans d0
        have e0' := (hb2.cell (p := ⟨b', off', none⟩) (by show b' < _; omega)).trans d0'
        have e1 := (hb2.cell (p := ⟨b, off + 1, none⟩) (by show b < _; omega)).trans d1
        have e1' := (hb2.cell (p := ⟨b', off' + 1, none⟩) (by show b' < _; omega)).trans d1'
        have e2 := (hb2.cell (p := ⟨b, off + 2, none⟩) (by show b < _; omega)).trans d2
        have e2' := (hb2.cell (p := ⟨b', off' + 2, none⟩) (by show b' < _; omega)).trans d2'
        clear d0 d1 d2 d0' d1' d2'
        obtain ⟨w3, hw3⟩ : ∃ w3, w3 = w2.alloc (.cells #[.int .i64 0, .int .i64 0, .int .i64 0] 48) := ⟨_, rfl⟩
        have hx : w3.heap[w2.heap.size]? = some (.cells #[.int .i64 0, .int .i64 0, .int .i64 0] 48 (0, 0)) := by rw [hw3]; exact heap_alloc_new _ _
        have hb3 : Below w2.heap.size w2 w3 := by rw [hw3]; exact (Below.refl _ _).alloc (Nat.le_refl _) _
        have hz3 : w2.heap.size < w3.heap.size := by rw [hw3]; simp
        obtain ⟨W, hW, hxW, hbW, hzW⟩ := put3 hx (.int .i64 a.x) (.int .i64 a.y) (.int .i64 a.s)
        obtain ⟨f0, f1, f2, ff⟩ := three_of_block hx
        obtain ⟨g0, g1, g2, gf⟩ := three_of_block hxW
        obtain ⟨V, hV, hxV, hbV, hzV⟩ := put3 hxW (.int .i64 a.x) (.int .i64 a.y) (.int .i64 a.s)
        obtain ⟨q0, q1, q2, _⟩ := three_of_block hxV
        have HVV := Lib.hid hV
        clear hV hzV
        have HW3 := Lib.hid hw3
        have HWW := Lib.hid hW
        have HZW := Lib.hid hzW
        clear hzW
        replace e0 := (hb3.cell (p := ⟨b, off, none⟩) (by show b < _; omega)).trans e0
        replace e0' := (hbW.cell (p := ⟨b', off', none⟩) (by show b' < _; omega)).trans ((hb3.cell (p := ⟨b', off', none⟩) (by show b' < _; omega)).trans e0')
        replace e1 := (hb3.cell (p := ⟨b, off + 1, none⟩) (by show b < _; omega)).trans e1
        replace e1' := (hbW.cell (p := ⟨b', off' + 1, none⟩) (by show b' < _; omega)).trans ((hb3.cell (p := ⟨b', off' + 1, none⟩) (by show b' < _; omega)).trans e1')
        replace e2 := (hb3.cell (p := ⟨b, off + 2, none⟩) (by show b < _; omega)).trans e2
        replace e2' := (hbW.cell (p := ⟨b', off' + 2, none⟩) (by show b' < _; omega)).trans ((hb3.cell (p := ⟨b', off' + 2, none⟩) (by show b' < _; omega)).trans e2')
        have hq : Below wr.heap.size wr W := (hb2.trans (hb3.mono hz2)).trans (hbW.mono hz2)
        have hqv : Below wr.heap.size wr V := hq.trans (hbV.mono hz2)
        have HOW := Lib.hid (ownsRow_below HO.out hqv)
        have hbw := hb.trans (hqv.mono hbz)
        have HTW := Lib.hid ((HT.out.below (hqv.mono hbz)))
        have HBW := Lib.hid ((HT'.out.below (hqv.mono hbz)))
        have hi4 : (0 : Int) < (r'.length : Int) + 1 := by omega
        have hi5 : (1 : Int) ≤ (r'.length : Int) + 1 := by omega
        have hi6 : (r'.length : Int) + 1 ≤ (c2 : Int) := by simp at k3; omega
        have hi1 : (0 : Int) < (r.length : Int) + 1 := by omega
        have hi2 : (1 : Int) ≤ (r.length : Int) + 1 := by omega
        have hi3 : (r.length : Int) + 1 ≤ (c1 : Int) := by simp at k1; omega
        clear hw3 hW hx hxW
        go_wp2_with fail
        rw [← HW3.out]
        go_region
        rw [← HWW.out]
        generalize hA1 : (if c1 = 1 then some (⟨b, off, none⟩ : Addr) else some ⟨b, off + 3, none⟩) = A1
        have HRA1 := Lib.hid (HTW.out.cut1 (c := c1) (by simp at k1; omega) A1 (fun hne => by rw [← hA1, if_neg hne]))
        clear hA1 e0 e1 e2
        go_wp2_with fail
        go_region
        rw [← HVV.out]
        generalize hA3 : (if c2 = 1 then some (⟨b', off', none⟩ : Addr) else some ⟨b', off' + 3, none⟩) = A3
        have HRA3 := Lib.hid (HBW.out.cut1 (c := c2) (by simp at k3; omega) A3 (fun hne => by rw [← hA3, if_neg hne]))
        clear hA3 e0' e1' e2'
        go_wp2_with (first
          | (go_at_call 38; refine (keepUnion _ _ _).mono ?_; rintro e w' ⟨rfl, rfl⟩)
          | (at_builtin; refine wpList_append_own _ rfl _ _ 31 rfl w.heap.size 48 ib (.agg #[.int .i64 0, .int .i64 0, .int .i64 0]) 3 24 Try.underlying31 HIB.out HB0.out HB1.out HB2.out rfl (by decide) _ _ _ rfl (by exact HOW.out.alloc _) ⟨V.heap.size, 0, none⟩ 1 1 [.int .i64 a.x, .int .i64 a.y, .int .i64 a.s] rfl rfl ?c1 ?c2 ?c3 ?c4 ?c5 ?_))
        case c1 => exact three_new _ _ _ _ _
        case c2 => intro u hu; simp at hu; rcases hu with rfl | rfl | rfl <;> rfl
        case c3 => unfold maxLen; simp at hlen; omega
        case c4 => simp at hlen; omega
        case c5 => have := hbw.size; simp; omega
        intro v' w4 hown4 hgrow4 _
        have hq4 : Below w.heap.size w w4 := (below_drew (below_drew (hbw.alloc hbw.size (.cells #[.int .i64 a.x, .int .i64 a.y, .int .i64 a.s] 48)))).grown hgrow4 (by have := hbw.size; simp; omega) (ownsRow_base HOW.out)
        have hsame : ∀ {X : Option Addr} {q : List Ck.Bar}, RB V w.heap.size X q → RB w4 w.heap.size X q := fun hX => by
          intro hl
          obtain ⟨b9, off9, e', hb', hc'⟩ := hX hl
          have hk : ∀ o, w4.cell? ⟨b9, o, none⟩ = V.cell? ⟨b9, o, none⟩ := fun o => (hq4.cell (p := ⟨b9, o, none⟩) hb').trans (hbw.cell (p := ⟨b9, o, none⟩) hb').symm
          exact ⟨b9, off9, e', hb', fun i hi => ⟨(hk _).trans (hc' i hi).1, (hk _).trans (hc' i hi).2.1, (hk _).trans (hc' i hi).2.2⟩⟩
        have HRA4 := Lib.hid (hsame HRA1.out)
        have HRB4 := Lib.hid (hsame HRA3.out)
        have HO4 := Lib.hid hown4
        clear hown4 hgrow4 hsame
        go_wp2
        go_roundg (r.length + r'.length)
        case measure => rw [HG.out]; simp only [List.length_cons]; omega
        case rel => exact ⟨A1, A3, c1 - 1, c2 - 1, r, r', out ++ [a], rfl, rfl, rfl, by simp at k1; omega, by omega, by simp at k3; omega, by omega, HRA4.out, HRB4.out, by rw [HM.out, HMU.out]; simp, by simp at hlen ⊢; omega, by rw [bcellsL_snoc, List.length_append]; exact HO4.out, hq4⟩
      · obtain ⟨a, r, rfl, hmu⟩ := headsE_pos ho hne
        rcases ra with _ | ⟨x, rx⟩
        · skip
          have HMU := Lib.hid hmu
          have ho1 : ¬ (headsE ([] : List Ck.Bar) (a :: r) ≤ 0) := by omega
          have ho2 : (0 ≤ headsE ([] : List Ck.Bar) (a :: r)) := by omega
          have HRA := HB.out.head
          clear hmu
          obtain ⟨b, off, rfl, hbb, d0, d1, d2, ht⟩ := HRA
          have HT := Lib.hid ht
          clear ht
          generalize hoe : headsE ([] : List Ck.Bar) (a :: r) = o at ho ho1 ho2
          have HOE := Lib.hid hoe
          clear hoe
          go_wp2_with fail
          refine (netHeads A1 (some ⟨b, off, none⟩) c1 c2 ([] : List Ck.Bar) (a :: r) _ (by simp only [List.length_cons, List.length_nil] at hlen ⊢; omega) (by simp only [List.length_cons, List.length_nil] at hlen ⊢; omega) (HA.out.more hbz) (HB.out.more hbz)).mono ?_
          rintro e w2 ⟨rfl, hb2⟩
          rw [HOE.out]
          have hz2 := hb2.size
          have e0 := (hb2.cell (p := ⟨b, off, none⟩) (by show b < _; omega)).trans d0
          have e1 := (hb2.cell (p := ⟨b, off + 1, none⟩) (by show b < _; omega)).trans d1
          have e2 := (hb2.cell (p := ⟨b, off + 2, none⟩) (by show b < _; omega)).trans d2
          clear d0 d1 d2
          obtain ⟨w3, hw3⟩ : ∃ w3, w3 = w2.alloc (.cells #[.int .i64 0, .int .i64 0, .int .i64 0] 48) := ⟨_, rfl⟩
          have hx : w3.heap[w2.heap.size]? = some (.cells #[.int .i64 0, .int .i64 0, .int .i64 0] 48 (0, 0)) := by rw [hw3]; exact heap_alloc_new _ _
          have hb3 : Below w2.heap.size w2 w3 := by rw [hw3]; exact (Below.refl _ _).alloc (Nat.le_refl _) _
          have hz3 : w2.heap.size < w3.heap.size := by rw [hw3]; simp
          obtain ⟨W, hW, hxW, hbW, hzW⟩ := put3 hx (.int .i64 a.x) (.int .i64 a.y) (.int .i64 a.s)
          obtain ⟨f0, f1, f2, ff⟩ := three_of_block hx
          obtain ⟨g0, g1, g2, _⟩ := three_of_block hxW
          have HW3 := Lib.hid hw3
          have HWW := Lib.hid hW
          have HZW := Lib.hid hzW
          clear hzW
          replace e0 := (hb3.cell (p := ⟨b, off, none⟩) (by show b < _; omega)).trans e0
          replace e1 := (hb3.cell (p := ⟨b, off + 1, none⟩) (by show b < _; omega)).trans e1
          replace e2 := (hb3.cell (p := ⟨b, off + 2, none⟩) (by show b < _; omega)).trans e2
          have hq : Below wr.heap.size wr W := (hb2.trans (hb3.mono hz2)).trans (hbW.mono hz2)
          have HOW := Lib.hid (ownsRow_below HO.out hq)
          have hbw := hb.trans (hq.mono hbz)
          have HTW := Lib.hid ((HT.out.below (hq.mono hbz)))
          have HBW := Lib.hid ((HA.out.below (hq.mono hbz)))
          have hi1 : (0 : Int) < (r.length : Int) + 1 := by omega
          have hi2 : (1 : Int) ≤ (r.length : Int) + 1 := by omega
          have hi3 : (r.length : Int) + 1 ≤ (c2 : Int) := by simp at k3; omega
          clear hw3 hW hx hxW
          go_wp2_with fail
          rw [← HW3.out]
          go_region
          rw [← HWW.out]
          generalize hA1 : (if c2 = 1 then some (⟨b, off, none⟩ : Addr) else some ⟨b, off + 3, none⟩) = A3
          have HRA1 := Lib.hid (HTW.out.cut1 (c := c2) (by simp at k3; omega) A3 (fun hne => by rw [← hA1, if_neg hne]))
          clear hA1 e0 e1 e2
          go_wp2_with (first
            | (go_at_call 38; refine (keepUnion _ _ _).mono ?_; rintro e w' ⟨rfl, rfl⟩)
            | (at_builtin; refine wpList_append_own _ rfl _ _ 31 rfl w.heap.size 48 ib (.agg #[.int .i64 0, .int .i64 0, .int .i64 0]) 3 24 Try.underlying31 HIB.out HB0.out HB1.out HB2.out rfl (by decide) _ _ _ rfl (by exact HOW.out.alloc _) ⟨W.heap.size, 0, none⟩ 1 1 [.int .i64 a.x, .int .i64 a.y, .int .i64 a.s] rfl rfl ?c1 ?c2 ?c3 ?c4 ?c5 ?_))
          case c1 => exact three_new _ _ _ _ _
          case c2 => intro u hu; simp at hu; rcases hu with rfl | rfl | rfl <;> rfl
          case c3 => unfold maxLen; simp at hlen; omega
          case c4 => simp at hlen; omega
          case c5 => have := hbw.size; simp; omega
          intro v' w4 hown4 hgrow4 _
          have hq4 : Below w.heap.size w w4 := (below_drew (hbw.alloc hbw.size (.cells #[.int .i64 a.x, .int .i64 a.y, .int .i64 a.s] 48))).grown hgrow4 (by have := hbw.size; simp; omega) (ownsRow_base HOW.out)
          have hsame : ∀ {X : Option Addr} {q : List Ck.Bar}, RB W w.heap.size X q → RB w4 w.heap.size X q := fun hX => by
            intro hl
            obtain ⟨b', off', e', hb', hc'⟩ := hX hl
            have hk : ∀ o, w4.cell? ⟨b', o, none⟩ = W.cell? ⟨b', o, none⟩ := fun o => (hq4.cell (p := ⟨b', o, none⟩) hb').trans (hbw.cell (p := ⟨b', o, none⟩) hb').symm
            exact ⟨b', off', e', hb', fun i hi => ⟨(hk _).trans (hc' i hi).1, (hk _).trans (hc' i hi).2.1, (hk _).trans (hc' i hi).2.2⟩⟩
          have HRA4 := Lib.hid (hsame HRA1.out)
          have HRB4 := Lib.hid (hsame HBW.out)
          have HO4 := Lib.hid hown4
          clear hown4 hgrow4 hsame
          go_wp2
          go_roundg (([] : List Ck.Bar).length + r.length)
          case measure => rw [HG.out]; simp only [List.length_cons, List.length_nil]; omega
          case rel => exact ⟨A1, A3, c1, c2 - 1, ([] : List Ck.Bar), r, out ++ [a], rfl, rfl, rfl, k1, k2, by simp at k3; omega, by omega, HRB4.out, HRA4.out, by rw [HM.out, HMU.out]; simp, by simp at hlen ⊢; omega, by rw [bcellsL_snoc, List.length_append]; exact HO4.out, hq4⟩
        · skip
          have HMU := Lib.hid hmu
          have ho1 : ¬ (headsE (x :: rx) (a :: r) ≤ 0) := by omega
          have ho2 : (0 ≤ headsE (x :: rx) (a :: r)) := by omega
          have HRA := HB.out.head
          clear hmu
          obtain ⟨b, off, rfl, hbb, d0, d1, d2, ht⟩ := HRA
          have HT := Lib.hid ht
          clear ht
          generalize hoe : headsE (x :: rx) (a :: r) = o at ho ho1 ho2
          have HOE := Lib.hid hoe
          clear hoe
          go_wp2_with fail
          refine (netHeads A1 (some ⟨b, off, none⟩) c1 c2 (x :: rx) (a :: r) _ (by simp only [List.length_cons] at hlen ⊢; omega) (by simp only [List.length_cons] at hlen ⊢; omega) (HA.out.more hbz) (HB.out.more hbz)).mono ?_
          rintro e w2 ⟨rfl, hb2⟩
          rw [HOE.out]
          have hz2 := hb2.size
          have e0 := (hb2.cell (p := ⟨b, off, none⟩) (by show b < _; omega)).trans d0
          have e1 := (hb2.cell (p := ⟨b, off + 1, none⟩) (by show b < _; omega)).trans d1
          have e2 := (hb2.cell (p := ⟨b, off + 2, none⟩) (by show b < _; omega)).trans d2
          clear d0 d1 d2
          obtain ⟨w3, hw3⟩ : ∃ w3, w3 = w2.alloc (.cells #[.int .i64 0, .int .i64 0, .int .i64 0] 48) := ⟨_, rfl⟩
          have hx : w3.heap[w2.heap.size]? = some (.cells #[.int .i64 0, .int .i64 0, .int .i64 0] 48 (0, 0)) := by rw [hw3]; exact heap_alloc_new _ _
          have hb3 : Below w2.heap.size w2 w3 := by rw [hw3]; exact (Below.refl _ _).alloc (Nat.le_refl _) _
          have hz3 : w2.heap.size < w3.heap.size := by rw [hw3]; simp
          obtain ⟨W, hW, hxW, hbW, hzW⟩ := put3 hx (.int .i64 a.x) (.int .i64 a.y) (.int .i64 a.s)
          obtain ⟨f0, f1, f2, ff⟩ := three_of_block hx
          obtain ⟨g0, g1, g2, _⟩ := three_of_block hxW
          have HW3 := Lib.hid hw3
          have HWW := Lib.hid hW
          have HZW := Lib.hid hzW
          clear hzW
          replace e0 := (hb3.cell (p := ⟨b, off, none⟩) (by show b < _; omega)).trans e0
          replace e1 := (hb3.cell (p := ⟨b, off + 1, none⟩) (by show b < _; omega)).trans e1
          replace e2 := (hb3.cell (p := ⟨b, off + 2, none⟩) (by show b < _; omega)).trans e2
          have hq : Below wr.heap.size wr W := (hb2.trans (hb3.mono hz2)).trans (hbW.mono hz2)
          have HOW := Lib.hid (ownsRow_below HO.out hq)
          have hbw := hb.trans (hq.mono hbz)
          have HTW := Lib.hid ((HT.out.below (hq.mono hbz)))
          have HBW := Lib.hid ((HA.out.below (hq.mono hbz)))
          have hi1 : (0 : Int) < (r.length : Int) + 1 := by omega
          have hi2 : (1 : Int) ≤ (r.length : Int) + 1 := by omega
          have hi3 : (r.length : Int) + 1 ≤ (c2 : Int) := by simp at k3; omega
          clear hw3 hW hx hxW
          go_wp2_with fail
          rw [← HW3.out]
          go_region
          rw [← HWW.out]
          generalize hA1 : (if c2 = 1 then some (⟨b, off, none⟩ : Addr) else some ⟨b, off + 3, none⟩) = A3
          have HRA1 := Lib.hid (HTW.out.cut1 (c := c2) (by simp at k3; omega) A3 (fun hne => by rw [← hA1, if_neg hne]))
          clear hA1 e0 e1 e2
          go_wp2_with (first
            | (go_at_call 38; refine (keepUnion _ _ _).mono ?_; rintro e w' ⟨rfl, rfl⟩)
            | (at_builtin; refine wpList_append_own _ rfl _ _ 31 rfl w.heap.size 48 ib (.agg #[.int .i64 0, .int .i64 0, .int .i64 0]) 3 24 Try.underlying31 HIB.out HB0.out HB1.out HB2.out rfl (by decide) _ _ _ rfl (by exact HOW.out.alloc _) ⟨W.heap.size, 0, none⟩ 1 1 [.int .i64 a.x, .int .i64 a.y, .int .i64 a.s] rfl rfl ?c1 ?c2 ?c3 ?c4 ?c5 ?_))
          case c1 => exact three_new _ _ _ _ _
          case c2 => intro u hu; simp at hu; rcases hu with rfl | rfl | rfl <;> rfl
          case c3 => unfold maxLen; simp at hlen; omega
          case c4 => simp at hlen; omega
          case c5 => have := hbw.size; simp; omega
          intro v' w4 hown4 hgrow4 _
          have hq4 : Below w.heap.size w w4 := (below_drew (hbw.alloc hbw.size (.cells #[.int .i64 a.x, .int .i64 a.y, .int .i64 a.s] 48))).grown hgrow4 (by have := hbw.size; simp; omega) (ownsRow_base HOW.out)
          have hsame : ∀ {X : Option Addr} {q : List Ck.Bar}, RB W w.heap.size X q → RB w4 w.heap.size X q := fun hX => by
            intro hl
            obtain ⟨b', off', e', hb', hc'⟩ := hX hl
            have hk : ∀ o, w4.cell? ⟨b', o, none⟩ = W.cell? ⟨b', o, none⟩ := fun o => (hq4.cell (p := ⟨b', o, none⟩) hb').trans (hbw.cell (p := ⟨b', o, none⟩) hb').symm
            exact ⟨b', off', e', hb', fun i hi => ⟨(hk _).trans (hc' i hi).1, (hk _).trans (hc' i hi).2.1, (hk _).trans (hc' i hi).2.2⟩⟩
          have HRA4 := Lib.hid (hsame HRA1.out)
          have HRB4 := Lib.hid (hsame HBW.out)
          have HO4 := Lib.hid hown4
          clear hown4 hgrow4 hsame
          go_wp2
          go_roundg ((x :: rx).length + r.length)
          case measure => rw [HG.out]; simp only [List.length_cons]; omega
          case rel => exact ⟨A1, A3, c1, c2 - 1, (x :: rx), r, out ++ [a], rfl, rfl, rfl, k1, k2, by simp at k3; omega, by omega, HRB4.out, HRA4.out, by rw [HM.out, HMU.out]; simp, by simp at hlen ⊢; omega, by rw [bcellsL_snoc, List.length_append]; exact HO4.out, hq4⟩
    · have h1 : ra = [] := List.eq_nil_of_length_eq_zero (by omega)
      have h2 : rb = [] := List.eq_nil_of_length_eq_zero (by omega)
      subst h1
      subst h2
      go_wp2
      go_ret
      have hfin := HM.out
      simp only [mergeU, List.append_nil] at hfin
      exact ⟨_, rfl, by rw [hfin]; exact HO.out, hb⟩
end Go.Proofs.Ythihjphcjjpjpaa
