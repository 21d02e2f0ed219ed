/- Helpers, part 5. -/
import Derived.Test.YtlhnhkfkbmfikaaGreatDoorD4
import Derived.Test.YtlhnhkfkbmfikaaGreatDoorRows
import Derived.Shelf.Strings.Repeat
import Derived.Lib.OthersKept
import Derived.Lib.Strings
import Derived.Shelf.SlGeneric
import Derived.Shelf.SlLaysF0
import Derived.RangeFuncNested
import Derived.RangeFuncBound
import Derived.RangeFuncCalls
import Derived.RangeFuncLeaves
import Derived.Shelf.Abstract
import Derived.OwnWalkIn
import Derived.TacticsInMore
import Derived.LoopNIn
import Derived.LoopIn
import Derived.Shelf.AbstractIn
import Derived.Deep.RegionHeld3
import Derived.Deep.AppendLies
/- Legs of netting: how many knots have each number of legs. -/
namespace Go.Proofs.YtlhnhkfkbmfikaaGreatDoor
open Go.RowKit Go.ChangeMaps Go.MapKept Go.Shelf
attribute [local go_sem] Oper.semAt_some

theorem mget_of_mem {m : List (Ck.Knot × Int)} (hn : (m.map (·.1)).Nodup) {k : Ck.Knot} {v : Int} (h : (k, v) ∈ m) : mget m k = v := by
  induction m with
  | nil => simp at h
  | cons p r ih =>
    obtain ⟨h1, h2⟩ := List.nodup_cons.1 hn
    rw [mget]
    rcases List.mem_cons.1 h with rfl | h
    · rw [if_pos rfl]
    · rw [if_neg, ih h2 h]
      rintro rfl
      exact h1 (List.mem_map.2 ⟨_, h, rfl⟩)
/-- Of the keys that have come, how many have the value i. -/
def cntV (m : List (Ck.Knot × Int)) (ss : List Ck.Knot) (i : Nat) : Nat := ss.countP fun k => decide (mget m k = (i : Int))
def cvs (m : List (Ck.Knot × Int)) (ss : List Ck.Knot) : Array Value := #[.int .i64 (cntV m ss 0), .int .i64 (cntV m ss 1), .int .i64 (cntV m ss 2), .int .i64 (cntV m ss 3), .int .i64 (cntV m ss 4)]
theorem cntV_snoc (m : List (Ck.Knot × Int)) (ss : List Ck.Knot) (k : Ck.Knot) (j i : Nat) (h : mget m k = (j : Int)) : cntV m (ss ++ [k]) i = cntV m ss i + if i = j then 1 else 0 := by
  rw [cntV, List.countP_append, ← cntV, List.countP_singleton, h]
  by_cases e : i = j
  · subst e; simp
  · have e' : ¬ j = i := fun h => e h.symm
    have : ¬ (j : Int) = (i : Int) := by omega
    simp [e, this]
theorem cntV_le (m : List (Ck.Knot × Int)) (ss : List Ck.Knot) (i : Nat) : cntV m ss i ≤ ss.length := List.countP_le_length
theorem cntV_all {l : List Ck.Bar} {ss : List Ck.Knot} (hn : ss.Nodup) (hk : ((degsL (Ck.ends l)).map (·.1)).Nodup) (h : ∀ k, k ∈ ss ↔ KeyOf (degsL (Ck.ends l)) k) (i : Nat) : cntV (degsL (Ck.ends l)) ss i = legN l i := by
  have hp : ss.Perm ((degsL (Ck.ends l)).map (·.1)) := (List.perm_ext_iff_of_nodup hn hk).2 h
  rw [cntV, hp.countP_eq, legN]
  refine List.countP_congr fun k _ => ?_
  simp [degs_count]
  omega
theorem box5H (w : World) (a b c d e : Value) (t : TypeId) : ∃ w1, w1 = w.alloc (.cells #[a, b, c, d, e] t) ∧ w1.heap[w.heap.size]? = some (.cells #[a, b, c, d, e] t (0, 0)) ∧ Below w.heap.size w w1 ∧ w1.heap.size = w.heap.size + 1 :=
  ⟨_, rfl, heap_alloc_new _ _, (Below.refl _ _).alloc (Nat.le_refl _) _, by simp⟩
theorem fiveF {W : World} {g : Nat} {cs : Array Value} {t : TypeId} (h : W.heap[g]? = some (.cells cs t (0, 0))) (i : Nat) : W.frozen? ⟨g, i, none⟩ = false := by simp [World.frozen?, h]
theorem setBlockAt {W : World} {g : Nat} {cs : Array Value} {t : TypeId} (h : W.heap[g]? = some (.cells cs t (0, 0))) (i : Nat) (v : Value) : (W.setCell ⟨g, i, none⟩ v).heap[g]? = some (.cells (cs.setIfInBounds i v) t (0, 0)) ∧ W.grownBy (W.setCell ⟨g, i, none⟩ v) (some g) := by
  refine ⟨?_, ⟨rfl, rfl, rfl, by simp [World.setCell], fun j _ hj => Below.heap_setCell _ _ _ j (fun e => hj (by rw [e]))⟩⟩
  simp only [World.setCell, Array.getElem?_modify, if_true, h, Option.map_some]
  rfl

theorem keepsSet {W : World} {g : Nat} {cs : Array Value} {t : TypeId} (h : W.heap[g]? = some (.cells cs t (0, 0))) (i : Nat) (v : Value) : KeepsWalks W (W.setCell ⟨g, i, none⟩ v) :=
  ⟨by simp [World.setCell], fun b o ho hw => (Below.heap_setCell _ _ _ b (fun e => by
    have e' : b = g := e
    subst e'
    rw [h] at ho
    cases ho
    cases hw)).trans ho⟩
set_option maxHeartbeats 4000000 in
set_option maxRecDepth 100000 in
theorem netLegs (A : Option Addr) (c : Nat) (l : List Ck.Bar) (w : World) (hl : l.length ≤ 4096) (hcap : l.length ≤ c) (hcm : c ≤ maxLen) (hN : Ck.Net l) (hd : ∀ k, mget (degsL (Ck.ends l)) k ≤ 4) (h : RB w w.heap.size A l) :
    Calls Tryz.prog 18 #[.slice A l.length c] w fun e w' => (e = .returned (.tuple #[.agg #[.int .i64 (legN l 0), .int .i64 (legN l 1), .int .i64 (legN l 2), .int .i64 (legN l 3), .int .i64 (legN l 4)], .int .i64 0]) ∧ ∃ K, K = (degsL (Ck.ends l)).map (·.1) ∧ K.Nodup ∧ ∀ x, x ∈ K ↔ x ∈ Ck.ends l) ∧ Below w.heap.size w w' := by
  obtain ⟨m, hm⟩ : ∃ m, degsL (Ck.ends l) = m := ⟨_, rfl⟩
  have hm0 : ∀ k, 0 ≤ mget m k := fun k => by rw [← hm]; exact (degs_bound _ k).1
  have hm4 : ∀ k, mget m k ≤ 4 := fun k => by rw [← hm]; exact hd k
  obtain ⟨w0, hw0, h0, hb0, hz0⟩ := box5H w (.int .i64 0) (.int .i64 0) (.int .i64 0) (.int .i64 0) (.int .i64 0) 45
  have HR0 := Lib.hid ((h.below hb0).more hb0.size)
  have HE := Lib.hid ((netE_zero l).2 ⟨hl, hN⟩)
  have HN := Lib.hid hN
  have HM := Lib.hid hm
  have HM0 := Lib.hid hm0
  have HM4 := Lib.hid hm4
  have HKE := Lib.hid (show ∀ x, x ∈ m.map (·.1) ↔ x ∈ Ck.ends l from fun x => by rw [← hm, degsL, degs_keys]; simp)
  have hw0' := hw0.symm
  have HW0 := Lib.hid hw0
  have HH0 := Lib.hid h0
  have HZ0 := Lib.hid hz0
  have HML := Lib.hid (show (m.map (·.1)).Nodup → m.length ≤ 8192 from fun hn => by
    have h1 := hn.length_le_of_subset (l₂ := Ck.ends l) (fun x hx => (HKE.out x).1 hx)
    have h2 := ends_length l
    simp only [List.length_map] at h1
    omega)
  clear hN hm hm0 hm4 h hd hw0 h0 hz0
  refine (callsIn_wide (n := 4)).1 ?_
  refine callsIn_of_wp Tryz.func18 rfl trivial ?_ rfl
  simp only [Tryz.ntmps18, List.size_toArray, List.length_cons, List.length_nil, Nat.reduceAdd, Nat.reduceSub, Array.replicate_succ, Array.replicate_zero, List.push_toArray, List.append_toArray, List.nil_append, List.cons_append]
  have hfc : Fence.wide.fn 44 := trivial
  have hfd : Fence.wide.fn 47 := trivial
  gi_wp2_with (first
    | (gi_at_call 44; refine (callsIn_wide.2 (netCheckNet A c l _ hl hcap hcm HR0.out)).mono ?_; rintro e w1 ⟨rfl, hb1⟩; rw [HE.out]; have hz1 := hb1.size; have HR1 := Lib.hid ((HR0.out.below hb1).more hb1.size); obtain ⟨w2, hw2, h2, hb2, hz2⟩ := box5H w1 (.int .i64 0) (.int .i64 0) (.int .i64 0) (.int .i64 0) (.int .i64 0) 45; have hw2' := hw2.symm; clear hw2; have HR2 := Lib.hid ((HR1.out.below hb2).more hb2.size))
    | (gi_at_call 47; refine (callsIn_wide.2 (netDegrees A c l _ hl HN.out.1 HR2.out)).mono ?_; rintro e w3 ⟨b, rfl, hbB, hmis, hb3⟩; rw [HM.out] at hmis; have hz3 := hb3.size)
    | (gi_at_range; refine wpListIn_range_knots _ rfl _ rfl b m rfl hmis ?_; intro w4 hrg4 hg4 hs4)
    | gi_in)
  have hz0 := HZ0.out
  have hh0 : w4.heap[w.heap.size]? = some (.cells #[.int .i64 0, .int .i64 0, .int .i64 0, .int .i64 0, .int .i64 0] 45 (0, 0)) :=
    (hg4.block _ (by omega) (by simp)).trans ((hb3.block _ (by omega)).trans ((hb2.block _ (by omega)).trans ((hb1.block _ (by omega)).trans HH0.out)))
  have hh2 : w4.heap[w1.heap.size]? = some (.cells #[.int .i64 0, .int .i64 0, .int .i64 0, .int .i64 0, .int .i64 0] 45 (0, 0)) :=
    (hg4.block _ (by omega) (by simp)).trans ((hb3.block _ (by omega)).trans h2)
  have hbw3 : Below w.heap.size w w3 := (hb0.trans (hb1.mono hb0.size)).trans ((hb2.trans (hb3.mono hb2.size)).mono (by omega))
  have hbw4 : Below w.heap.size w w4 := hbw3.grown hg4 (by omega) (fun j e => by cases e)
  have HNOD := Lib.hid hmis.keys_nodup
  have HSZ := Lib.hid (show w.heap.size < w1.heap.size ∧ w1.heap.size < w3.heap.size ∧ b ≠ w1.heap.size ∧ b ≠ w.heap.size by omega)
  clear hw0' hw2' h2 hb0 hb1 hb2 hb3 hg4 hz0 hz1 hz2 hz3 hmis hbw3 hs4 hbB
  go_frame
  gi_loopw [7] (fun _ wr => ∃ ss, KRange wr b w3.heap.size m ss ∧ wr.heap[w.heap.size]? = some (.cells #[.int .i64 0, .int .i64 0, .int .i64 0, .int .i64 0, .int .i64 0] 45 (0, 0)) ∧ wr.heap[w1.heap.size]? = some (.cells (cvs m ss) 45 (0, 0)) ∧ Below w.heap.size w wr) (fun _ wr => wr.rangeLeft b w3.heap.size)
  case atStart => exact ⟨[], hrg4, hh0, hh2, hbw4⟩
  case round =>
    obtain ⟨ss, hrg, h0, h2, hb⟩ := hrel
    clear hrg4 hh0 hh2 hbw4
    gi_wp2_with (first
      | (gi_at_next; refine wpListIn_next_pairs _ rfl _ rfl b w3.heap.size m ss rfl hrg ?_ ?_)
      | gi_in)
    · intro hl0
      have HCV := Lib.hid (show cvs m ss = #[.int .i64 (legN l 0), .int .i64 (legN l 1), .int .i64 (legN l 2), .int .i64 (legN l 3), .int .i64 (legN l 4)] by
        have hn := HNOD.out
        have e := HM.out
        subst e
        have ha := cntV_all (l := l) hrg.nodup hn hl0
        rw [cvs, ha 0, ha 1, ha 2, ha 3, ha 4])
      rw [HCV.out] at h2
      obtain ⟨n0, e0⟩ : ∃ n0, (legN l 0 : Int) = n0 := ⟨_, rfl⟩
      obtain ⟨n1, e1⟩ : ∃ n1, (legN l 1 : Int) = n1 := ⟨_, rfl⟩
      obtain ⟨n2, e2⟩ : ∃ n2, (legN l 2 : Int) = n2 := ⟨_, rfl⟩
      obtain ⟨n3, e3⟩ : ∃ n3, (legN l 3 : Int) = n3 := ⟨_, rfl⟩
      obtain ⟨n4, e4⟩ : ∃ n4, (legN l 4 : Int) = n4 := ⟨_, rfl⟩
      rw [e0, e1, e2, e3, e4] at h2
      have HN5 := Lib.hid (show (#[.int .i64 (legN l 0), .int .i64 (legN l 1), .int .i64 (legN l 2), .int .i64 (legN l 3), .int .i64 (legN l 4)] : Array Value) = #[.int .i64 n0, .int .i64 n1, .int .i64 n2, .int .i64 n3, .int .i64 n4] by rw [e0, e1, e2, e3, e4])
      obtain ⟨c0, c1, c2, c3, c4, -⟩ := five_of_block h2
      obtain ⟨d0, d1, d2, d3, d4, -⟩ := five_of_block h0
      have f0 := fiveF h0 0
      have f1 := fiveF h0 1
      have f2 := fiveF h0 2
      have f3 := fiveF h0 3
      have f4 := fiveF h0 4
      obtain ⟨s0, g0⟩ := setBlockAt h0 0 (.int .i64 n0)
      obtain ⟨s1, g1⟩ := setBlockAt s0 1 (.int .i64 n1)
      obtain ⟨s2, g2⟩ := setBlockAt s1 2 (.int .i64 n2)
      obtain ⟨s3, g3⟩ := setBlockAt s2 3 (.int .i64 n3)
      obtain ⟨s4, g4⟩ := setBlockAt s3 4 (.int .i64 n4)
      have bz := hb.size
      have t0 := hb.grown g0 bz (fun j e => by cases e; exact Nat.le_refl _)
      have t1 := t0.grown g1 t0.size (fun j e => by cases e; exact Nat.le_refl _)
      have t2 := t1.grown g2 t1.size (fun j e => by cases e; exact Nat.le_refl _)
      have t3 := t2.grown g3 t2.size (fun j e => by cases e; exact Nat.le_refl _)
      have HT := Lib.hid (t3.grown g4 t3.size (fun j e => by cases e; exact Nat.le_refl _))
      have HS4 := Lib.hid (show _ = some (Obj.cells #[.int .i64 n0, .int .i64 n1, .int .i64 n2, .int .i64 n3, .int .i64 n4] 45 (0, 0)) from s4)
      clear HCV s0 s1 s2 s3 s4 g0 g1 g2 g3 g4 t0 t1 t2 t3 bz h0 h2 hb e0 e1 e2 e3 e4
      gi_wp2
      obtain ⟨r0, r1, r2, r3, r4, -⟩ := five_of_block HS4.out
      refine bodyPost_ret (v := .tuple #[.agg #[.int .i64 n0, .int .i64 n1, .int .i64 n2, .int .i64 n3, .int .i64 n4], .int .i64 0]) (by simp [results, Tryz.results18, go_sem, r0, r1, r2, r3, r4]) rfl ⟨⟨by rw [HN5.out], m.map (·.1), by rw [HM.out], HNOD.out, HKE.out⟩, HT.out⟩
    · intro k v w5 hkv hnk hrg2 hlt hg2 hs2 hen
      have hmv : mget m k = v := mget_of_mem HNOD.out hkv
      have hv0 := HM0.out k
      have hv4 := HM4.out k
      rw [hmv] at hv0 hv4
      have hsz := HSZ.out
      have h0' := (hg2.block _ (Array.getElem?_eq_some_iff.1 h0).1 (fun e => by injection e; omega)).trans h0
      have h2' := (hg2.block _ (Array.getElem?_eq_some_iff.1 h2).1 (fun e => by injection e; omega)).trans h2
      have hb' := hb.grown hg2 hb.size (fun j e => by cases e; omega)
      have HL := Lib.hid hlt
      have HR2 := Lib.hid hrg2
      have HLS := Lib.hid (show ss.length ≤ m.length by
        have h := hrg.lt_of_new (List.mem_map.2 ⟨_, hkv, rfl⟩) hnk
        exact Nat.le_of_lt h)
      have hml := HML.out HNOD.out
      have hls := HLS.out
      clear hlt hrg2 hg2 hs2 hrg h0 h2 hb
      obtain ⟨c0, c1, c2, c3, c4, -⟩ := five_of_block h2'
      have step : ∀ j : Nat, j < 5 → v = (j : Int) → ∀ x : Int, x = (cntV m ss j : Int) + 1 → (cvs m ss).setIfInBounds j (.int .i64 x) = cvs m (ss ++ [k]) := by
        intro j hj hvj x hx
        subst hx
        have e := fun i => cntV_snoc m ss k j i (hmv.trans hvj)
        unfold cvs
        rw [e 0, e 1, e 2, e 3, e 4]
        have : j = 0 ∨ j = 1 ∨ j = 2 ∨ j = 3 ∨ j = 4 := by omega
        rcases this with rfl | rfl | rfl | rfl | rfl <;> simp
      have fin : ∀ (j : Nat), j < 5 → v = (j : Int) → ∀ x : Int, x = (cntV m ss j : Int) + 1 → KRange (w5.setCell ⟨w1.heap.size, j, none⟩ (.int .i64 x)) b w3.heap.size m (ss ++ [k]) ∧ (w5.setCell ⟨w1.heap.size, j, none⟩ (.int .i64 x)).heap[w.heap.size]? = some (.cells #[.int .i64 0, .int .i64 0, .int .i64 0, .int .i64 0, .int .i64 0] 45 (0, 0)) ∧
          (w5.setCell ⟨w1.heap.size, j, none⟩ (.int .i64 x)).heap[w1.heap.size]? = some (.cells (cvs m (ss ++ [k])) 45 (0, 0)) ∧ Below w.heap.size w (w5.setCell ⟨w1.heap.size, j, none⟩ (.int .i64 x)) ∧ (w5.setCell ⟨w1.heap.size, j, none⟩ (.int .i64 x)).rangeLeft b w3.heap.size < wr.rangeLeft b w3.heap.size := by
        intro j hj hvj x hx
        obtain ⟨s1, g1⟩ := setBlockAt h2' j (.int .i64 x)
        rw [step j hj hvj x hx] at s1
        have kw : KeepsWalks w5 (w5.setCell ⟨w1.heap.size, j, none⟩ (.int .i64 x)) := keepsSet h2' j _
        exact ⟨HR2.out.of_walks kw, (g1.block _ (Array.getElem?_eq_some_iff.1 h0').1 (fun e => by injection e; omega)).trans h0', s1, hb'.grown g1 hb'.size (fun j e => by cases e; omega), by rw [HR2.out.left_eq kw]; exact HL.out⟩
      have FIN := Lib.hid fin
      have F0 := fiveF h2' 0
      have F1 := fiveF h2' 1
      have F2 := fiveF h2' 2
      have F3 := fiveF h2' 3
      have F4 := fiveF h2' 4
      have b0 := cntV_le m ss 0
      have b1 := cntV_le m ss 1
      have b2 := cntV_le m ss 2
      have b3 := cntV_le m ss 3
      have b4 := cntV_le m ss 4
      have hvs : v = 0 ∨ v = 1 ∨ v = 2 ∨ v = 3 ∨ v = 4 := by omega
      clear fin step h0' h2' hb' hmv hv0 hv4 hsz
      generalize hC0 : cntV m ss 0 = C0 at *
      generalize hC1 : cntV m ss 1 = C1 at *
      generalize hC2 : cntV m ss 2 = C2 at *
      generalize hC3 : cntV m ss 3 = C3 at *
      generalize hC4 : cntV m ss 4 = C4 at *
      rcases hvs with rfl | rfl | rfl | rfl | rfl
      · have H := Lib.hid (FIN.out 0 (by decide) rfl ((C0 : Int) + 1) (by rw [hC0]))
        clear FIN hC0 hC1 hC2 hC3 hC4
        gi_wp2
        go_roundw
        case rel => exact ⟨ss ++ [k], H.out.1, H.out.2.1, H.out.2.2.1, H.out.2.2.2.1⟩
        case measure => exact H.out.2.2.2.2
      · have H := Lib.hid (FIN.out 1 (by decide) rfl ((C1 : Int) + 1) (by rw [hC1]))
        clear FIN hC0 hC1 hC2 hC3 hC4
        gi_wp2
        go_roundw
        case rel => exact ⟨ss ++ [k], H.out.1, H.out.2.1, H.out.2.2.1, H.out.2.2.2.1⟩
        case measure => exact H.out.2.2.2.2
      · have H := Lib.hid (FIN.out 2 (by decide) rfl ((C2 : Int) + 1) (by rw [hC2]))
        clear FIN hC0 hC1 hC2 hC3 hC4
        gi_wp2
        go_roundw
        case rel => exact ⟨ss ++ [k], H.out.1, H.out.2.1, H.out.2.2.1, H.out.2.2.2.1⟩
        case measure => exact H.out.2.2.2.2
      · have H := Lib.hid (FIN.out 3 (by decide) rfl ((C3 : Int) + 1) (by rw [hC3]))
        clear FIN hC0 hC1 hC2 hC3 hC4
        gi_wp2
        go_roundw
        case rel => exact ⟨ss ++ [k], H.out.1, H.out.2.1, H.out.2.2.1, H.out.2.2.2.1⟩
        case measure => exact H.out.2.2.2.2
      · have H := Lib.hid (FIN.out 4 (by decide) rfl ((C4 : Int) + 1) (by rw [hC4]))
        clear FIN hC0 hC1 hC2 hC3 hC4
        gi_wp2
        go_roundw
        case rel => exact ⟨ss ++ [k], H.out.1, H.out.2.1, H.out.2.2.1, H.out.2.2.2.1⟩
        case measure => exact H.out.2.2.2.2
end Go.Proofs.YtlhnhkfkbmfikaaGreatDoor

/- strings.Repeat of the library laid at this program. -/
namespace Go.Proofs.YtlhnhkfkbmfikaaGreatDoor
open Go.Shelf
end Go.Proofs.YtlhnhkfkbmfikaaGreatDoor

/- The errors of a sheet, and the program's first at three errors. -/
namespace Go.Proofs.YtlhnhkfkbmfikaaGreatDoor
open Go.RowKit

theorem three_err {w : World} {g : Nat} {a b c : Int} {t : TypeId} (h : w.heap[g]? = some (.cells #[.int .i64 a, .int .i64 b, .int .i64 c] t (0, 0))) : ∀ i (hi : i < [a, b, c].length), w.cell? ⟨g, i, none⟩ = some (.int .i64 [a, b, c][i]) := by
  intro i hi
  have hi' : i = 0 ∨ i = 1 ∨ i = 2 := by simp at hi; omega
  rcases hi' with rfl | rfl | rfl <;> simp [World.cell?, h]
theorem netFirst3 (g d : Nat) (a b c : Int) (t : TypeId) (w : World) (h : w.heap[g]? = some (.cells #[.int .i64 a, .int .i64 b, .int .i64 c] t (0, 0))) :
    Calls Tryz.prog 31 #[.slice (some ⟨g, 0, none⟩) 3 d] w fun e w' => e = .returned (.int .i64 (firstE [a, b, c])) ∧ w = w' :=
  netFirst g d [a, b, c] w (by simp) (three_err h)
def sideR (n : Int) : Int := if n < 1 ∨ 256 < n then 3 else 0
def sheet1 (x y c r : Int) : Int := firstE [knotE x y, sideR c, sideR r]
def sheetE (x y c r : Int) : Int := if sheet1 x y c r = 0 then (if 4096 < 2 * c * r then 5 else if farB (x + 2 * c) || farB (y + r) then 3 else 0) else sheet1 x y c r
theorem sheet1_zero {x y c r : Int} (h : sheet1 x y c r = 0) : knotE x y = 0 ∧ 1 ≤ c ∧ c ≤ 256 ∧ 1 ≤ r ∧ r ≤ 256 := by
  unfold sheet1 firstE firstE firstE firstE at h
  split at h
  · rename_i h1
    split at h
    · rename_i h2
      split at h
      · rename_i h3
        unfold sideR at h2 h3
        split at h2
        · omega
        · split at h3 <;> omega
      · omega
    · omega
  · omega
theorem sheetE_zero {x y c r : Int} (h : sheetE x y c r = 0) : sheet1 x y c r = 0 ∧ 2 * c * r ≤ 4096 ∧ farB (x + 2 * c) = false ∧ farB (y + r) = false := by
  unfold sheetE at h
  split at h
  · rename_i h1
    split at h
    · omega
    · rename_i h2
      split at h
      · omega
      · rename_i h3
        simp at h3
        exact ⟨h1, by omega, h3.1, h3.2⟩
  · rename_i h1; exact absurd h h1
end Go.Proofs.YtlhnhkfkbmfikaaGreatDoor

/- Contracts of the small functions of taper, and of the reference's. -/
namespace Go.Proofs.YtlhnhkfkbmfikaaGreatDoor
open Go.RowKit

/-! ### letters -/
def okC (c : UInt8) : Bool := c = 78 || c = 66 || c = 84
theorem okC_iff (c : UInt8) : okC c = true ↔ isL c := by simp [okC, isL, or_assoc]
/-! ### further -/
/-! ### the reference's CheckWord -/
def wordE (l : List UInt8) : Int := if l = [] then 12 else if 64 < l.length then 26 else if l.all okC then 0 else 1
theorem byte_at (s : ByteArray) (k : Nat) (_ : k < s.size) (h' : k < s.data.toList.length) : s.data.toList[k] = s[k] := by
  rw [Array.getElem_toList]
  rfl
end Go.Proofs.YtlhnhkfkbmfikaaGreatDoor

/- Words without an error: checkLetters and CheckWord of taper. -/
namespace Go.Proofs.YtlhnhkfkbmfikaaGreatDoor
open Go.RowKit

theorem isL_small {c : UInt8} (h : isL c) : c.toNat < 128 := by rcases h with rfl | rfl | rfl <;> decide
/-- A word without an error. -/
def Word (s : ByteArray) : Prop := (∀ c ∈ s.data.toList, isL c) ∧ 1 ≤ s.size ∧ s.size ≤ 64
theorem wordE_zero {s : ByteArray} (h : wordE s.data.toList = 0) : Word s := by
  have hz := Lib.size_eq s
  unfold wordE at h
  split at h
  · cases h
  · rename_i h1
    split at h
    · cases h
    · rename_i h2
      split at h
      · rename_i h3
        rw [List.all_eq_true] at h3
        refine ⟨fun c hc => (okC_iff c).1 (h3 c hc), ?_, by omega⟩
        cases hl : s.data.toList with
        | nil => exact absurd hl h1
        | cons a r => rw [hz, hl]; simp
      · cases h
end Go.Proofs.YtlhnhkfkbmfikaaGreatDoor

/- The map of the letters' vectors. -/
namespace Go.Proofs.YtlhnhkfkbmfikaaGreatDoor
open Go.RowKit Go.ChangeMaps Go.MapKept

def ve (c a b : Int) (n : Nat) : MapEntry := { key := .int .i32 c, val := .agg #[.int .i64 a, .int .i64 b], born := n }
/-- Block b is the map of the three vectors. -/
def VecAt (w : World) (b : Nat) : Prop := w.heap[b]? = some (.map #[ve 78 0 2 0, ve 66 1 1 1, ve 84 2 0 2] 3)
theorem VecAt.lt {w : World} {b : Nat} (h : VecAt w b) : b < w.heap.size := (Array.getElem?_eq_some_iff.1 h).1
theorem VecAt.of_block {w w' : World} {b : Nat} (h : VecAt w b) (hb : w'.heap[b]? = w.heap[b]?) : VecAt w' b := hb.trans h
end Go.Proofs.YtlhnhkfkbmfikaaGreatDoor

/- A word several times; the closure of legs. -/
namespace Go.Proofs.YtlhnhkfkbmfikaaGreatDoor
open Go.RowKit Go.Shelf

end Go.Proofs.YtlhnhkfkbmfikaaGreatDoor

/- The letters of an edge, one after another: what legs visits. -/
namespace Go.Proofs.YtlhnhkfkbmfikaaGreatDoor
open Go.RowKit Go.Shelf Ck

def sg (o : Bool) : Int := if o then 1 else -1
theorem sg_or (o : Bool) : sg o = 1 ∨ sg o = -1 := by cases o <;> simp [sg]
def legsL (σ : Int) : Knot → List UInt8 → List (UInt8 × Knot × Knot)
  | _, [] => []
  | k, c :: r => (c, k, stepK σ k c) :: legsL σ (stepK σ k c) r
def posK (σ : Int) (k : Knot) (l : List UInt8) : Knot := l.foldl (stepK σ) k
theorem posK_snoc (σ : Int) (k : Knot) (l : List UInt8) (c : UInt8) : posK σ k (l ++ [c]) = stepK σ (posK σ k l) c := by simp [posK]
theorem legsL_snoc (σ : Int) : ∀ (l : List UInt8) (k : Knot) (c : UInt8), legsL σ k (l ++ [c]) = legsL σ k l ++ [(c, posK σ k l, stepK σ (posK σ k l) c)]
  | [], _, _ => rfl
  | a :: r, k, c => by
    rw [List.cons_append, legsL, legsL_snoc σ r]
    rfl
theorem legsL_append (σ : Int) : ∀ (l : List UInt8) (k : Knot) (r : List UInt8), legsL σ k (l ++ r) = legsL σ k l ++ legsL σ (posK σ k l) r
  | [], _, _ => rfl
  | a :: l, k, r => by
    rw [List.cons_append, legsL, legsL_append σ l]
    rfl
theorem legsL_length (σ : Int) : ∀ (l : List UInt8) (k : Knot), (legsL σ k l).length = l.length
  | [], _ => rfl
  | _ :: r, k => by rw [legsL, List.length_cons, legsL_length σ r, List.length_cons]
theorem step_near (o : Bool) {k : Knot} {c : UInt8} (hc : isL c) : (stepK (sg o) k c).x ≤ k.x + 2 ∧ k.x - 2 ≤ (stepK (sg o) k c).x ∧ (stepK (sg o) k c).y ≤ k.y + 2 ∧ k.y ≤ (stepK (sg o) k c).y := by
  rcases hc with rfl | rfl | rfl <;> cases o <;> simp [stepK, sg, dxL, dyL] <;> omega
def legArr (x : UInt8 × Knot × Knot) : Array Value := #[.agg #[.int .i32 (x.1.toNat : Int), .int .i64 x.2.1.x, .int .i64 x.2.1.y, .int .i64 x.2.2.x, .int .i64 x.2.2.y]]
/-- From block B1 on: maps, iterators, boxes of a knot, and cells of other types than e lie as they lay. -/
def KT (B1 : Nat) (e : TypeId) (W W' : World) : Prop := W.heap.size ≤ W'.heap.size ∧ ∀ b o, B1 ≤ b → W.heap[b]? = some o → (o.isWalk = true ∨ ∃ cs t f, o = .cells cs t f ∧ (t ≠ e ∨ t = 33 ∧ cs.size = 2)) → W'.heap[b]? = some o
theorem KT.trans {B1 : Nat} {e : TypeId} {A B C : World} (h : KT B1 e A B) (k : KT B1 e B C) : KT B1 e A C := ⟨Nat.le_trans h.1 k.1, fun b o hb ho hk => k.2 b o hb (h.2 b o hb ho hk) hk⟩
theorem KT.put {B1 : Nat} {e : TypeId} {w : World} (W : World) (l : Nat) (o o' : Obj) (_ : w.heap.size ≤ l) (hl : W.heap[l]? = some o) (h1 : o.isCells = false) (h2 : o.isWalk = false) : KT B1 e W (W.putObj l o') :=
  ⟨by simp, fun b ob _ hob hk => by
    have : b ≠ l := by
      rintro rfl
      rw [hl] at hob
      cases hob
      rcases hk with hk | ⟨cs, t, f, rfl, _⟩
      · rw [h2] at hk; cases hk
      · cases h1
    exact (World.putObj_heap_other this).trans hob⟩
theorem KT.of_below {B1 : Nat} {e : TypeId} {W W' : World} (h : Below W.heap.size W W') : KT B1 e W W' := ⟨h.size, fun b _ _ ho _ => (h.block b (Array.getElem?_eq_some_iff.1 ho).1).trans ho⟩

theorem two_cell {W : World} {b : Nat} {u v : Value} {t : TypeId} (h : W.heap[b]? = some (.cells #[u, v] t (0, 0))) : W.cell? ⟨b, 0, none⟩ = some u ∧ W.cell? ⟨b, 1, none⟩ = some v ∧ W.frozen? ⟨b, 0, none⟩ = false ∧ W.frozen? ⟨b, 1, none⟩ = false := by
  refine ⟨?_, ?_, ?_, ?_⟩ <;> simp [World.cell?, World.frozen?, h]
theorem two_set {W : World} {b : Nat} {u v : Value} {t : TypeId} (h : W.heap[b]? = some (.cells #[u, v] t (0, 0))) (p q : Value) :
    ((W.setCell ⟨b, 0, none⟩ p).setCell ⟨b, 1, none⟩ q).heap[b]? = some (.cells #[p, q] t (0, 0)) ∧ W.grownBy ((W.setCell ⟨b, 0, none⟩ p).setCell ⟨b, 1, none⟩ q) (some b) := by
  have e0 : (W.setCell ⟨b, 0, none⟩ p).heap[b]? = some (.cells #[p, v] t (0, 0)) := by
    simp only [World.setCell, Array.getElem?_modify, if_true, h, Option.map_some]
    rfl
  have e1 : ((W.setCell ⟨b, 0, none⟩ p).setCell ⟨b, 1, none⟩ q).heap[b]? = some (.cells #[p, q] t (0, 0)) := by
    generalize W.setCell ⟨b, 0, none⟩ p = X at *
    simp only [World.setCell, Array.getElem?_modify, if_true, e0, Option.map_some]
    rfl
  refine ⟨e1, ⟨rfl, rfl, rfl, by simp [World.setCell], fun i _ hne => ?_⟩⟩
  have : i ≠ b := fun e => hne (by rw [e])
  exact (Below.heap_setCell _ _ _ i this).trans (Below.heap_setCell _ _ _ i this)
theorem one_cell {W : World} {b : Nat} {u : Value} {t : TypeId} (h : W.heap[b]? = some (.cells #[u] t (0, 0))) : W.cell? ⟨b, 0, none⟩ = some u := by
  simp [World.cell?, h]

end Go.Proofs.YtlhnhkfkbmfikaaGreatDoor

/- An edge without an error: checkEdge of taper. -/
namespace Go.Proofs.YtlhnhkfkbmfikaaGreatDoor
open Go.RowKit Go.Shelf Ck
attribute [local go_sem] Oper.semAt_some

theorem legs_ok (o : Bool) : ∀ (L : List UInt8) (k : Knot), (∀ c ∈ L, isL c) → okKnot k → k.x + 2 * (L.length : Int) ≤ 100000 → -100000 ≤ k.x - 2 * (L.length : Int) → k.y + 2 * (L.length : Int) ≤ 100000 →
    ∀ q ∈ legsL (sg o) k L, isL q.1 ∧ q.2.2 = stepK (sg o) q.2.1 q.1 ∧ okKnot q.2.1 ∧ okKnot q.2.2
  | [], _, _, _, _, _, _, q, hq => by simp [legsL] at hq
  | c :: r, k, hL, hk, h1, h2, h3, q, hq => by
    have hc := hL c (by simp)
    obtain ⟨n1, n2, n3, n4⟩ := step_near o (k := k) hc
    simp only [List.length_cons, Int.natCast_add, Int.natCast_one] at h1 h2 h3
    have hk' : okKnot (stepK (sg o) k c) := by
      obtain ⟨⟨a1, a2⟩, ⟨a3, a4⟩, a5⟩ := hk
      refine ⟨⟨by omega, by omega⟩, ⟨by omega, by omega⟩, ?_⟩
      rcases hc with rfl | rfl | rfl <;> cases o <;> simp [stepK, sg, dxL, dyL] <;> omega
    rw [legsL] at hq
    rcases List.mem_cons.1 hq with rfl | hq
    · exact ⟨hc, rfl, hk, hk'⟩
    · exact legs_ok o r _ (fun c' h' => hL c' (by simp [h'])) hk' (by omega) (by omega) (by omega) q hq

theorem one_cell' {W : World} {b : Nat} {u : Value} {t : TypeId} (h : W.heap[b]? = some (.cells #[u] t (0, 0))) : W.cell? ⟨b, 0, none⟩ = some u ∧ W.frozen? ⟨b, 0, none⟩ = false := by
  refine ⟨?_, ?_⟩ <;> simp [World.cell?, World.frozen?, h]
theorem one_set {W : World} {b : Nat} {u : Value} {t : TypeId} (h : W.heap[b]? = some (.cells #[u] t (0, 0))) (p : Value) : (W.setCell ⟨b, 0, none⟩ p).heap[b]? = some (.cells #[p] t (0, 0)) := by
  simp only [World.setCell, Array.getElem?_modify, if_true, h, Option.map_some]
  rfl
theorem bides_below {β : Type} {B n : Nat} {e : TypeId} {w : World} (hB : n ≤ B) (hn : n ≤ w.heap.size) : Bides B e (fun (_ : β) W => Below n w W) := fun _ _ _ _ hs hg hr =>
  hs.grown hg (by have := hs.size; omega) (fun k ek => Nat.le_trans hB (hr k ek).1)
theorem bides_block {β : Type} {B b : Nat} {e : TypeId} {o : Obj} (hb : b < B) : Bides B e (fun (_ : β) W => W.heap[b]? = some o) := fun _ _ _ _ hs hg hr =>
  (hg.block b (Array.getElem?_eq_some_iff.1 hs).1 (fun e' => by have := (hr b e'.symm).1; omega)).trans hs
theorem bides_size {β : Type} {B n : Nat} {e : TypeId} : Bides B e (fun (_ : β) W => n ≤ W.heap.size) := fun _ _ _ _ hs hg _ => Nat.le_trans hs hg.size

theorem legs_boxes (W0 : World) (x y n : Int) (s : ByteArray) (o : Bool) : ∃ W9, W9 = (((W0.alloc (.cells #[.int .i64 x, .int .i64 y] 33)).alloc (.cells #[.string s] 9)).alloc (.cells #[.int .i64 n] 3)).alloc (.cells #[.bool o] 4) ∧ Below W0.heap.size W0 W9 ∧ W9.heap.size = W0.heap.size + 4 ∧
    W9.heap[W0.heap.size]? = some (.cells #[.int .i64 x, .int .i64 y] 33 (0, 0)) ∧ W9.heap[W0.heap.size + 1]? = some (.cells #[.string s] 9 (0, 0)) ∧ W9.heap[W0.heap.size + 2]? = some (.cells #[.int .i64 n] 3 (0, 0)) ∧ W9.heap[W0.heap.size + 3]? = some (.cells #[.bool o] 4 (0, 0)) := by
  refine ⟨_, rfl, (((((Below.refl _ _).alloc (Nat.le_refl _) _).alloc (by simp) _).alloc (by simp; omega) _).alloc (by simp; omega) _), by simp, ?_, ?_, ?_, ?_⟩
  · rw [Below.heap_alloc _ _ _ (by simp; omega), Below.heap_alloc _ _ _ (by simp; omega), Below.heap_alloc _ _ _ (by simp)]
    exact heap_alloc_new _ _
  · rw [Below.heap_alloc _ _ _ (by simp), Below.heap_alloc _ _ _ (by simp)]
    have := heap_alloc_new (W0.alloc (.cells #[.int .i64 x, .int .i64 y] 33)) (.cells #[.string s] 9)
    rwa [World.size_alloc] at this
  · rw [Below.heap_alloc _ _ _ (by simp)]
    have := heap_alloc_new ((W0.alloc (.cells #[.int .i64 x, .int .i64 y] 33)).alloc (.cells #[.string s] 9)) (.cells #[.int .i64 n] 3)
    rwa [World.size_alloc, World.size_alloc] at this
  · have := heap_alloc_new (((W0.alloc (.cells #[.int .i64 x, .int .i64 y] 33)).alloc (.cells #[.string s] 9)).alloc (.cells #[.int .i64 n] 3)) (.cells #[.bool o] 4)
    rwa [World.size_alloc, World.size_alloc, World.size_alloc] at this

/-- An edge that is short and lies near the middle. -/
def EdgeOk (x y : Int) (s : ByteArray) (c : Nat) : Prop := Word s ∧ 1 ≤ c ∧ c * s.size ≤ 256 ∧ -90000 ≤ x ∧ x ≤ 90000 ∧ -90000 ≤ y ∧ y ≤ 90000 ∧ (x + y) % 2 = 0
theorem rep_len {s : ByteArray} {c : Nat} : (Lib.repeatL s.data.toList c).length = c * s.size := by rw [Lib.repeatL_length, ← Lib.size_eq]
theorem rep_letters {s : ByteArray} (hs : Word s) : ∀ (c : Nat), ∀ q ∈ Lib.repeatL s.data.toList c, isL q
  | 0, q, hq => by simp [Lib.repeatL] at hq
  | c + 1, q, hq => by rw [Lib.repeatL, List.mem_append] at hq; exact hq.elim (hs.1 q) (rep_letters hs c q)
theorem EdgeOk.legs {x y : Int} {s : ByteArray} {c : Nat} (h : EdgeOk x y s c) (o : Bool) : ∀ q ∈ legsL (sg o) ⟨x, y⟩ (Lib.repeatL s.data.toList c), isL q.1 ∧ q.2.2 = stepK (sg o) q.2.1 q.1 ∧ okKnot q.2.1 ∧ okKnot q.2.2 := by
  obtain ⟨hs, _, h2, x1, x2, y1, y2, hp⟩ := h
  have hl : (Lib.repeatL s.data.toList c).length ≤ 256 := by rw [rep_len]; exact h2
  exact legs_ok o _ _ (rep_letters hs c) ⟨⟨by simp; omega, by simp; omega⟩, ⟨by simp; omega, by simp; omega⟩, hp⟩ (by simp; omega) (by simp; omega) (by simp; omega)

end Go.Proofs.YtlhnhkfkbmfikaaGreatDoor

/- Sheet of the program, at a sheet without an error. -/
namespace Go.Proofs.YtlhnhkfkbmfikaaGreatDoor
open Go.RowKit Go.Shelf Ck
attribute [local go_sem] Oper.semAt_some

theorem sheet_stops (n : Nat) (hn : 2 ≤ n) (x y : Int) (cols rows Br Bc Ba B1 B2 : Nat) (hc1 : cols ≤ 256) (hr1 : rows ≤ 256) (hx1 : -100000 ≤ x) (hx2 : x ≤ 100000) (hy1 : -100000 ≤ y) (hy2 : y ≤ 100000) (w : World) (hB : B2 ≤ w.heap.size) (hBr : B1 ≤ Br) (hBr' : Br < B2) (hBc : B1 ≤ Bc) (hBc' : Bc < B2) (hBa : B1 ≤ Ba) (hBa' : Ba < B2)
    (mr : w.cell? ⟨Br, 0, none⟩ = some (.int .i64 rows)) (mc : w.cell? ⟨Bc, 0, none⟩ = some (.int .i64 cols)) (mx : w.cell? ⟨Ba, 0, none⟩ = some (.int .i64 x)) (my : w.cell? ⟨Ba, 1, none⟩ = some (.int .i64 y)) :
    SeqStopsK Fence.wide n Tryz.prog 71 #[.pointer (some ⟨Br, 0, none⟩), .pointer (some ⟨Bc, 0, none⟩), .pointer (some ⟨Ba, 0, none⟩)] barArr (KR B1 B2) (fun ss => ss = sheetP x y cols rows) (fun _ => True) 200000 w := fun l J Jx W hW hJ _ hY h0 =>
  sheet1_in l Br Bc Ba B1 B2 n hn x y cols rows hc1 hr1 hx1 hx2 hy1 hy2 J Jx hY W hJ (Nat.le_trans hB hW.size) hBr hBr' hBc hBc' hBa hBa' ((hW.cell (p := ⟨Br, 0, none⟩) (by show Br < _; omega)).trans mr) ((hW.cell (p := ⟨Bc, 0, none⟩) (by show Bc < _; omega)).trans mc) ((hW.cell (p := ⟨Ba, 0, none⟩) (by show Ba < _; omega)).trans mx) ((hW.cell (p := ⟨Ba, 1, none⟩) (by show Ba < _; omega)).trans my) h0

theorem netSheetBars (x y c r : Int) (w : World) :
    Calls Tryz.prog 42 #[.agg #[.int .i64 x, .int .i64 y], .int .i64 c, .int .i64 r] w fun e w' => e = .returned (.func (.func 71) #[] #[.pointer (some ⟨w.heap.size + 2, 0, none⟩), .pointer (some ⟨w.heap.size + 1, 0, none⟩), .pointer (some ⟨w.heap.size, 0, none⟩)]) ∧
      w' = ((w.alloc (.cells #[.int .i64 x, .int .i64 y] 33)).alloc (.cells #[.int .i64 c] 3)).alloc (.cells #[.int .i64 r] 3) := by
  go_enter Tryz.func42, Tryz.ntmps42
  go_wp2
  go_ret
  exact ⟨by simp, rfl⟩

theorem KR.appended {W w1 : World} {Bo B1 B2 : Nat} {e : TypeId} {size k : Nat} {v : Value} {xs : List Value} {tmp : Obj} (hB : Bo < B1) (hz : B2 ≤ W.heap.size) (hrow : W.ownsRow B2 e size v k xs) (hgrow : (W.alloc tmp).grownBy w1 v.ownBlock) (v' : Value) : KR B1 B2 W (w1.setCell ⟨Bo, 0, none⟩ v') := by
  refine ⟨?_, fun b h1 h2 => ?_⟩
  · have := hgrow.size; simp at this ⊢; omega
  · have e1 : (w1.setCell ⟨Bo, 0, none⟩ v').heap[b]? = w1.heap[b]? := (grownBy_setCell' w1 Bo v').block b (by have := hgrow.size; simp at this; omega) (fun e => by cases e; omega)
    rw [e1, hgrow.block b (by simp; omega) (fun e => by have := ownsRow_base hrow b e.symm; omega)]
    exact Below.heap_alloc _ _ _ (by omega)

theorem sheet_boxes (W0 : World) (x y c r : Int) : ∃ W9, W9 = ((W0.alloc (.cells #[.int .i64 x, .int .i64 y] 33)).alloc (.cells #[.int .i64 c] 3)).alloc (.cells #[.int .i64 r] 3) ∧ Below W0.heap.size W0 W9 ∧ W9.heap.size = W0.heap.size + 3 ∧
    W9.cell? ⟨W0.heap.size, 0, none⟩ = some (.int .i64 x) ∧ W9.cell? ⟨W0.heap.size, 1, none⟩ = some (.int .i64 y) ∧ W9.cell? ⟨W0.heap.size + 1, 0, none⟩ = some (.int .i64 c) ∧ W9.cell? ⟨W0.heap.size + 2, 0, none⟩ = some (.int .i64 r) := by
  obtain ⟨w1, hw1, h0, h1, hb1, hz1⟩ := box2 W0 (.int .i64 x) (.int .i64 y) 33
  have hs1 : w1.heap.size = W0.heap.size + 1 := by rw [hw1]; simp
  have bc := (Boxed.new w1 3 (.int .i64 c)).cell
  have hs2 : (w1.alloc (.cells #[.int .i64 c] 3)).heap.size = W0.heap.size + 2 := by simp; omega
  have br := (Boxed.new (w1.alloc (.cells #[.int .i64 c] 3)) 3 (.int .i64 r)).cell
  have b2 : Below w1.heap.size w1 (w1.alloc (.cells #[.int .i64 c] 3)) := (Below.refl _ _).alloc (Nat.le_refl _) _
  have b3 : Below (w1.alloc (.cells #[.int .i64 c] 3)).heap.size (w1.alloc (.cells #[.int .i64 c] 3)) ((w1.alloc (.cells #[.int .i64 c] 3)).alloc (.cells #[.int .i64 r] 3)) := (Below.refl _ _).alloc (Nat.le_refl _) _
  rw [← hw1]
  rw [hs1] at bc
  rw [hs2] at br
  refine ⟨_, rfl, hb1.trans ((b2.trans (b3.mono b2.size)).mono hb1.size), by simp; omega, ?_, ?_, ?_, br⟩
  · exact ((b3.cell (p := ⟨W0.heap.size, 0, none⟩) (by show W0.heap.size < _; omega)).trans (b2.cell (p := ⟨W0.heap.size, 0, none⟩) (by show W0.heap.size < _; omega))).trans h0
  · exact ((b3.cell (p := ⟨W0.heap.size, 1, none⟩) (by show W0.heap.size < _; omega)).trans (b2.cell (p := ⟨W0.heap.size, 1, none⟩) (by show W0.heap.size < _; omega))).trans h1
  · exact (b3.cell (p := ⟨W0.heap.size + 1, 0, none⟩) (by show W0.heap.size + 1 < _; omega)).trans bc
/-- A box of three cells. -/
def Box3 (W : World) (B : Nat) (t : TypeId) (a b c : Value) : Prop := W.heap[B]? = some (.cells #[a, b, c] t (0, 0))
theorem Box3.cells {W : World} {B : Nat} {t : TypeId} {a b c : Value} (h : Box3 W B t a b c) : W.cell? ⟨B, 0, none⟩ = some a ∧ W.cell? ⟨B, 1, none⟩ = some b ∧ W.cell? ⟨B, 2, none⟩ = some c ∧ B < W.heap.size := by
  refine ⟨?_, ?_, ?_, (Array.getElem?_eq_some_iff.1 h).1⟩ <;> simp [World.cell?, show W.heap[B]? = _ from h]
theorem Box3.new (W : World) (t : TypeId) (a b c : Value) : Box3 (W.alloc (.cells #[a, b, c] t)) W.heap.size t a b c := World.alloc_heap_new W _
theorem box3_own (B : Nat) (t : TypeId) (a b c : Value) : Own (fun (_ : Unit) W => Box3 W B t a b c) := fun s X Y row hs hg hrow =>
  (hg.block B (Array.getElem?_eq_some_iff.1 hs).1 (fun e' => by obtain ⟨o, ho, hc⟩ := hrow B e'.symm; rw [show X.heap[B]? = _ from hs] at ho; cases ho; cases hc)).trans hs
theorem sheet_step {W w1 : World} {Bo B1 B2 : Nat} {t e : TypeId} {size k m : Nat} {v v' : Value} {xs ys : List Value} {tmp : Obj} (hte : t ≠ e) (hB : Bo < B1) (hB2 : B1 ≤ B2) (hz : B2 ≤ W.heap.size) (hv : Boxed W Bo t v) (hrow : W.ownsRow B2 e size v k xs) (hown' : w1.ownsRow B2 e size v' m ys) (hgrow : (W.alloc tmp).grownBy w1 v.ownBlock) :
    Boxed w1 Bo t v ∧ Boxed (w1.setCell ⟨Bo, 0, none⟩ v') Bo t v' ∧ KeepsOthers W (w1.setCell ⟨Bo, 0, none⟩ v') ∧ Below Bo W (w1.setCell ⟨Bo, 0, none⟩ v') ∧ (w1.setCell ⟨Bo, 0, none⟩ v').ownsRow B2 e size v' m ys ∧ KR B1 B2 W (w1.setCell ⟨Bo, 0, none⟩ v') := by
  obtain ⟨h1, h2, h3, h4, h5⟩ := hv.appended hte (ownsRow_mono hrow (by omega : Bo ≤ B2)) (by omega) (Nat.le_refl _) (ownsRow_mono hown' (by omega)) hgrow
  exact ⟨h1, h2, h4, h5, hown'.kept (grownBy_setCell' w1 Bo v') (.inr (h1.not_row hte hown').symm), KR.appended hB hz hrow hgrow v'⟩
def SheetPost (l : List Ck.Bar) (w : World) (e : Ending) (w' : World) : Prop :=
  ∃ v, e = .returned (.tuple #[v, .int .i64 0]) ∧ w'.ownsRow w.heap.size 65 3 v l.length (bcellsL l) ∧ Below w.heap.size w w'
theorem netSide (n : Int) (w : World) : Calls Tryz.prog 32 #[.int .i64 n, .int .i64 1, .int .i64 256] w fun e w' => e = .returned (.int .i64 (sideR n)) ∧ w = w' := netCheckRange n 1 256 w

set_option maxHeartbeats 2000000 in
set_option maxRecDepth 100000 in
theorem netSheet (x y : Int) (c r : Nat) (w : World) (hE : sheetE x y c r = 0) :
    Calls Tryz.prog 13 #[.agg #[.int .i64 x, .int .i64 y], .int .i64 c, .int .i64 r] w (SheetPost (sheetP x y c r) w) := by
  obtain ⟨hs, hm, hf1, hf2⟩ := sheetE_zero hE
  obtain ⟨hk, c1, c2, r1, r2⟩ := sheet1_zero hs
  obtain ⟨x1, x2, y1, y2⟩ := knotE_zero hk
  have HS := Lib.hid (show firstE [knotE x y, sideR c, sideR r] = 0 from hs)
  have HP := Lib.hid (show firstE [placeE (x + 2 * (c : Int)), placeE (y + (r : Int))] = 0 by simp [firstE, placeE, hf1, hf2])
  have hm1 : -200000 ≤ 2 * (c : Int) * (r : Int) := by
    have := Int.mul_nonneg (a := 2 * (c : Int)) (b := (r : Int)) (by omega) (by omega)
    omega
  obtain ⟨w1, hw1, h0, h1, hb1, hz1⟩ := box2 w (.int .i64 x) (.int .i64 y) 33
  have HW1 := Lib.hid hw1
  clear hw1 hE hs hk hf1 hf2
  refine (callsIn_wide (n := 3)).1 (callsIn_of_wp_marks Tryz.func13 rfl trivial (wpIn_wide.2 ?_) rfl)
  simp only [Tryz.ntmps13, List.size_toArray, List.length_cons, List.length_nil, Nat.reduceAdd, Nat.reduceSub, Array.replicate_succ, Array.replicate_zero, List.push_toArray, List.append_toArray, List.nil_append, List.cons_append]
  go_wp2_with fail
  rw [← HW1.out]
  refine (netCheckKnot x y _).mono ?_
  rintro e w2 ⟨rfl, hb2⟩
  go_wp2_with fail
  refine (netSide c _).mono ?_
  rintro e w3 ⟨rfl, rfl⟩
  go_wp2_with fail
  refine (netSide r _).mono ?_
  rintro e w4 ⟨rfl, rfl⟩
  go_wp2_with fail
  refine (netFirst3 _ _ (knotE x y) (sideR c) (sideR r) 24 _ (by exact heap_alloc_new _ _)).mono ?_
  rintro e w5 ⟨rfl, rfl⟩
  rw [HS.out]
  have hb3 : Below w.heap.size w (w2.alloc (.cells #[.int .i64 (knotE x y), .int .i64 (sideR c), .int .i64 (sideR r)] 24)) := (hb1.trans (hb2.mono (by omega))).alloc (by have := hb2.size; omega) _
  have hb4 : Below w1.heap.size w1 (w2.alloc (.cells #[.int .i64 (knotE x y), .int .i64 (sideR c), .int .i64 (sideR r)] 24)) := hb2.alloc hb2.size _
  generalize w2.alloc (.cells #[.int .i64 (knotE x y), .int .i64 (sideR c), .int .i64 (sideR r)] 24) = w6 at *
  have e0 := (hb4.cell (p := ⟨w.heap.size, 0, none⟩) hz1).trans h0
  have e1 := (hb4.cell (p := ⟨w.heap.size, 1, none⟩) hz1).trans h1
  clear h0 h1
  go_wp2_with fail
  refine wp_region_still_tail 11 (by kernel_rfl) (by kernel_rfl) ?_
  simp only [List.take_succ_cons, List.take_zero, List.drop_succ_cons, List.drop_zero]
  still_step
  still_step
  still_step
  still_step
  still_step
  still_call (Calls.mono (netCheckPlace _ _) fun _ _ h => ⟨h.1, h.2.symm⟩)
  still_step
  still_step
  still_step
  still_step
  still_call (Calls.mono (netCheckPlace _ _) fun _ _ h => ⟨h.1, h.2.symm⟩)
  refine wpStill_nil ?_
  change wpList _ _ _ _ _ w6.drew
  go_wp2_with fail
  refine (netFirst2 _ _ (placeE (x + 2 * (c : Int))) (placeE (y + (r : Int))) 24 _ (by exact heap_alloc_new _ _)).mono ?_
  rintro e w7 ⟨rfl, rfl⟩
  rw [HP.out]
  have hz6 := hb4.size
  have hb5 : Below w.heap.size w (w6.alloc (.cells #[.int .i64 (placeE (x + 2 * (c : Int))), .int .i64 (placeE (y + (r : Int)))] 24)).drew := below_drew (hb3.alloc (by omega) _)
  have hb6 : Below w1.heap.size w1 (w6.alloc (.cells #[.int .i64 (placeE (x + 2 * (c : Int))), .int .i64 (placeE (y + (r : Int)))] 24)).drew := below_drew (hb4.alloc (by omega) _)
  generalize (w6.alloc (.cells #[.int .i64 (placeE (x + 2 * (c : Int))), .int .i64 (placeE (y + (r : Int)))] 24)).drew = w8 at *
  have g0 := (hb6.cell (p := ⟨w.heap.size, 0, none⟩) hz1).trans ((hb4.cell (p := ⟨w.heap.size, 0, none⟩) hz1).symm.trans e0)
  have g1 := (hb6.cell (p := ⟨w.heap.size, 1, none⟩) hz1).trans ((hb4.cell (p := ⟨w.heap.size, 1, none⟩) hz1).symm.trans e1)
  clear e0 e1
  have hz8 := hb6.size
  have bO := Boxed.new w8 35 (.slice none 0 0)
  have hb7 : Below w8.heap.size w8 (w8.alloc (.cells #[.slice none 0 0] 35)) := (Below.refl _ _).alloc (Nat.le_refl _) _
  have hsz : (w8.alloc (.cells #[.slice none 0 0] 35)).heap.size = w8.heap.size + 1 := by simp
  have k0 := (hb7.cell (p := ⟨w.heap.size, 0, none⟩) (by show w.heap.size < _; omega)).trans g0
  have k1 := (hb7.cell (p := ⟨w.heap.size, 1, none⟩) (by show w.heap.size < _; omega)).trans g1
  obtain ⟨W0, hW0⟩ : ∃ W0, w8.alloc (.cells #[.slice none 0 0] 35) = W0 := ⟨_, rfl⟩
  rw [hW0] at bO hb7 hsz
  have HW0 := Lib.hid hW0
  clear hW0
  have HSZ := Lib.hid hsz
  clear hsz
  go_wp2_with fail
  rw [HW0.out]
  refine (netSheetBars x y c r _).mono ?_
  rintro e w9 ⟨rfl, hw9⟩
  obtain ⟨W9, hW9, hb9, hz9, m0, m1, m2, m3⟩ := sheet_boxes W0 x y c r
  rw [← hW9] at hw9
  have hw9' := hw9.symm
  subst hw9'
  have HW9 := Lib.hid hW9
  clear hW9
  have hz0 := HSZ.out
  have hbW : Below w.heap.size w W0 := by
    have := hb5.trans (hb7.mono hb5.size)
    exact this
  have bO9 : Boxed W9 w8.heap.size 35 (.slice none 0 0) := (hb9.block _ (by omega)).trans bO
  have hbw9 : Below w.heap.size w W9 := hbW.trans (hb9.mono hbW.size)
  have HZ9 := Lib.hid hz9
  have HZ0 := Lib.hid hz0
  clear hz9 hz0
  go_wp2_with fail
  have hseq := sheet_stops 2 (by omega) x y c r (W0.heap.size + 2) (W0.heap.size + 1) W0.heap.size W0.heap.size (W0.heap.size + 3) (by omega) (by omega) x1 x2 y1 y2 W9 (by rw [HZ9.out]; omega) (by omega) (by omega) (by omega) (by omega) (by omega) (by omega) m3 m2 m0 m1
  refine (wpIn_wide (n := 3)).1 ?_
  have q1 : IntKind.i64.wrap (2 * (c : Int)) = 2 * (c : Int) := by rw [IntKind.wrap_i64]; omega
  have q2 : IntKind.i64.wrap (x + 2 * (c : Int)) = x + 2 * (c : Int) := by rw [IntKind.wrap_i64]; omega
  have q3 : IntKind.i64.wrap (y + (r : Int)) = y + (r : Int) := by rw [IntKind.wrap_i64]; omega
  simp only [q1, q2, q3]
  clear q1 q2 q3
  obtain ⟨ib, hib, hb0, hb01, hb02⟩ := info_parts Tryz.info65
  have HB := Lib.hid hib
  have HB0 := Lib.hid hb0
  have HB1 := Lib.hid hb01
  have HB2 := Lib.hid hb02
  clear hib hb0 hb01 hb02
  generalize hA0 : (Act.mk _ _) = A0
  refine wpIn_rangeFunc_ownH rfl (by omega) (gf := 71) (lb := #[.pointer (some ⟨W0.heap.size + 2, 0, none⟩), .pointer (some ⟨W0.heap.size + 1, 0, none⟩), .pointer (some ⟨W0.heap.size, 0, none⟩)]) (by rw [← hA0]; rfl) trivial ?eg hseq KR.trans (KR.put (w := W9) (by rw [HZ9.out]; omega)) (Below.refl _ _) (fun _ => rfl)
    (fun pre W => (∃ v, Boxed W w8.heap.size 35 v ∧ W.ownsRow (W0.heap.size + 3) 65 3 v pre.length (bcellsL pre) ∧ True) ∧ Below w.heap.size w W ∧ Below W9.heap.size W9 W9 ∧ W9.heap.size ≤ W.heap.size)
    (fun _ _ _ => False)
    (OwnFrom.and (Own.from (holdsRow_own (W0.heap.size + 3) w8.heap.size 35 65 3 (fun pre : List Ck.Bar => pre.length) (fun pre => bcellsL pre) (fun _ _ => True)) _) (OwnFrom.and (ownFrom_below (Nat.le_refl _) (by rw [HZ9.out, HZ0.out]; omega)) ?sz))
    (fun _ _ _ _ _ hs _ _ => hs)
    ⟨⟨_, bO9, World.ownsRow_nil _ _ _ _, trivial⟩, hbw9, Below.refl _ _, Nat.le_refl _⟩
    (fun b a' W => ∃ Bx, w8.heap.size < Bx ∧ Box3 W Bx 65 (.int .i64 b.x) (.int .i64 b.y) (.int .i64 b.s) ∧ a' = { tmps := (A0.tmps.setIfInBounds 48 (.agg #[.int .i64 b.x, .int .i64 b.y, .int .i64 b.s])).setIfInBounds 11 (.pointer (some ⟨Bx, 0, none⟩)), defers := [] })
    (fun x a' _ X Y row hs hg hr => by obtain ⟨Bx, h1, h2, h3⟩ := hs; exact ⟨Bx, h1, box3_own Bx _ _ _ _ () X Y row h2 hg (fun r e => (hr r e).2), h3⟩)
    ?assign ?body ?done ?stop
  case eg => exact fun _ _ => by kernel_rfl
  case sz => exact fun s X Y row hs hg hr => ⟨hs.1, Nat.le_trans hs.2 hg.size⟩
  case assign =>
    rintro l pre b W K ⟨⟨v, hv, hrow, -⟩, hB1, hB2, hB3⟩ hK
    subst hA0
    have hz8 := HZ9.out
    have hz7 := HZ0.out
    dsimp only [barArr]
    gi_wp2
    exact hK _ _ ((KeepsOthers.alloc _ _).from _) (KR.of_below ((Below.refl _ _).alloc (Nat.le_refl _) _) (by omega)) ⟨⟨v, hv.alloc _, hrow.alloc _, trivial⟩, hB1.alloc hB1.size _, hB2, by simp; omega⟩ ⟨W.heap.size, by omega, Box3.new W _ _ _ _, by simp⟩
  case body =>
    rintro l pre b a' W hl ⟨r, hr⟩ ⟨⟨v, hv, hrow, -⟩, hB, hB2, hB3⟩ ⟨Bx, hBx, bX, rfl⟩ hlt
    subst hA0
    have hz8 := HZ9.out
    have hz7 := HZ0.out
    have hc := hv.cell
    obtain ⟨x0, x1', x2', xl⟩ := bX.cells
    gi_wp2_with (gi_at_builtin; refine wpListIn_append_own _ rfl _ _ 35 rfl (W0.heap.size + 3) 65 ib (.agg #[.int .i64 0, .int .i64 0, .int .i64 0]) 3 24 Tryz.underlying35 HB.out HB0.out HB1.out HB2.out rfl (by decide) _ _ _ rfl (hrow.alloc _) ⟨W.heap.size, 0, none⟩ 1 1 [.int .i64 b.x, .int .i64 b.y, .int .i64 b.s] rfl rfl (three_new _ _ _ _ _) (by intro u hu; simp at hu; rcases hu with rfl | rfl | rfl <;> rfl) (by unfold maxLen; omega) (by omega) (by simp; omega) ?_; intro v' w1 hown' hgrow _; obtain ⟨g', cap', rfl⟩ := ownsRow_succ hown'; obtain ⟨hv1, hv2, hk2, hb2, hr2⟩ := sheet_step (B1 := W0.heap.size) (by decide) (by omega) (by omega) (by omega) hv hrow hown' hgrow; have hc1 := hv1.cell; have hf1 := hv1.frozen)
    exact ⟨hk2.from _, hr2.2, ⟨_, hv2, by rw [bcellsL_snoc]; simpa using hr2.1, trivial⟩, hB.trans (hb2.mono (by omega)), hB2, Nat.le_trans hB3 hb2.size⟩
  case done =>
    rintro D ys W hD hS ⟨⟨v, hv, hrow, -⟩, hB, -, hB3⟩ hK
    subst hA0
    subst hS
    have hc := hv.cell
    go_wp2
    have hz8 := HZ9.out
    have hz7 := HZ0.out
    refine ⟨by simp, .inl ⟨_, _, rfl, run_takeDeferred hK, ?_⟩⟩
    refine ⟨_, results_tmp2 rfl _ _ _, v, rfl, ownsRow_mono (ownsRow_putObj hrow _ hK rfl) ?_, hB.trans (belowK_b (w := W9) (n₀ := w.heap.size) hbw9.size W D _ _ hD hK rfl rfl)⟩
    have := hbW.size
    omega
  case stop =>
    rintro D c pre W _ _ h _
    exact h.elim
end Go.Proofs.YtlhnhkfkbmfikaaGreatDoor

/- The bars along an edge: Bars of taper. -/
namespace Go.Proofs.YtlhnhkfkbmfikaaGreatDoor
open Go.RowKit Go.Shelf Ck
attribute [local go_sem] Oper.semAt_some

def barsOf (l : List (UInt8 × Knot × Knot)) : List Bar := l.flatMap fun q => if q.1 = 66 then [⟨q.2.1.x, q.2.1.y, q.2.2.x - q.2.1.x⟩] else []
theorem barsOf_snoc (l : List (UInt8 × Knot × Knot)) (q : UInt8 × Knot × Knot) : barsOf (l ++ [q]) = barsOf l ++ (if q.1 = 66 then [⟨q.2.1.x, q.2.1.y, q.2.2.x - q.2.1.x⟩] else []) := by simp [barsOf]
theorem barsOf_legs (σ : Int) : ∀ (L : List UInt8) (k : Knot), barsOf (legsL σ k L) = barsP σ k L
  | [], _ => rfl
  | c :: r, k => by
    have ih := barsOf_legs σ r (stepK σ k c)
    have e : barsOf (legsL σ k (c :: r)) = (if c = 66 then [⟨k.x, k.y, (stepK σ k c).x - k.x⟩] else []) ++ barsOf (legsL σ (stepK σ k c) r) := by simp [barsOf, legsL]
    rw [e, ih, barsP_cons]
    by_cases h : c = 66
    · subst h
      simp [step_B]
      omega
    · simp [h]
theorem bides_row {β : Type} {B Bo n₀ : Nat} {e te t : TypeId} {size : Nat} (k : β → Nat) (f : β → List Value) (hB : Bo < B) (hne : te ≠ e) : Bides B e (fun (s : β) W => ∃ v, Boxed W Bo t v ∧ W.ownsRow n₀ te size v (k s) (f s)) := by
  rintro s W W' r ⟨v, hv, hr⟩ hg hrow
  refine ⟨v, (hg.block Bo (Array.getElem?_eq_some_iff.1 hv).1 (fun e' => by have := (hrow Bo e'.symm).1; omega)).trans hv, hr.kept hg ?_⟩
  rcases hr.2 with ⟨rfl, _⟩ | ⟨g, cap, cur, rfl, _, hgb, _⟩
  · exact .inl rfl
  · refine .inr fun e' => ?_
    obtain ⟨_, o, ho, hk⟩ := hrow g (by simpa [Value.ownBlock] using e'.symm)
    rw [hgb] at ho
    cases ho
    rcases hk with hk | ⟨cs, f', hk, _⟩
    · cases hk
    · injection hk with _ h2
      exact hne h2
theorem KT.appended {W w1 : World} {Bo B1 n₀ : Nat} {e : TypeId} {size k : Nat} {v : Value} {xs : List Value} {tmp : Obj} (hB : Bo < B1) (hne : e ≠ 33) (hrow : W.ownsRow n₀ e size v k xs) (hgrow : (W.alloc tmp).grownBy w1 v.ownBlock) (v' : Value) : KT B1 e W (w1.setCell ⟨Bo, 0, none⟩ v') := by
  refine ⟨?_, fun b o hb ho hk => ?_⟩
  · have := hgrow.size; simp at this ⊢; omega
  · have hlt := (Array.getElem?_eq_some_iff.1 ho).1
    have hnb : some b ≠ v.ownBlock := by
      intro e'
      rcases hrow.2 with ⟨rfl, _⟩ | ⟨g, cap, cur, rfl, _, hgb, _⟩
      · simp [Value.ownBlock] at e'
      · obtain rfl : b = g := by simpa [Value.ownBlock] using e'
        rw [hgb] at ho
        cases ho
        rcases hk with hk | ⟨cs, t, f, hk, hk2⟩
        · cases hk
        · injection hk with _ h2
          rcases hk2 with hk2 | ⟨hk2, _⟩
          · exact hk2 h2.symm
          · exact hne (h2.trans hk2)
    rw [Below.heap_setCell _ _ _ b (by show b ≠ Bo; omega), hgrow.block b (by simp; omega) hnb, Below.heap_alloc _ _ _ hlt]
    exact ho

end Go.Proofs.YtlhnhkfkbmfikaaGreatDoor

/- The meshes along an edge: Meshes of taper. -/
namespace Go.Proofs.YtlhnhkfkbmfikaaGreatDoor
open Go.RowKit Go.Shelf Ck
attribute [local go_sem] Oper.semAt_some

/-- The centre of the mesh that a letter other than B goes through. -/
def midK (σ : Int) (k : Knot) (c : UInt8) : Knot := if c = 84 then ⟨k.x + σ, k.y⟩ else ⟨k.x, k.y + 1⟩
def midsOf (σ : Int) (l : List (UInt8 × Knot × Knot)) : List Knot := l.flatMap fun q => if q.1 = 66 then [] else [midK σ q.2.1 q.1]
theorem midsOf_snoc (σ : Int) (l : List (UInt8 × Knot × Knot)) (q : UInt8 × Knot × Knot) : midsOf σ (l ++ [q]) = midsOf σ l ++ (if q.1 = 66 then [] else [midK σ q.2.1 q.1]) := by simp [midsOf]
def midsP (σ : Int) : Knot → List UInt8 → List Knot
  | _, [] => []
  | k, c :: r => if c = 66 then midsP σ (stepK σ k c) r else midK σ k c :: midsP σ (stepK σ k c) r
theorem midsOf_legs (σ : Int) : ∀ (L : List UInt8) (k : Knot), midsOf σ (legsL σ k L) = midsP σ k L
  | [], _ => rfl
  | c :: r, k => by
    have ih := midsOf_legs σ r (stepK σ k c)
    have e : midsOf σ (legsL σ k (c :: r)) = (if c = 66 then [] else [midK σ k c]) ++ midsOf σ (legsL σ (stepK σ k c) r) := by simp [midsOf, legsL]
    rw [e, ih, midsP]
    by_cases h : c = 66 <;> simp [h]
theorem mids_half (o : Bool) {k : Knot} {c : UInt8} (hc : isL c) (h : c ≠ 66) : (k.x + (stepK (sg o) k c).x).tdiv 2 = (midK (sg o) k c).x ∧ (k.y + (stepK (sg o) k c).y).tdiv 2 = (midK (sg o) k c).y := by
  have hd : ∀ z : Int, (z + z).tdiv 2 = z := fun z => by rw [← Int.two_mul, Int.mul_comm, Int.mul_tdiv_cancel _ (by decide)]
  rcases hc with rfl | rfl | rfl
  · refine ⟨?_, ?_⟩
    · have : (stepK (sg o) k 78).x = k.x := by simp [stepK, dxL]
      rw [this, hd]; rfl
    · have : k.y + (stepK (sg o) k 78).y = (k.y + 1) + (k.y + 1) := by simp [stepK, dyL]; omega
      rw [this, hd]; rfl
  · exact absurd rfl h
  · refine ⟨?_, ?_⟩
    · have : k.x + (stepK (sg o) k 84).x = (k.x + sg o) + (k.x + sg o) := by simp [stepK, dxL]; omega
      rw [this, hd]; rfl
    · have : (stepK (sg o) k 84).y = k.y := by simp [stepK, dyL]
      rw [this, hd]; rfl
theorem mid_near (o : Bool) (k : Knot) (c : UInt8) : k.x - 1 ≤ (midK (sg o) k c).x ∧ (midK (sg o) k c).x ≤ k.x + 1 ∧ k.y - 1 ≤ (midK (sg o) k c).y ∧ (midK (sg o) k c).y ≤ k.y + 1 := by
  unfold midK sg
  cases o <;> split <;> simp <;> omega
theorem infoP : (Tryz.prog.info? 169).map (fun i => (i.zero, i.size, i.bytes)) = some (some (.agg #[.int .i64 0, .int .i64 0]), 2, 16) := by kernel_rfl
def MidPost (l : List Knot) (w : World) (e : Ending) (w' : World) : Prop :=
  ∃ v, e = .returned (.tuple #[v, .int .i64 0]) ∧ w'.ownsRow w.heap.size 169 2 v l.length (kcellsL l) ∧ Below w.heap.size w w'

end Go.Proofs.YtlhnhkfkbmfikaaGreatDoor

/- Meshes and Has of the program at valid nets. -/
namespace Go.Proofs.YtlhnhkfkbmfikaaGreatDoor
open Go.RowKit Go.Shelf Ck

def MeshesPost (l : List Bar) (w : World) (e : Ending) (w' : World) : Prop :=
  ∃ v, e = .returned (.tuple #[v, .int .i64 0]) ∧ w'.ownsRow w.heap.size 60 2 v (meshL l l).length (meshCells (meshL l l)) ∧ Below w.heap.size w w'
set_option maxHeartbeats 1000000 in
set_option maxRecDepth 100000 in
theorem netMeshesAll (A : Option Addr) (c : Nat) (l : List Bar) (w : World) (hl : l.length ≤ 4096) (hc : l.length ≤ c) (hcm : c ≤ maxLen) (hN : Net l) (h : RB w w.heap.size A l) :
    Calls Tryz.prog 19 #[.slice A l.length c] w (MeshesPost l w) := by
  have HR := Lib.hid h
  have HE := Lib.hid ((netE_zero l).2 ⟨hl, hN⟩)
  have HN := Lib.hid hN
  clear h hN
  go_enter Tryz.func19, Tryz.ntmps19
  go_wp2_with fail
  refine (netCheckNet A c l _ hl hc hcm HR.out).mono ?_
  rintro e w1 ⟨rfl, hb1⟩
  rw [HE.out]
  go_wp2_with fail
  refine (netMeshesOf A c l _ hl HN.out.2 HN.out.1 ((HR.out.below hb1).more hb1.size)).mono ?_
  rintro e w2 ⟨v, rfl, hown, hb2⟩
  have HO := Lib.hid (ownsRow_mono hown hb1.size)
  clear hown
  go_wp2
  go_ret2
  exact ⟨v, rfl, HO.out, hb1.trans (hb2.mono hb1.size)⟩

end Go.Proofs.YtlhnhkfkbmfikaaGreatDoor

/- Plain mathematics of the union: its members, its order, its length. -/
namespace Go.Proofs.YtlhnhkfkbmfikaaGreatDoor
open Ck

theorem mergeU_mem (x : Bar) : ∀ (l l' : List Bar), x ∈ mergeU l l' ↔ x ∈ l ∨ x ∈ l'
  | [], l' => by simp [mergeU]
  | a :: r, [] => by simp [mergeU]
  | a :: r, b :: r' => by
    rw [mergeU]
    split
    · rw [List.mem_cons, mergeU_mem x r (b :: r'), List.mem_cons, List.mem_cons, or_assoc]
    · split
      · rw [List.mem_cons, mergeU_mem x (a :: r) r', List.mem_cons, List.mem_cons]
        constructor
        · rintro (h | h | h)
          · exact .inr (.inl h)
          · exact .inl h
          · exact .inr (.inr h)
        · rintro (h | h | h)
          · exact .inr (.inl h)
          · exact .inl h
          · exact .inr (.inr h)
      · have e : a = b := (cmpB_zero a b).1 (by omega)
        subst e
        rw [List.mem_cons, mergeU_mem x r r', List.mem_cons, List.mem_cons]
        constructor
        · rintro (h | h | h)
          · exact .inl (.inl h)
          · exact .inl (.inr h)
          · exact .inr (.inr h)
        · rintro ((h | h) | (h | h))
          · exact .inl h
          · exact .inr (.inl h)
          · exact .inl h
          · exact .inr (.inr h)
termination_by l l' => l.length + l'.length
theorem mergeU_sorted : ∀ (l l' : List Bar), l.Pairwise Blt → l'.Pairwise Blt → (mergeU l l').Pairwise Blt
  | [], l', _, h' => by simpa [mergeU] using h'
  | a :: r, [], h, _ => by simpa [mergeU] using h
  | a :: r, b :: r', h, h' => by
    obtain ⟨h1, h2⟩ := List.pairwise_cons.1 h
    obtain ⟨k1, k2⟩ := List.pairwise_cons.1 h'
    rw [mergeU]
    split
    · rename_i hc
      have hab := (cmpB_lt_iff a b).1 hc
      refine List.pairwise_cons.2 ⟨fun x hx => ?_, mergeU_sorted r (b :: r') h2 h'⟩
      rcases (mergeU_mem x r (b :: r')).1 hx with hx | hx
      · exact h1 x hx
      · rcases List.mem_cons.1 hx with rfl | hx
        · exact hab
        · exact hab.trans (k1 x hx)
    · rename_i hc
      split
      · rename_i hd
        have hba : Blt b a := by
          rcases Blt.tri a b with h | h | h
          · exact absurd ((cmpB_lt_iff a b).2 h) hc
          · rw [(cmpB_zero a b).2 h] at hd; omega
          · exact h
        refine List.pairwise_cons.2 ⟨fun x hx => ?_, mergeU_sorted (a :: r) r' h k2⟩
        rcases (mergeU_mem x (a :: r) r').1 hx with hx | hx
        · rcases List.mem_cons.1 hx with rfl | hx
          · exact hba
          · exact hba.trans (h1 x hx)
        · exact k1 x hx
      · have e : a = b := (cmpB_zero a b).1 (by omega)
        subst e
        refine List.pairwise_cons.2 ⟨fun x hx => ?_, mergeU_sorted r r' h2 k2⟩
        rcases (mergeU_mem x r r').1 hx with hx | hx
        · exact h1 x hx
        · exact k1 x hx
termination_by l l' => l.length + l'.length
theorem mergeU_length : ∀ (l l' : List Bar), (mergeU l l').length ≤ l.length + l'.length
  | [], l' => by simp [mergeU]
  | a :: r, [] => by simp [mergeU]
  | a :: r, b :: r' => by
    rw [mergeU]
    split
    · have := mergeU_length r (b :: r'); simp only [List.length_cons] at this ⊢; omega
    · split
      · have := mergeU_length (a :: r) r'; simp only [List.length_cons] at this ⊢; omega
      · have := mergeU_length r r'; simp only [List.length_cons] at this ⊢; omega
termination_by l l' => l.length + l'.length
theorem mergeU_net {l l' : List Bar} (h : Net l) (h' : Net l') : Net (mergeU l l') :=
  ⟨fun b hb => ((mergeU_mem b l l').1 hb).elim (h.1 b) (h'.1 b), mergeU_sorted l l' h.2 h'.2⟩
/-- All bars of the first list come before all of the second one. -/
theorem mergeU_append : ∀ (l l' : List Bar), (∀ a ∈ l, ∀ b ∈ l', Blt a b) → mergeU l l' = l ++ l'
  | [], l', _ => by simp [mergeU]
  | a :: r, [], _ => by simp [mergeU]
  | a :: r, b :: r', h => by
    rw [mergeU, if_pos ((cmpB_lt_iff a b).2 (h a (by simp) b (by simp))), mergeU_append r (b :: r') (fun x hx => h x (by simp [hx]))]
    rfl
end Go.Proofs.YtlhnhkfkbmfikaaGreatDoor

/- The contract of merge where what the second list lacks is kept. -/
namespace Go.Proofs.YtlhnhkfkbmfikaaGreatDoor
open Go.RowKit

def mergeM : List Ck.Bar → List Ck.Bar → List Ck.Bar
  | [], _ => []
  | a :: r, [] => a :: r
  | a :: r, b :: r' => if cmpB a b < 0 then a :: mergeM r (b :: r') else if 0 < cmpB a b then mergeM (a :: r) r' else mergeM r r'
termination_by l l' => l.length + l'.length
theorem mergeM_nil (l : List Ck.Bar) : mergeM l [] = l := by cases l <;> simp [mergeM]
theorem headsM_neg {ra rb : List Ck.Bar} (h : headsE ra rb < 0) : ∃ a r, ra = a :: r ∧ mergeM ra rb = a :: mergeM r rb := by
  match ra, rb, h with
  | [], _, h => simp [headsE] at h
  | a :: r, [], _ => exact ⟨a, r, rfl, by rw [mergeM_nil, mergeM_nil]⟩
  | a :: r, b :: r', h =>
    have h' : cmpB a b < 0 := h
    exact ⟨a, r, rfl, by rw [mergeM, if_pos h']⟩
theorem headsM_pos {ra rb : List Ck.Bar} (h : 0 < headsE ra rb) (hne : 0 < ra.length + rb.length) : ∃ b r', rb = b :: r' ∧ mergeM ra rb = mergeM ra r' := by
  match ra, rb, h with
  | [], [], _ => simp at hne
  | [], b :: r', _ => exact ⟨b, r', rfl, by simp [mergeM]⟩
  | a :: r, [], h => simp [headsE] at h
  | a :: r, b :: r', h =>
    have h' : 0 < cmpB a b := h
    exact ⟨b, r', rfl, by rw [mergeM, if_neg (by omega), if_pos h']⟩
theorem headsM_zero {ra rb : List Ck.Bar} (h : headsE ra rb = 0) : ∃ a r r', ra = a :: r ∧ rb = a :: r' ∧ mergeM ra rb = mergeM r r' := by
  match ra, rb, h with
  | [], _, h => simp [headsE] at h
  | a :: r, [], h => simp [headsE] at h
  | a :: r, b :: r', h =>
    have h' : cmpB a b = 0 := h
    have e := (cmpB_zero _ _).1 h'
    subst e
    exact ⟨a, r, r', rfl, rfl, by rw [mergeM, if_neg (by omega), if_neg (by omega)]⟩

set_option maxHeartbeats 400000 in
theorem keepMinus (x y : Bool) (w : World) : Calls Tryz.prog 63 #[.bool x, .bool y] w fun e w' => e = .returned (.bool (x && !y)) ∧ w = w' := by
  cases x
  all_goals
    go_enter Tryz.func63, Tryz.ntmps63
    go_wp2
    go_ret
    exact ⟨rfl, rfl⟩
theorem keepM10 (w : World) : Calls Tryz.prog 63 #[.bool true, .bool false] w fun e w' => e = .returned (.bool true) ∧ w = w' := keepMinus true false w
theorem keepM11 (w : World) : Calls Tryz.prog 63 #[.bool true, .bool true] w fun e w' => e = .returned (.bool false) ∧ w = w' := keepMinus true true w
theorem keepM01 (w : World) : Calls Tryz.prog 63 #[.bool false, .bool true] w fun e w' => e = .returned (.bool false) ∧ w = w' := keepMinus false true w

def MrgMPost (l l' : List Ck.Bar) (w : World) (e : Ending) (w' : World) : Prop :=
  ∃ v, e = .returned v ∧ w'.ownsRow w.heap.size 65 3 v (mergeM l l').length (bcellsL (mergeM l l')) ∧ Below w.heap.size w w'
def mrgMRel (l0 l0' : List Ck.Bar) (w : World) (g : Nat) (va vb vo : Value) (wi : World) : Prop :=
  ∃ A A' c c' ra rb out, g = ra.length + rb.length ∧ va = .slice A ra.length c ∧ vb = .slice A' rb.length c' ∧ ra.length ≤ c ∧ c ≤ 9223372036854775807 ∧ rb.length ≤ c' ∧ c' ≤ 9223372036854775807 ∧ RB wi w.heap.size A ra ∧ RB wi w.heap.size A' rb ∧
    mergeM l0 l0' = out ++ mergeM ra rb ∧ out.length + ra.length + rb.length ≤ l0.length + l0'.length ∧ wi.ownsRow w.heap.size 65 3 vo out.length (bcellsL out) ∧ Below w.heap.size w wi

set_option maxHeartbeats 4000000 in
set_option maxRecDepth 100000 in
theorem netMergeM (A A' : Option Addr) (c c' : Nat) (l l' : List Ck.Bar) (w : World) (hl : l.length ≤ 4096) (hl' : l'.length ≤ 4096) (hc : l.length ≤ c) (hcm : c ≤ maxLen) (hc' : l'.length ≤ c') (hcm' : c' ≤ maxLen) (h : RB w w.heap.size A l) (h' : RB w w.heap.size A' l') :
    Calls Tryz.prog 96 #[.slice A l.length c, .slice A' l'.length c', .func (.func 97) #[] #[], .func (.func 63) #[] #[]] w (MrgMPost l l' w) := by
  obtain ⟨ib, hib, hb0, hb01, hb02⟩ := info_parts Tryz.info65
  have HIB := Lib.hid hib
  have HB0 := Lib.hid hb0
  have HB1 := Lib.hid hb01
  have HB2 := Lib.hid hb02
  have HR := Lib.hid h
  have HR' := Lib.hid h'
  clear hib hb0 hb01 hb02 h h'
  unfold maxLen at hcm hcm'
  go_enter Tryz.func96, Tryz.ntmps96
  go_wp2_with fail
  go_loopg [0, 1, 9, 10, 11] (l.length + l'.length) (fun g va vb vo _ _ wi => mrgMRel l l' w g va vb vo wi)
  case atStart => exact ⟨A, A', c, c', l, l', [], rfl, rfl, rfl, hc, hcm, hc', hcm', HR.out, HR'.out, rfl, by simp, World.ownsRow_nil _ _ _ _, Below.refl _ _⟩
  case round =>
    obtain ⟨A1, A2, c1, c2, ra, rb, out, hg, rfl, rfl, k1, k2, k3, k4, r1, r2, hm, hlen, hown, hb⟩ := hrel
    have HG := Lib.hid hg
    have HM := Lib.hid hm
    have HO := Lib.hid hown
    have HA := Lib.hid r1
    have HB := Lib.hid r2
    have hbz := hb.size
    clear hg hm hown r1 r2
    by_cases hne : 0 < ra.length + rb.length
    · rcases Int.lt_trichotomy (headsE ra rb) 0 with ho | ho | ho
      · obtain ⟨a, r, rfl, hmu⟩ := headsM_neg ho
        have HMU := Lib.hid hmu
        have ho1 : (headsE (a :: r) rb ≤ 0) := by omega
        have ho2 : ¬ (0 ≤ headsE (a :: r) rb) := by omega
        have HRA := HA.out.head
        clear hmu
        obtain ⟨b, off, rfl, hbb, d0, d1, d2, ht⟩ := HRA
        have HT := Lib.hid ht
        clear ht
        generalize hoe : headsE (a :: r) rb = o at ho ho1 ho2
        have hd1 : decide (0 ≤ o) = false := decide_eq_false (by omega)
        have HOE := Lib.hid hoe
        clear hoe
        go_wp2_with fail
        refine (netHeads (some ⟨b, off, none⟩) A2 c1 c2 (a :: r) rb _ (by simp at hlen ⊢; omega) (by simp at hlen; omega) (HA.out.more hbz) (HB.out.more hbz)).mono ?_
        rintro e w2 ⟨rfl, hb2⟩
        rw [HOE.out]
        have hz2 := hb2.size
        have e0 := (hb2.cell (p := ⟨b, off, none⟩) (by show b < _; omega)).trans d0
        have e1 := (hb2.cell (p := ⟨b, off + 1, none⟩) (by show b < _; omega)).trans d1
        have e2 := (hb2.cell (p := ⟨b, off + 2, none⟩) (by show b < _; omega)).trans d2
        clear d0 d1 d2
        obtain ⟨w3, hw3⟩ : ∃ w3, w3 = w2.alloc (.cells #[.int .i64 0, .int .i64 0, .int .i64 0] 65) := ⟨_, rfl⟩
        have hx : w3.heap[w2.heap.size]? = some (.cells #[.int .i64 0, .int .i64 0, .int .i64 0] 65 (0, 0)) := by rw [hw3]; exact heap_alloc_new _ _
        have hb3 : Below w2.heap.size w2 w3 := by rw [hw3]; exact (Below.refl _ _).alloc (Nat.le_refl _) _
        have hz3 : w2.heap.size < w3.heap.size := by rw [hw3]; simp
        obtain ⟨W, hW, hxW, hbW, hzW⟩ := put3 hx (.int .i64 a.x) (.int .i64 a.y) (.int .i64 a.s)
        obtain ⟨f0, f1, f2, ff⟩ := three_of_block hx
        obtain ⟨g0, g1, g2, _⟩ := three_of_block hxW
        have HW3 := Lib.hid hw3
        have HWW := Lib.hid hW
        have HZW := Lib.hid hzW
        clear hzW
        replace e0 := (hb3.cell (p := ⟨b, off, none⟩) (by show b < _; omega)).trans e0
        replace e1 := (hb3.cell (p := ⟨b, off + 1, none⟩) (by show b < _; omega)).trans e1
        replace e2 := (hb3.cell (p := ⟨b, off + 2, none⟩) (by show b < _; omega)).trans e2
        have hq : Below wr.heap.size wr W := (hb2.trans (hb3.mono hz2)).trans (hbW.mono hz2)
        have HOW := Lib.hid (ownsRow_below HO.out hq)
        have hbw := hb.trans (hq.mono hbz)
        have HTW := Lib.hid ((HT.out.below (hq.mono hbz)))
        have HBW := Lib.hid ((HB.out.below (hq.mono hbz)))
        have hi1 : (0 : Int) < (r.length : Int) + 1 := by omega
        have hi2 : (1 : Int) ≤ (r.length : Int) + 1 := by omega
        have hi3 : (r.length : Int) + 1 ≤ (c1 : Int) := by simp at k1; omega
        clear hw3 hW hx hxW
        go_wp2_with fail
        rw [← HW3.out]
        go_region
        rw [← HWW.out]
        generalize hA1 : (if c1 = 1 then some (⟨b, off, none⟩ : Addr) else some ⟨b, off + 3, none⟩) = A1
        have HRA1 := Lib.hid (HTW.out.cut1 (c := c1) (by simp at k1; omega) A1 (fun hne => by rw [← hA1, if_neg hne]))
        clear hA1 e0 e1 e2
        go_wp2_with (first
          | (go_at_call 63; refine (keepM10 _).mono ?_; rintro e w' ⟨rfl, rfl⟩)
          | (at_builtin; refine wpList_append_own _ rfl _ _ 35 rfl w.heap.size 65 ib (.agg #[.int .i64 0, .int .i64 0, .int .i64 0]) 3 24 Tryz.underlying35 HIB.out HB0.out HB1.out HB2.out rfl (by decide) _ _ _ rfl (by exact HOW.out.alloc _) ⟨W.heap.size, 0, none⟩ 1 1 [.int .i64 a.x, .int .i64 a.y, .int .i64 a.s] rfl rfl ?c1 ?c2 ?c3 ?c4 ?c5 ?_))
        case c1 => exact three_new _ _ _ _ _
        case c2 => intro u hu; simp at hu; rcases hu with rfl | rfl | rfl <;> rfl
        case c3 => unfold maxLen; simp at hlen; omega
        case c4 => simp at hlen; omega
        case c5 => have := hbw.size; simp; omega
        intro v' w4 hown4 hgrow4 _
        have hq4 : Below w.heap.size w w4 := (below_drew (hbw.alloc hbw.size (.cells #[.int .i64 a.x, .int .i64 a.y, .int .i64 a.s] 65))).grown hgrow4 (by have := hbw.size; simp; omega) (ownsRow_base HOW.out)
        have hsame : ∀ {X : Option Addr} {q : List Ck.Bar}, RB W w.heap.size X q → RB w4 w.heap.size X q := fun hX => by
          intro hl
          obtain ⟨b', off', e', hb', hc'⟩ := hX hl
          have hk : ∀ o, w4.cell? ⟨b', o, none⟩ = W.cell? ⟨b', o, none⟩ := fun o => (hq4.cell (p := ⟨b', o, none⟩) hb').trans (hbw.cell (p := ⟨b', o, none⟩) hb').symm
          exact ⟨b', off', e', hb', fun i hi => ⟨(hk _).trans (hc' i hi).1, (hk _).trans (hc' i hi).2.1, (hk _).trans (hc' i hi).2.2⟩⟩
        have HRA4 := Lib.hid (hsame HRA1.out)
        have HRB4 := Lib.hid (hsame HBW.out)
        have HO4 := Lib.hid hown4
        clear hown4 hgrow4 hsame
        go_wp2
        go_roundg (r.length + rb.length)
        case measure => rw [HG.out]; simp only [List.length_cons]; omega
        case rel => exact ⟨A1, A2, c1 - 1, c2, r, rb, out ++ [a], rfl, rfl, rfl, by simp at k1; omega, by omega, k3, k4, HRA4.out, HRB4.out, by rw [HM.out, HMU.out]; simp, by simp at hlen ⊢; omega, by rw [bcellsL_snoc, List.length_append]; exact HO4.out, hq4⟩
      · obtain ⟨a, r, r', rfl, rfl, hmu⟩ := headsM_zero ho
        have HMU := Lib.hid hmu
        have ho1 : (headsE (a :: r) (a :: r') ≤ 0) := by omega
        have ho2 : (0 ≤ headsE (a :: r) (a :: r')) := by omega
        have HRA := HA.out.head
        have HRB := HB.out.head
        clear hmu
        obtain ⟨b, off, rfl, hbb, d0, d1, d2, ht⟩ := HRA
        have HT := Lib.hid ht
        clear ht
        obtain ⟨b', off', rfl, hbb', d0', d1', d2', ht'⟩ := HRB
        have HT' := Lib.hid ht'
        clear ht'
        generalize hoe : headsE (a :: r) (a :: r') = o at ho ho1 ho2
        have HOE := Lib.hid hoe
        clear hoe
        go_wp2_with fail
        refine (netHeads (some ⟨b, off, none⟩) (some ⟨b', off', none⟩) c1 c2 (a :: r) (a :: r') _ (by simp at hlen ⊢; omega) (by simp at hlen ⊢; omega) (HA.out.more hbz) (HB.out.more hbz)).mono ?_
        rintro e w2 ⟨rfl, hb2⟩
        rw [HOE.out]
        have hz2 := hb2.size
        have e0 := (hb2.cell (p := ⟨b, off, none⟩) (by show b < _; omega)).trans d0
        have e0' := (hb2.cell (p := ⟨b', off', none⟩) (by show b' < _; omega)).trans d0'
        have e1 := (hb2.cell (p := ⟨b, off + 1, none⟩) (by show b < _; omega)).trans d1
        have e1' := (hb2.cell (p := ⟨b', off' + 1, none⟩) (by show b' < _; omega)).trans d1'
        have e2 := (hb2.cell (p := ⟨b, off + 2, none⟩) (by show b < _; omega)).trans d2
        have e2' := (hb2.cell (p := ⟨b', off' + 2, none⟩) (by show b' < _; omega)).trans d2'
        clear d0 d1 d2 d0' d1' d2'
        obtain ⟨w3, hw3⟩ : ∃ w3, w3 = w2.alloc (.cells #[.int .i64 0, .int .i64 0, .int .i64 0] 65) := ⟨_, rfl⟩
        have hx : w3.heap[w2.heap.size]? = some (.cells #[.int .i64 0, .int .i64 0, .int .i64 0] 65 (0, 0)) := by rw [hw3]; exact heap_alloc_new _ _
        have hb3 : Below w2.heap.size w2 w3 := by rw [hw3]; exact (Below.refl _ _).alloc (Nat.le_refl _) _
        have hz3 : w2.heap.size < w3.heap.size := by rw [hw3]; simp
        obtain ⟨W, hW, hxW, hbW, hzW⟩ := put3 hx (.int .i64 a.x) (.int .i64 a.y) (.int .i64 a.s)
        obtain ⟨f0, f1, f2, ff⟩ := three_of_block hx
        obtain ⟨g0, g1, g2, gf⟩ := three_of_block hxW
        obtain ⟨V, hV, hxV, hbV, hzV⟩ := put3 hxW (.int .i64 a.x) (.int .i64 a.y) (.int .i64 a.s)
        obtain ⟨q0, q1, q2, _⟩ := three_of_block hxV
        have HVV := Lib.hid hV
        clear hV hzV
        have HW3 := Lib.hid hw3
        have HWW := Lib.hid hW
        have HZW := Lib.hid hzW
        clear hzW
        replace e0 := (hb3.cell (p := ⟨b, off, none⟩) (by show b < _; omega)).trans e0
        replace e0' := (hbW.cell (p := ⟨b', off', none⟩) (by show b' < _; omega)).trans ((hb3.cell (p := ⟨b', off', none⟩) (by show b' < _; omega)).trans e0')
        replace e1 := (hb3.cell (p := ⟨b, off + 1, none⟩) (by show b < _; omega)).trans e1
        replace e1' := (hbW.cell (p := ⟨b', off' + 1, none⟩) (by show b' < _; omega)).trans ((hb3.cell (p := ⟨b', off' + 1, none⟩) (by show b' < _; omega)).trans e1')
        replace e2 := (hb3.cell (p := ⟨b, off + 2, none⟩) (by show b < _; omega)).trans e2
        replace e2' := (hbW.cell (p := ⟨b', off' + 2, none⟩) (by show b' < _; omega)).trans ((hb3.cell (p := ⟨b', off' + 2, none⟩) (by show b' < _; omega)).trans e2')
        have hq : Below wr.heap.size wr W := (hb2.trans (hb3.mono hz2)).trans (hbW.mono hz2)
        have hqv : Below wr.heap.size wr V := hq.trans (hbV.mono hz2)
        have HOW := Lib.hid (ownsRow_below HO.out hqv)
        have hbw := hb.trans (hqv.mono hbz)
        have HTW := Lib.hid ((HT.out.below (hqv.mono hbz)))
        have HBW := Lib.hid ((HT'.out.below (hqv.mono hbz)))
        have hi4 : (0 : Int) < (r'.length : Int) + 1 := by omega
        have hi5 : (1 : Int) ≤ (r'.length : Int) + 1 := by omega
        have hi6 : (r'.length : Int) + 1 ≤ (c2 : Int) := by simp at k3; omega
        have hi1 : (0 : Int) < (r.length : Int) + 1 := by omega
        have hi2 : (1 : Int) ≤ (r.length : Int) + 1 := by omega
        have hi3 : (r.length : Int) + 1 ≤ (c1 : Int) := by simp at k1; omega
        clear hw3 hW hx hxW
        go_wp2_with fail
        rw [← HW3.out]
        go_region
        rw [← HWW.out]
        generalize hA1 : (if c1 = 1 then some (⟨b, off, none⟩ : Addr) else some ⟨b, off + 3, none⟩) = A1
        have HRA1 := Lib.hid (HTW.out.cut1 (c := c1) (by simp at k1; omega) A1 (fun hne => by rw [← hA1, if_neg hne]))
        clear hA1 e0 e1 e2
        go_wp2_with fail
        go_region
        rw [← HVV.out]
        generalize hA3 : (if c2 = 1 then some (⟨b', off', none⟩ : Addr) else some ⟨b', off' + 3, none⟩) = A3
        have HRA3 := Lib.hid (HBW.out.cut1 (c := c2) (by simp at k3; omega) A3 (fun hne => by rw [← hA3, if_neg hne]))
        clear hA3 e0' e1' e2'
        go_wp2_with (go_at_call 63; refine (keepM11 _).mono ?_; rintro e w' ⟨rfl, rfl⟩)
        go_roundg (r.length + r'.length)
        case measure => rw [HG.out]; simp only [List.length_cons]; omega
        case rel => exact ⟨A1, A3, c1 - 1, c2 - 1, r, r', out, rfl, rfl, rfl, by simp at k1; omega, by omega, by simp at k3; omega, by omega, HRA1.out, HRA3.out, by rw [HM.out, HMU.out], by simp at hlen ⊢; omega, HOW.out, by first | exact hbw | exact below_drew hbw | exact below_drew (below_drew hbw)⟩
      · obtain ⟨a, r, rfl, hmu⟩ := headsM_pos ho hne
        rcases ra with _ | ⟨x, rx⟩
        · skip
          have HMU := Lib.hid hmu
          have ho1 : ¬ (headsE ([] : List Ck.Bar) (a :: r) ≤ 0) := by omega
          have ho2 : (0 ≤ headsE ([] : List Ck.Bar) (a :: r)) := by omega
          have HRA := HB.out.head
          clear hmu
          obtain ⟨b, off, rfl, hbb, d0, d1, d2, ht⟩ := HRA
          have HT := Lib.hid ht
          clear ht
          generalize hoe : headsE ([] : List Ck.Bar) (a :: r) = o at ho ho1 ho2
          have hd1 : decide (o ≤ 0) = false := decide_eq_false (by omega)
          have HOE := Lib.hid hoe
          clear hoe
          go_wp2_with fail
          refine (netHeads A1 (some ⟨b, off, none⟩) c1 c2 ([] : List Ck.Bar) (a :: r) _ (by simp only [List.length_cons, List.length_nil] at hlen ⊢; omega) (by simp only [List.length_cons, List.length_nil] at hlen ⊢; omega) (HA.out.more hbz) (HB.out.more hbz)).mono ?_
          rintro e w2 ⟨rfl, hb2⟩
          rw [HOE.out]
          have hz2 := hb2.size
          have e0 := (hb2.cell (p := ⟨b, off, none⟩) (by show b < _; omega)).trans d0
          have e1 := (hb2.cell (p := ⟨b, off + 1, none⟩) (by show b < _; omega)).trans d1
          have e2 := (hb2.cell (p := ⟨b, off + 2, none⟩) (by show b < _; omega)).trans d2
          clear d0 d1 d2
          obtain ⟨w3, hw3⟩ : ∃ w3, w3 = w2.alloc (.cells #[.int .i64 0, .int .i64 0, .int .i64 0] 65) := ⟨_, rfl⟩
          have hx : w3.heap[w2.heap.size]? = some (.cells #[.int .i64 0, .int .i64 0, .int .i64 0] 65 (0, 0)) := by rw [hw3]; exact heap_alloc_new _ _
          have hb3 : Below w2.heap.size w2 w3 := by rw [hw3]; exact (Below.refl _ _).alloc (Nat.le_refl _) _
          have hz3 : w2.heap.size < w3.heap.size := by rw [hw3]; simp
          obtain ⟨W, hW, hxW, hbW, hzW⟩ := put3 hx (.int .i64 a.x) (.int .i64 a.y) (.int .i64 a.s)
          obtain ⟨f0, f1, f2, ff⟩ := three_of_block hx
          obtain ⟨g0, g1, g2, _⟩ := three_of_block hxW
          have HW3 := Lib.hid hw3
          have HWW := Lib.hid hW
          have HZW := Lib.hid hzW
          clear hzW
          replace e0 := (hb3.cell (p := ⟨b, off, none⟩) (by show b < _; omega)).trans e0
          replace e1 := (hb3.cell (p := ⟨b, off + 1, none⟩) (by show b < _; omega)).trans e1
          replace e2 := (hb3.cell (p := ⟨b, off + 2, none⟩) (by show b < _; omega)).trans e2
          have hq : Below wr.heap.size wr W := (hb2.trans (hb3.mono hz2)).trans (hbW.mono hz2)
          have HOW := Lib.hid (ownsRow_below HO.out hq)
          have hbw := hb.trans (hq.mono hbz)
          have HTW := Lib.hid ((HT.out.below (hq.mono hbz)))
          have HBW := Lib.hid ((HA.out.below (hq.mono hbz)))
          have hi1 : (0 : Int) < (r.length : Int) + 1 := by omega
          have hi2 : (1 : Int) ≤ (r.length : Int) + 1 := by omega
          have hi3 : (r.length : Int) + 1 ≤ (c2 : Int) := by simp at k3; omega
          clear hw3 hW hx hxW
          go_wp2_with fail
          rw [← HW3.out]
          go_region
          rw [← HWW.out]
          generalize hA1 : (if c2 = 1 then some (⟨b, off, none⟩ : Addr) else some ⟨b, off + 3, none⟩) = A3
          have HRA1 := Lib.hid (HTW.out.cut1 (c := c2) (by simp at k3; omega) A3 (fun hne => by rw [← hA1, if_neg hne]))
          clear hA1 e0 e1 e2
          go_wp2_with (go_at_call 63; refine (keepM01 _).mono ?_; rintro e w' ⟨rfl, rfl⟩)
          go_roundg (([] : List Ck.Bar).length + r.length)
          case measure => rw [HG.out]; simp only [List.length_cons, List.length_nil]; omega
          case rel => exact ⟨A1, A3, c1, c2 - 1, ([] : List Ck.Bar), r, out, rfl, rfl, rfl, k1, k2, by simp at k3; omega, by omega, HBW.out, HRA1.out, by rw [HM.out, HMU.out], by simp at hlen ⊢; omega, HOW.out, by first | exact hbw | exact below_drew hbw | exact below_drew (below_drew hbw)⟩
        · skip
          have HMU := Lib.hid hmu
          have ho1 : ¬ (headsE (x :: rx) (a :: r) ≤ 0) := by omega
          have ho2 : (0 ≤ headsE (x :: rx) (a :: r)) := by omega
          have HRA := HB.out.head
          clear hmu
          obtain ⟨b, off, rfl, hbb, d0, d1, d2, ht⟩ := HRA
          have HT := Lib.hid ht
          clear ht
          generalize hoe : headsE (x :: rx) (a :: r) = o at ho ho1 ho2
          have hd1 : decide (o ≤ 0) = false := decide_eq_false (by omega)
          have HOE := Lib.hid hoe
          clear hoe
          go_wp2_with fail
          refine (netHeads A1 (some ⟨b, off, none⟩) c1 c2 (x :: rx) (a :: r) _ (by simp only [List.length_cons] at hlen ⊢; omega) (by simp only [List.length_cons] at hlen ⊢; omega) (HA.out.more hbz) (HB.out.more hbz)).mono ?_
          rintro e w2 ⟨rfl, hb2⟩
          rw [HOE.out]
          have hz2 := hb2.size
          have e0 := (hb2.cell (p := ⟨b, off, none⟩) (by show b < _; omega)).trans d0
          have e1 := (hb2.cell (p := ⟨b, off + 1, none⟩) (by show b < _; omega)).trans d1
          have e2 := (hb2.cell (p := ⟨b, off + 2, none⟩) (by show b < _; omega)).trans d2
          clear d0 d1 d2
          obtain ⟨w3, hw3⟩ : ∃ w3, w3 = w2.alloc (.cells #[.int .i64 0, .int .i64 0, .int .i64 0] 65) := ⟨_, rfl⟩
          have hx : w3.heap[w2.heap.size]? = some (.cells #[.int .i64 0, .int .i64 0, .int .i64 0] 65 (0, 0)) := by rw [hw3]; exact heap_alloc_new _ _
          have hb3 : Below w2.heap.size w2 w3 := by rw [hw3]; exact (Below.refl _ _).alloc (Nat.le_refl _) _
          have hz3 : w2.heap.size < w3.heap.size := by rw [hw3]; simp
          obtain ⟨W, hW, hxW, hbW, hzW⟩ := put3 hx (.int .i64 a.x) (.int .i64 a.y) (.int .i64 a.s)
          obtain ⟨f0, f1, f2, ff⟩ := three_of_block hx
          obtain ⟨g0, g1, g2, _⟩ := three_of_block hxW
          have HW3 := Lib.hid hw3
          have HWW := Lib.hid hW
          have HZW := Lib.hid hzW
          clear hzW
          replace e0 := (hb3.cell (p := ⟨b, off, none⟩) (by show b < _; omega)).trans e0
          replace e1 := (hb3.cell (p := ⟨b, off + 1, none⟩) (by show b < _; omega)).trans e1
          replace e2 := (hb3.cell (p := ⟨b, off + 2, none⟩) (by show b < _; omega)).trans e2
          have hq : Below wr.heap.size wr W := (hb2.trans (hb3.mono hz2)).trans (hbW.mono hz2)
          have HOW := Lib.hid (ownsRow_below HO.out hq)
          have hbw := hb.trans (hq.mono hbz)
          have HTW := Lib.hid ((HT.out.below (hq.mono hbz)))
          have HBW := Lib.hid ((HA.out.below (hq.mono hbz)))
          have hi1 : (0 : Int) < (r.length : Int) + 1 := by omega
          have hi2 : (1 : Int) ≤ (r.length : Int) + 1 := by omega
          have hi3 : (r.length : Int) + 1 ≤ (c2 : Int) := by simp at k3; omega
          clear hw3 hW hx hxW
          go_wp2_with fail
          rw [← HW3.out]
          go_region
          rw [← HWW.out]
          generalize hA1 : (if c2 = 1 then some (⟨b, off, none⟩ : Addr) else some ⟨b, off + 3, none⟩) = A3
          have HRA1 := Lib.hid (HTW.out.cut1 (c := c2) (by simp at k3; omega) A3 (fun hne => by rw [← hA1, if_neg hne]))
          clear hA1 e0 e1 e2
          go_wp2_with (go_at_call 63; refine (keepM01 _).mono ?_; rintro e w' ⟨rfl, rfl⟩)
          go_roundg ((x :: rx).length + r.length)
          case measure => rw [HG.out]; simp only [List.length_cons]; omega
          case rel => exact ⟨A1, A3, c1, c2 - 1, (x :: rx), r, out, rfl, rfl, rfl, k1, k2, by simp at k3; omega, by omega, HBW.out, HRA1.out, by rw [HM.out, HMU.out], by simp at hlen ⊢; omega, HOW.out, by first | exact hbw | exact below_drew hbw | exact below_drew (below_drew hbw)⟩
    · have h1 : ra = [] := List.eq_nil_of_length_eq_zero (by omega)
      have h2 : rb = [] := List.eq_nil_of_length_eq_zero (by omega)
      subst h1
      subst h2
      go_wp2
      go_ret
      have hfin := HM.out
      simp only [mergeM, List.append_nil] at hfin
      exact ⟨_, rfl, by rw [hfin]; exact HO.out, hb⟩
end Go.Proofs.YtlhnhkfkbmfikaaGreatDoor

/- Minus at valid nets; plain mathematics of what is left. -/
namespace Go.Proofs.YtlhnhkfkbmfikaaGreatDoor
open Go.RowKit

def MinPost (l l' : List Ck.Bar) (w : World) (e : Ending) (w' : World) : Prop :=
  ∃ v, e = .returned (.tuple #[v, .int .i64 0]) ∧ w'.ownsRow w.heap.size 65 3 v (mergeM l l').length (bcellsL (mergeM l l')) ∧ Below w.heap.size w w'

set_option maxHeartbeats 2000000 in
set_option maxRecDepth 100000 in
theorem netMergedM (A A' : Option Addr) (c c' : Nat) (l l' : List Ck.Bar) (w : World) (hl : l.length ≤ 4096) (hl' : l'.length ≤ 4096) (hc : l.length ≤ c) (hcm : c ≤ maxLen) (hc' : l'.length ≤ c') (hcm' : c' ≤ maxLen) (hN : Ck.Net l) (hN' : Ck.Net l') (h : RB w w.heap.size A l) (h' : RB w w.heap.size A' l') :
    Calls Tryz.prog 62 #[.slice A l.length c, .slice A' l'.length c', .func (.func 63) #[] #[]] w (MinPost l l' w) := by
  have HR := Lib.hid h
  have HR' := Lib.hid h'
  have HE := Lib.hid ((netE_zero l).2 ⟨hl, hN⟩)
  have HE' := Lib.hid ((netE_zero l').2 ⟨hl', hN'⟩)
  clear h h' hN hN'
  go_enter Tryz.func62, Tryz.ntmps62
  go_wp2_with fail
  refine (netCheckNet A c l _ hl hc hcm HR.out).mono ?_
  rintro e w1 ⟨rfl, hb1⟩
  rw [HE.out]
  go_wp2_with fail
  refine (netCheckNet A' c' l' _ hl' hc' hcm' ((HR'.out.below hb1).more hb1.size)).mono ?_
  rintro e w2 ⟨rfl, hb2⟩
  rw [HE'.out]
  have hq2 := hb1.trans (hb2.mono hb1.size)
  go_wp2_with fail
  refine (netFirst2 _ _ 0 0 24 _ (by exact heap_alloc_new _ _)).mono ?_
  rintro e w3 ⟨rfl, rfl⟩
  rw [show firstE [0, 0] = 0 from rfl]
  have hq3 := hq2.alloc hq2.size (.cells #[.int .i64 0, .int .i64 0] 24)
  go_wp2_with fail
  refine (netMergeM A A' c c' l l' _ hl hl' hc hcm hc' hcm' ((HR.out.below hq3).more hq3.size) ((HR'.out.below hq3).more hq3.size)).mono ?_
  rintro e w4 ⟨v, rfl, hown, hb4⟩
  have HO := Lib.hid (ownsRow_mono hown hq3.size)
  clear hown
  go_wp2
  go_ret2
  exact ⟨v, rfl, HO.out, hq3.trans (hb4.mono hq3.size)⟩

set_option maxHeartbeats 2000000 in
set_option maxRecDepth 100000 in
theorem netMinus (A A' : Option Addr) (c c' : Nat) (l l' : List Ck.Bar) (w : World) (hl : l.length ≤ 4096) (hl' : l'.length ≤ 4096) (hc : l.length ≤ c) (hcm : c ≤ maxLen) (hc' : l'.length ≤ c') (hcm' : c' ≤ maxLen) (hN : Ck.Net l) (hN' : Ck.Net l') (h : RB w w.heap.size A l) (h' : RB w w.heap.size A' l') :
    Calls Tryz.prog 25 #[.slice A l.length c, .slice A' l'.length c'] w (MinPost l l' w) := by
  have ex0 : ∀ (a b : Value) (w : World), (Instr.extract (.tuple #[a, b]) 0).run Tryz.prog w = .ok a w := fun _ _ _ => by kernel_rfl
  have ex1 : ∀ (a b : Value) (w : World), (Instr.extract (.tuple #[a, b]) 1).run Tryz.prog w = .ok b w := fun _ _ _ => by kernel_rfl
  go_enter Tryz.func25, Tryz.ntmps25
  go_wp2_with fail
  refine (netMergedM A A' c c' l l' _ hl hl' hc hcm hc' hcm' hN hN' h h').mono ?_
  rintro e w1 ⟨v, rfl, hown, hb1⟩
  obtain ⟨a, cv, rfl, _, _⟩ := own_slice hown
  have HO := Lib.hid hown
  clear hown
  generalize hn : (mergeM l l').length = n
  have HN := Lib.hid hn
  clear hn
  go_wp2
  go_ret2
  exact ⟨.slice a n cv, rfl, by have h9 := HO.out; rw [HN.out] at h9 ⊢; exact h9, hb1⟩


open Ck
theorem mergeM_one_lt {x : Bar} {l : List Bar} (h : ∀ b ∈ l, Blt x b) : mergeM l [x] = l := by
  cases l with
  | nil => simp [mergeM]
  | cons b r =>
    have hb := h b (by simp)
    have h1 : ¬ cmpB b x < 0 := fun hh => (hb.trans ((cmpB_lt_iff b x).1 hh)).irrefl
    have h2 : 0 < cmpB b x := by
      have h0 : cmpB b x ≠ 0 := fun e => by have := (cmpB_zero b x).1 e; subst this; exact hb.irrefl
      omega
    rw [mergeM, if_neg h1, if_pos h2, mergeM_nil]
/-- One bar less: the bar is taken out of the list. -/
theorem mergeM_one {x : Bar} : ∀ {l : List Bar}, l.Pairwise Blt → mergeM l [x] = l.filter (fun b => decide (b ≠ x))
  | [], _ => by simp [mergeM]
  | b :: r, h => by
    obtain ⟨h1, h2⟩ := List.pairwise_cons.1 h
    rcases Blt.tri b x with hb | hb | hb
    · rw [mergeM, if_pos ((cmpB_lt_iff b x).2 hb), mergeM_one h2, List.filter_cons_of_pos]
      have : b ≠ x := fun e => by subst e; exact hb.irrefl
      simpa using this
    · subst hb
      have e0 := (cmpB_zero b b).2 rfl
      rw [mergeM, if_neg (by omega), if_neg (by omega), mergeM_nil]
      rw [List.filter_cons_of_neg (by simp), List.filter_eq_self.2]
      intro c hc
      have : c ≠ b := fun e => by subst e; exact (h1 c hc).irrefl
      simpa using this
    · rw [mergeM_one_lt (fun c hc => by rcases List.mem_cons.1 hc with rfl | hc; exact hb; exact hb.trans (h1 c hc)), List.filter_eq_self.2]
      intro c hc
      have : c ≠ x := by
        rintro rfl
        rcases List.mem_cons.1 hc with e | hc
        · subst e; exact hb.irrefl
        · exact (hb.trans (h1 c hc)).irrefl
      simpa using this
theorem sorted_unique : ∀ {l l' : List Bar}, l.Pairwise Blt → l'.Pairwise Blt → (∀ b, b ∈ l ↔ b ∈ l') → l = l'
  | [], [], _, _, _ => rfl
  | [], b :: r', _, _, h => absurd ((h b).2 (by simp)) (by simp)
  | a :: r, [], _, _, h => absurd ((h a).1 (by simp)) (by simp)
  | a :: r, b :: r', h1, h2, h => by
    obtain ⟨k1, k2⟩ := List.pairwise_cons.1 h1
    obtain ⟨m1, m2⟩ := List.pairwise_cons.1 h2
    have e : a = b := by
      rcases List.mem_cons.1 ((h a).1 (by simp)) with e | e
      · exact e
      · rcases List.mem_cons.1 ((h b).2 (by simp)) with e' | e'
        · exact e'.symm
        · exact ((m1 a e).trans (k1 b e')).irrefl.elim
    subst e
    rw [sorted_unique k2 m2 fun c => ?_]
    constructor
    · intro hc
      rcases List.mem_cons.1 ((h c).1 (by simp [hc])) with e | e
      · subst e; exact (k1 c hc).irrefl.elim
      · exact e
    · intro hc
      rcases List.mem_cons.1 ((h c).2 (by simp [hc])) with e | e
      · subst e; exact (m1 c hc).irrefl.elim
      · exact e
/-- Put back, the bar stands where it stood. -/
theorem mergeU_one {x : Bar} {l : List Bar} (h : l.Pairwise Blt) (hx : x ∈ l) : mergeU (l.filter (fun b => decide (b ≠ x))) [x] = l := by
  refine sorted_unique (mergeU_sorted _ _ (h.filter _) (by simp)) h fun b => ?_
  rw [mergeU_mem, List.mem_filter]
  constructor
  · rintro (⟨h1, _⟩ | h1)
    · exact h1
    · simp at h1; subst h1; exact hx
  · intro hb
    by_cases e : b = x
    · exact .inr (by simp [e])
    · exact .inl ⟨hb, by simpa using e⟩
theorem filter_length {x : Bar} {l : List Bar} (h : l.Pairwise Blt) (hx : x ∈ l) : (l.filter (fun b => decide (b ≠ x))).length + 1 = l.length := by
  induction l with
  | nil => simp at hx
  | cons b r ih =>
    obtain ⟨h1, h2⟩ := List.pairwise_cons.1 h
    by_cases e : b = x
    · subst e
      rw [List.filter_cons_of_neg (by simp), List.filter_eq_self.2]
      · rfl
      · intro c hc
        have : c ≠ b := fun e => by subst e; exact (h1 c hc).irrefl
        simpa using this
    · rw [List.filter_cons_of_pos (by simpa using e)]
      have := ih h2 (by rcases List.mem_cons.1 hx with rfl | hx; exact absurd rfl e; exact hx)
      simp only [List.length_cons]; omega
end Go.Proofs.YtlhnhkfkbmfikaaGreatDoor

/- A sheet is a net: plain mathematics. -/
namespace Go.Proofs.YtlhnhkfkbmfikaaGreatDoor
open Ck

theorem cell_mem {x y : Int} {r c : Nat} {b : Bar} (h : b ∈ cellL x y r c) :
    (b.y = y + (r : Int)) ∧ ((r % 2 = 1 ∧ b.x = x + 2 * (c : Int) + 1 ∧ (b.s = -1 ∨ b.s = 1)) ∨ (r % 2 = 0 ∧ (b.x = x + 2 * (c : Int) ∧ b.s = 1 ∨ b.x = x + 2 * (c : Int) + 2 ∧ b.s = -1))) := by
  unfold cellL cel0 cel1 oddB at h
  by_cases ho : r % 2 = 1
  · simp [ho] at h
    rcases h with rfl | rfl
    · exact ⟨rfl, .inl ⟨ho, rfl, .inl rfl⟩⟩
    · exact ⟨rfl, .inl ⟨ho, rfl, .inr rfl⟩⟩
  · have h0 : r % 2 = 0 := by omega
    simp [h0] at h
    rcases h with rfl | rfl
    · exact ⟨rfl, .inr ⟨h0, .inl ⟨rfl, rfl⟩⟩⟩
    · exact ⟨rfl, .inr ⟨h0, .inr ⟨rfl, rfl⟩⟩⟩
theorem cell_pair (x y : Int) (r c : Nat) : (cellL x y r c).Pairwise Blt := by
  unfold cellL cel0 cel1
  cases oddB r <;> simp [Blt] <;> omega
theorem row_mem {x y : Int} {r k : Nat} {b : Bar} (h : b ∈ rowL x y r k) : ∃ c, c < k ∧ b ∈ cellL x y r c := by
  obtain ⟨c, hc, hb⟩ := List.mem_flatMap.1 h
  exact ⟨c, List.mem_range.1 hc, hb⟩
theorem row_pair (x y : Int) (r : Nat) : ∀ k, (rowL x y r k).Pairwise Blt
  | 0 => by simp [rowL]
  | k + 1 => by
    rw [rowL_succ]
    refine List.pairwise_append.2 ⟨row_pair x y r k, cell_pair x y r k, fun a ha b hb => ?_⟩
    obtain ⟨c, hc, ha⟩ := row_mem ha
    obtain ⟨h1, h2⟩ := cell_mem ha
    obtain ⟨k1, k2⟩ := cell_mem hb
    unfold Blt
    omega
theorem sheet_mem {x y : Int} {cols r : Nat} {b : Bar} (h : b ∈ sheetP x y cols r) : ∃ q, q < r ∧ ∃ c, c < cols ∧ b ∈ cellL x y q c := by
  obtain ⟨q, hq, hb⟩ := List.mem_flatMap.1 h
  exact ⟨q, List.mem_range.1 hq, row_mem hb⟩
theorem sheet_pair (x y : Int) (cols : Nat) : ∀ r, (sheetP x y cols r).Pairwise Blt
  | 0 => by simp [sheetP]
  | r + 1 => by
    rw [sheetP_succ]
    refine List.pairwise_append.2 ⟨sheet_pair x y cols r, row_pair x y r cols, fun a ha b hb => ?_⟩
    obtain ⟨q, hq, c, hc, ha⟩ := sheet_mem ha
    obtain ⟨c', hc', hb⟩ := row_mem hb
    have h1 := (cell_mem ha).1
    have h2 := (cell_mem hb).1
    unfold Blt
    omega
theorem sheet_net {x y : Int} {cols rows : Nat} (hk : okKnot ⟨x, y⟩) (hx : inPlace (x + 2 * (cols : Int))) (hy : inPlace (y + (rows : Int))) : Net (sheetP x y cols rows) := by
  refine ⟨fun b hb => ?_, sheet_pair x y cols rows⟩
  obtain ⟨q, hq, c, hc, hb⟩ := sheet_mem hb
  obtain ⟨h1, h2⟩ := cell_mem hb
  obtain ⟨⟨k1, k2⟩, ⟨k3, k4⟩, k5⟩ := hk
  unfold inPlace at hx hy
  simp only [okBar, okKnot, Bar.lo, Bar.hi, inPlace]
  simp only at k1 k2 k3 k4 k5
  omega
end Go.Proofs.YtlhnhkfkbmfikaaGreatDoor

/- The sort of the library laid (knots) at this program, at bars and at knots. -/
namespace Go.Proofs.YtlhnhkfkbmfikaaGreatDoor
open Go.Shelf
def Tryz.sortK_ren : Go.Shelf.Ren := ⟨fun | 6 => 75 | 15 => 106 | 14 => 105 | 28 => 130 | 29 => 131 | 20 => 122 | 21 => 123 | 22 => 124 | 23 => 125 | 24 => 126 | 25 => 127 | 26 => 128 | 27 => 129 | 46 => 153 | 47 => 154 | 48 => 155 | 49 => 156 | 50 => 157 | 57 => 176 | n => n, fun | 22 => 41 | 24 => 33 | 25 => 92 | 3 => 3 | 39 => 162 | 0 => 0 | 53 => 180 | 55 => 182 | 4 => 4 | 46 => 174 | 45 => 173 | 50 => 144 | 5 => 5 | 9 => 9 | 66 => 197 | 70 => 201 | 76 => 218 | 77 => 219 | n => n, fun | n => n⟩
theorem Tryz.sortK : Go.Proofs.SlLaysF0.n6 Tryz.prog Tryz.sortK_ren := {
  mixed := by kernel_rfl,
  f6 := ⟨Tryz.f75.name, by decide, Tryz.func75.trans (congrArg some (by kernel_rfl))⟩,
  f14 := ⟨Tryz.f105.name, by decide, Tryz.func105.trans (congrArg some (by kernel_rfl))⟩,
  f15 := Tryz.func106.trans (congrArg some (by kernel_rfl)),
  f20 := ⟨Tryz.f122.name, by decide, Tryz.func122.trans (congrArg some (by kernel_rfl))⟩,
  f21 := ⟨Tryz.f123.name, by decide, Tryz.func123.trans (congrArg some (by kernel_rfl))⟩,
  f22 := ⟨Tryz.f124.name, by decide, Tryz.func124.trans (congrArg some (by kernel_rfl))⟩,
  f23 := ⟨Tryz.f125.name, by decide, Tryz.func125.trans (congrArg some (by kernel_rfl))⟩,
  f24 := ⟨Tryz.f126.name, by decide, Tryz.func126.trans (congrArg some (by kernel_rfl))⟩,
  f25 := ⟨Tryz.f127.name, by decide, Tryz.func127.trans (congrArg some (by kernel_rfl))⟩,
  f26 := ⟨Tryz.f128.name, by decide, Tryz.func128.trans (congrArg some (by kernel_rfl))⟩,
  f27 := ⟨Tryz.f129.name, by decide, Tryz.func129.trans (congrArg some (by kernel_rfl))⟩,
  f28 := Tryz.func130.trans (congrArg some (by kernel_rfl)),
  f29 := Tryz.func131.trans (congrArg some (by kernel_rfl)),
  f46 := ⟨Tryz.f153.name, by decide, Tryz.func153.trans (congrArg some (by kernel_rfl))⟩,
  f47 := Tryz.func154.trans (congrArg some (by kernel_rfl)),
  f48 := Tryz.func155.trans (congrArg some (by kernel_rfl)),
  f49 := ⟨Tryz.f156.name, by decide, Tryz.func156.trans (congrArg some (by kernel_rfl))⟩,
  f50 := ⟨Tryz.f157.name, by decide, Tryz.func157.trans (congrArg some (by kernel_rfl))⟩,
  f57 := ⟨Tryz.f176.name, by decide, Tryz.func176.trans (congrArg some (by kernel_rfl))⟩,
  t0 := Tryz.underlying0,
  a0 := Tryz.isAgg0,
  z0 := Tryz.sizeOf0,
  v0 := Tryz.zeroValue0,
  t3 := Tryz.underlying3,
  a3 := Tryz.isAgg3,
  z3 := Tryz.sizeOf3,
  v3 := Tryz.zeroValue3,
  t4 := Tryz.underlying4,
  a4 := Tryz.isAgg4,
  z4 := Tryz.sizeOf4,
  v4 := Tryz.zeroValue4,
  t5 := Tryz.underlying5,
  a5 := Tryz.isAgg5,
  z5 := Tryz.sizeOf5,
  v5 := Tryz.zeroValue5,
  t9 := Tryz.underlying9,
  a9 := Tryz.isAgg9,
  z9 := Tryz.sizeOf9,
  v9 := Tryz.zeroValue9,
  t22 := Tryz.underlying41,
  a22 := Tryz.isAgg41,
  z22 := Tryz.sizeOf41,
  v22 := Tryz.zeroValue41,
  t25 := Tryz.underlying92,
  a25 := Tryz.isAgg92,
  z25 := Tryz.sizeOf92,
  v25 := Tryz.zeroValue92,
  t39 := Tryz.underlying162,
  a39 := Tryz.isAgg162,
  z39 := Tryz.sizeOf162,
  v39 := Tryz.zeroValue162,
  t45 := Tryz.underlying173,
  a45 := Tryz.isAgg173,
  z45 := Tryz.sizeOf173,
  v45 := Tryz.zeroValue173,
  t46 := Tryz.underlying174,
  a46 := Tryz.isAgg174,
  z46 := Tryz.sizeOf174,
  v46 := Tryz.zeroValue174,
  t50 := Tryz.underlying144,
  a50 := Tryz.isAgg144,
  z50 := Tryz.sizeOf144,
  v50 := Tryz.zeroValue144,
  t53 := Tryz.underlying180,
  a53 := Tryz.isAgg180,
  z53 := Tryz.sizeOf180,
  v53 := Tryz.zeroValue180,
  t55 := Tryz.underlying182,
  a55 := Tryz.isAgg182,
  z55 := Tryz.sizeOf182,
  v55 := Tryz.zeroValue182,
  t66 := Tryz.underlying197,
  a66 := Tryz.isAgg197,
  z66 := Tryz.sizeOf197,
  v66 := Tryz.zeroValue197,
  t70 := Tryz.underlying201,
  a70 := Tryz.isAgg201,
  z70 := Tryz.sizeOf201,
  v70 := Tryz.zeroValue201,
  t76 := Tryz.underlying218,
  a76 := Tryz.isAgg218,
  z76 := Tryz.sizeOf218,
  v76 := Tryz.zeroValue218,
  t77 := Tryz.underlying219,
  a77 := Tryz.isAgg219,
  z77 := Tryz.sizeOf219,
  v77 := Tryz.zeroValue219 }
end Go.Proofs.YtlhnhkfkbmfikaaGreatDoor

/- The iterator of a map's keys, for knots. -/
namespace Go.Proofs.YtlhnhkfkbmfikaaGreatDoor
open Go.RowKit Go.ChangeMaps Go.MapKept Go.Shelf

def knotArr (k : Ck.Knot) : Array Value := #[.agg #[.int .i64 k.x, .int .i64 k.y]]

set_option maxRecDepth 100000 in
set_option maxHeartbeats 1000000 in
theorem keys1_in (F : Fence) (n : Nat) (h54 : F.fn 76) (hro : F.round = none) (hn : 1 ≤ n) (l Bm b : Nat) (m : List (Ck.Knot × Int)) (J Jx : List Ck.Knot → World → Prop)
    (hY : ∀ pre x W, J pre W → pre.length < m.length → YieldAt F (n - 1) Tryz.prog l (knotArr x) W fun e W' =>
      (e = .returned (.bool true) ∧ J (pre ++ [x]) W' ∧ KeepsWalks W W') ∨ (e = .returned (.bool false) ∧ Jx (pre ++ [x]) W'))
    (W : World) (hJ : AbidesFrom W.heap.size J) (hm : W.cell? ⟨Bm, 0, none⟩ = some (.map (some b))) (hown : MIs W b m) (h0 : J [] W) :
    CallsIn F n Tryz.prog 76 #[.func (.yield l) #[] #[], .pointer (some ⟨Bm, 0, none⟩)] W fun e W' => (∃ v, e = .returned v) ∧
      ((∃ ss : List Ck.Knot, (ss.Nodup ∧ ∀ k, k ∈ ss ↔ k ∈ m.map (·.1)) ∧ J ss W') ∨ (∃ pre : List Ck.Knot, True ∧ Jx pre W')) := by
  refine callsIn_of_wp Tryz.func76 rfl h54 ?_ hro
  simp only [Tryz.ntmps76, List.size_toArray, List.length_cons, List.length_nil, Nat.reduceAdd, Nat.reduceSub, Array.replicate_succ, Array.replicate_zero, List.push_toArray, List.append_toArray, List.nil_append, List.cons_append]
  gi_wp2_with (first
    | (gi_at_range; refine wpListIn_range_knots _ rfl _ rfl b m rfl hown ?_; intro w0 hrg0 hg0 hs0)
    | gi_in)
  go_frame
  gi_loopw [3] (fun _ wr => ∃ ss : List Ck.Knot, KRange wr b W.heap.size m ss ∧ J ss wr)
    (fun _ wr => wr.rangeLeft b W.heap.size)
  case atStart =>
    exact ⟨[], hrg0, hJ [] W w0 none h0 hg0 (fun r e => by cases e)⟩
  case round =>
    obtain ⟨ss, hrg, hJs⟩ := hrel
    gi_wp2_with (first
      | (gi_at_next; refine wpListIn_next_knots _ rfl _ rfl b W.heap.size m ss rfl hrg ?_ ?_)
      | gi_in)
    · intro hl0
      gi_wp2
      go_end0
      exact ⟨⟨_, rfl⟩, .inl ⟨ss, ⟨hrg.nodup, hl0⟩, hJs⟩⟩
    · intro k c w2 hk hnk hrg2 hlt hg2 hs2 hen
      have hJ2 : J ss w2 := hJ ss wr w2 (some W.heap.size) hJs hg2 (fun r e => by cases e; exact ⟨Nat.le_refl _, hrg.iter_walk⟩)
      have hJ3 : J ss (w2.alloc (.cells #[.int .i64 k.x, .int .i64 k.y] 33)) := hJ ss w2 _ none hJ2 (World.grownBy_alloc w2 _ none) (fun r e => by cases e)
      have hlen : ss.length < m.length := hrg.lt_of_new hk hnk
      obtain ⟨fn, tmps, assign, body, hy, hR⟩ := hY ss k _ hJ3 hlen
      have HG2 := Lib.hid hg2
      have HL := Lib.hid hlt
      have HR2 := Lib.hid hrg2
      clear hs2 hg2 hlt hrg2
      dsimp only [knotArr] at hy
      gi_wp2
      refine hR.mono ?_
      rintro e W3 (⟨rfl, hJ4, hk3⟩ | ⟨rfl, hJx3⟩)
      · gi_wp2
        have hk4 := (KeepsWalks.alloc w2 (.cells #[.int .i64 k.x, .int .i64 k.y] 33)).trans hk3
        go_roundw
        case rel => exact ⟨ss ++ [k], HR2.out.of_walks hk4, hJ4⟩
        case measure => rw [HR2.out.left_eq hk4]; exact HL.out
      · gi_wp2
        refine bodyPost_ret (results_none rfl _ _ _) rfl ?_
        exact ⟨⟨_, rfl⟩, .inr ⟨ss ++ [k], trivial, hJx3⟩⟩

theorem keys_stops (F : Fence) (n : Nat) (h54 : F.fn 76) (hro : F.round = none) (hn : 1 ≤ n) (Bm b : Nat) (m : List (Ck.Knot × Int)) (w : World) (hBm : Bm < w.heap.size)
    (hm : w.cell? ⟨Bm, 0, none⟩ = some (.map (some b))) (hown : MIs w b m) :
    SeqStopsK F n Tryz.prog 76 #[.pointer (some ⟨Bm, 0, none⟩)] knotArr KeepsWalks (fun ss => ss.Nodup ∧ ∀ k, k ∈ ss ↔ k ∈ m.map (·.1)) (fun _ => True) m.length w := fun l J Jx W hW hJ _ hY h0 =>
  keys1_in F n h54 hro hn l Bm b m J Jx hY W hJ ((hW.cell (p := ⟨Bm, 0, none⟩) hBm).trans hm) (hown.below hW hown.lt) h0

theorem keys_any (mb : Option Nat) (w : World) :
    Calls Tryz.prog 46 #[.map mb] w fun e w' => e = .returned (.func (.func 76) #[] #[.pointer (some ⟨w.heap.size, 0, none⟩)]) ∧ w' = w.alloc (.cells #[.map mb] 90) := by
  go_enter Tryz.func46, Tryz.ntmps46
  go_wp2
  go_ret
  exact ⟨rfl, rfl⟩
end Go.Proofs.YtlhnhkfkbmfikaaGreatDoor

/- AppendSeq, Collect at knots, of whatever iterator. -/
namespace Go.Proofs.YtlhnhkfkbmfikaaGreatDoor
open Go.RowKit Go.ChangeMaps Go.MapKept Go.Shelf
attribute [local go_sem] Oper.semAt_some

/-- A box of two cells. -/
def Box2 (W : World) (B : Nat) (t : TypeId) (a b : Value) : Prop := W.heap[B]? = some (.cells #[a, b] t (0, 0))
theorem Box2.cells {W : World} {B : Nat} {t : TypeId} {a b : Value} (h : Box2 W B t a b) : W.cell? ⟨B, 0, none⟩ = some a ∧ W.cell? ⟨B, 1, none⟩ = some b ∧ B < W.heap.size := by
  refine ⟨?_, ?_, (Array.getElem?_eq_some_iff.1 h).1⟩ <;> simp [World.cell?, show W.heap[B]? = _ from h]
theorem Box2.new (W : World) (t : TypeId) (a b : Value) : Box2 (W.alloc (.cells #[a, b] t)) W.heap.size t a b := World.alloc_heap_new W _
theorem box2_own (B : Nat) (t : TypeId) (a b : Value) : Own (fun (_ : Unit) W => Box2 W B t a b) := fun s X Y row hs hg hrow =>
  (hg.block B (Array.getElem?_eq_some_iff.1 hs).1 (fun e' => by obtain ⟨o, ho, hc⟩ := hrow B e'.symm; rw [show X.heap[B]? = _ from hs] at ho; cases ho; cases hc)).trans hs

set_option maxRecDepth 100000 in
set_option maxHeartbeats 2000000 in
theorem appendSeq_in (F : Fence) (n : Nat) (h71 : F.fn 104) (hro : F.round = none) (hn : 2 ≤ n) (g : Nat) (lb : Array Value) (hFg : F.fn g) (eg : ∀ args w, (callFunc g args).run Tryz.prog w = .ok (.enter g args) w)
    (S Sp : List Ck.Knot → Prop) (N : Nat) (hN : N ≤ 100000) (w : World) (hseq : SeqStopsK F (n - 1) Tryz.prog g lb knotArr KeepsWalks S Sp N w) :
    CallsIn F n Tryz.prog 104 #[.slice none 0 0, .func (.func g) #[] lb] w fun e w' => ∃ (v : Value) (ss : List Ck.Knot), e = .returned v ∧ S ss ∧ w'.ownsRow w.heap.size 33 2 v ss.length (kcellsL ss) ∧ Below w.heap.size w w' := by
  have h1 : 1 ≤ n := by omega
  obtain ⟨i0, hi, hz0, hz1, hz2⟩ := info_parts Tryz.info33
  refine callsIn_of_wp_marks Tryz.func104 rfl h71 ?_ hro
  simp only [Tryz.ntmps104, List.size_toArray, List.length_cons, List.length_nil, Nat.reduceAdd, Nat.reduceSub, Array.replicate_succ, Array.replicate_zero, List.push_toArray, List.append_toArray, List.nil_append, List.cons_append]
  gi_wp2
  have bO := Boxed.new w 41 (.slice none 0 0)
  have hB0 : Below w.heap.size w (w.alloc (.cells #[.slice none 0 0] 41)) := (Below.refl _ w).alloc (Nat.le_refl _) _
  have hsz : (w.alloc (.cells #[.slice none 0 0] 41)).heap.size = w.heap.size + 1 := by simp
  obtain ⟨W0, hW0⟩ : ∃ W0, w.alloc (.cells #[.slice none 0 0] 41) = W0 := ⟨_, rfl⟩
  rw [hW0] at bO hB0 hsz ⊢
  clear hW0
  refine wpIn_rangeFunc_ownH hro h1 (gf := g) (lb := lb) rfl hFg eg hseq walksK_t (walksK_b (w := W0)) hB0 (fun _ => rfl)
    (fun pre W => (∃ v, Boxed W w.heap.size 41 v ∧ W.ownsRow w.heap.size 33 2 v pre.length (kcellsL pre) ∧ True) ∧ Below w.heap.size w W)
    (fun _ _ _ => False)
    (OwnFrom.and (Own.from (holdsRow_own w.heap.size w.heap.size 41 33 2 (fun pre : List Ck.Knot => pre.length) (fun pre => kcellsL pre) (fun _ _ => True)) _) (ownFrom_below (Nat.le_refl _) (by omega)))
    (fun _ _ _ _ _ hs _ _ => hs)
    ⟨⟨_, bO, World.ownsRow_nil _ _ _ _, trivial⟩, hB0⟩
    (fun x a' W => ∃ Bx, w.heap.size < Bx ∧ Box2 W Bx 33 (.int .i64 x.x) (.int .i64 x.y) ∧ a' = { tmps := #[.slice none 0 0, .func (.func g) #[] lb, .pointer (some ⟨w.heap.size, 0, none⟩), undef, .slice none 0 0, .pointer (some ⟨Bx, 0, none⟩), .func (.func g) #[] lb, .agg #[.int .i64 x.x, .int .i64 x.y], undef, undef, undef, undef, undef], defers := [] })
    (fun x a' _ X Y row hs hg hr => by obtain ⟨Bx, h1, h2, h3⟩ := hs; exact ⟨Bx, h1, box2_own Bx _ _ _ () X Y row h2 hg (fun r e => (hr r e).2), h3⟩)
    ?assign ?body ?done ?stop
  case assign =>
    rintro l pre x W K ⟨⟨v, hv, hrow, -⟩, hB1⟩ hK
    dsimp only [knotArr]
    gi_wp2
    exact hK _ _ ((KeepsOthers.alloc _ _).from _) (KeepsWalks.alloc _ _) ⟨⟨v, hv.alloc _, hrow.alloc _, trivial⟩, hB1.alloc hB1.size _⟩ ⟨W.heap.size, hv.lt, Box2.new W _ _ _, rfl⟩
  case body =>
    rintro l pre x a' W hl ⟨r, hr⟩ ⟨⟨v, hv, hrow, -⟩, hB⟩ ⟨Bx, hBx, bX, rfl⟩ hlt
    have hc := hv.cell
    obtain ⟨x0, x1, xl⟩ := bX.cells
    gi_wp2_with (gi_at_builtin; refine wpListIn_append_own _ rfl _ _ 41 rfl w.heap.size 33 i0 (.agg #[.int .i64 0, .int .i64 0]) 2 16 Tryz.underlying41 hi hz0 hz1 hz2 rfl (by decide) _ _ _ rfl (hrow.alloc _) ⟨W.heap.size, 0, none⟩ 1 1 [.int .i64 x.x, .int .i64 x.y] rfl rfl (two_new _ _ _ _) (by intro u hu; simp at hu; rcases hu with rfl | rfl <;> rfl) (by unfold maxLen; omega) (by omega) (by have := hB.size; simp; omega) ?_; intro v' w1 hown' hgrow _; obtain ⟨g', cap', rfl⟩ := ownsRow_succ hown'; obtain ⟨hv1, hv2, hr2, hk2, hb2⟩ := hv.appended (by decide) hrow hB.size (Nat.le_refl _) hown' hgrow; have hc1 := hv1.cell; have hf1 := hv1.frozen)
    exact ⟨hk2.from _, hk2.walks, ⟨_, hv2, by rw [kcellsL_snoc]; simpa using hr2, trivial⟩, hB.trans hb2⟩
  case done =>
    rintro D ys W hD hS ⟨⟨v, hv, hrow, -⟩, hB⟩ hK
    have hc := hv.cell
    gi_wp2
    refine ⟨by simp, .inl ⟨_, _, rfl, run_takeDeferred hK, ?_⟩⟩
    exact ⟨_, results_tmp rfl _ _ _, v, ys, rfl, hS, ownsRow_putObj hrow _ hK rfl, hB.trans (belowK_b (w := w) (Nat.le_refl _) W D _ _ (by omega) hK rfl rfl)⟩
  case stop =>
    rintro D c pre W _ _ h _
    exact h.elim

set_option maxHeartbeats 1000000 in
theorem collect_in (F : Fence) (n : Nat) (h52 : F.fn 74) (h71 : F.fn 104) (hro : F.round = none) (hn : 3 ≤ n) (g : Nat) (lb : Array Value) (hFg : F.fn g) (eg : ∀ args w, (callFunc g args).run Tryz.prog w = .ok (.enter g args) w)
    (S Sp : List Ck.Knot → Prop) (N : Nat) (hN : N ≤ 100000) (w : World) (hseq : SeqStopsK F (n - 1 - 1) Tryz.prog g lb knotArr KeepsWalks S Sp N w) :
    CallsIn F n Tryz.prog 74 #[.func (.func g) #[] lb] w fun e w' => ∃ (v : Value) (ss : List Ck.Knot), e = .returned v ∧ S ss ∧ w'.ownsRow w.heap.size 33 2 v ss.length (kcellsL ss) ∧ Below w.heap.size w w' := by
  have h1 : 1 ≤ n := by omega
  refine callsIn_of_wp Tryz.func74 rfl h52 ?_ hro
  simp only [Tryz.ntmps74, List.size_toArray, List.length_cons, List.length_nil, Nat.reduceAdd, Nat.reduceSub, Array.replicate_succ, Array.replicate_zero, List.push_toArray, List.append_toArray, List.nil_append, List.cons_append]
  gi_wp2_with (gi_at_call 104; refine (appendSeq_in F (n - 1) h71 hro (by omega) g lb hFg eg S Sp N hN _ hseq).mono ?_; rintro e w' ⟨v, ss, rfl, hS, hrow, hb⟩)
  go_ret
  exact ⟨v, ss, rfl, hS, hrow, hb⟩
end Go.Proofs.YtlhnhkfkbmfikaaGreatDoor

/- compareKnots, the library's sort at knots, SortedFunc, Knots. -/
namespace Go.Proofs.YtlhnhkfkbmfikaaGreatDoor
open Go.RowKit Go.Sort Go.Shelf

theorem box22' (w : World) (a b c d : Value) (t t' : TypeId) : ∃ w1, w1 = (w.alloc (.cells #[a, b] t)).alloc (.cells #[c, d] t') ∧ w1.cell? ⟨w.heap.size, 0, none⟩ = some a ∧ w1.cell? ⟨w.heap.size, 1, none⟩ = some b ∧
    w1.cell? ⟨w.heap.size + 1, 0, none⟩ = some c ∧ w1.cell? ⟨w.heap.size + 1, 1, none⟩ = some d := by
  obtain ⟨w0, rfl, h0, h1, _, hz⟩ := box2 w a b t
  have hs : (w.alloc (.cells #[a, b] t)).heap.size = w.heap.size + 1 := by simp
  obtain ⟨w1, rfl, k0, k1, hb, _⟩ := box2 (w.alloc (.cells #[a, b] t)) c d t'
  rw [hs] at k0 k1
  exact ⟨_, rfl, (hb.cell (p := ⟨_, _, none⟩) hz).trans h0, (hb.cell (p := ⟨_, _, none⟩) hz).trans h1, k0, k1⟩
def cmpK (a b : Ck.Knot) : Int := firstE [cmpE a.y b.y, cmpE a.x b.x]
set_option maxHeartbeats 1000000 in
set_option maxRecDepth 100000 in
theorem netCompareKnots (x y x' y' : Int) (w : World) :
    Calls Tryz.prog 48 #[.agg #[.int .i64 x, .int .i64 y], .agg #[.int .i64 x', .int .i64 y']] w fun e w' => e = .returned (.int .i64 (cmpK ⟨x, y⟩ ⟨x', y'⟩)) ∧
      w' = (((w.alloc (.cells #[.int .i64 x, .int .i64 y] 33)).alloc (.cells #[.int .i64 x', .int .i64 y'] 33)).alloc (.cells #[.int .i64 (cmpE y y'), .int .i64 (cmpE x x')] 3)).drew := by
  obtain ⟨w1, hw1, c0, c1, d0, d1⟩ := box22' w (.int .i64 x) (.int .i64 y) (.int .i64 x') (.int .i64 y') 33 33
  rw [← hw1]
  have HW := Lib.hid hw1
  clear hw1
  go_enter Tryz.func48, Tryz.ntmps48
  go_wp2_with fail
  rw [← HW.out]
  refine wp_region_still_tail 10 (by kernel_rfl) (by kernel_rfl) ?_
  simp only [List.take_succ_cons, List.take_zero, List.drop_succ_cons, List.drop_zero]
  repeat (first | still_step | still_call (Calls.mono (cmpCompare _ _ _) fun _ _ h => ⟨h.1, h.2.symm⟩))
  refine wpStill_nil ?_
  change wpList _ _ _ _ _ w1.drew
  go_wp2_with fail
  refine (cmpOr2 _ _ (cmpE y y') (cmpE x x') 3 _ (by exact heap_alloc_new _ _)).mono ?_
  rintro e w2 ⟨rfl, rfl⟩
  go_wp2
  go_ret
  exact ⟨rfl, rfl⟩

def Klt (a b : Ck.Knot) : Prop := a.y < b.y ∨ a.y = b.y ∧ a.x < b.x
instance (a b : Ck.Knot) : Decidable (Klt a b) := by unfold Klt; infer_instance
theorem ltKnots (a b : Ck.Knot) : ltOf cmpK a b = decide (Klt a b) := by
  unfold ltOf
  rw [decide_eq_decide]
  unfold cmpK Klt firstE cmpE
  simp only [firstE]
  repeat' split
  all_goals omega
theorem Klt.tri (a b : Ck.Knot) : Klt a b ∨ a = b ∨ Klt b a := by
  obtain ⟨x, y⟩ := a
  obtain ⟨x', y'⟩ := b
  simp only [Klt, Ck.Knot.mk.injEq]
  omega
theorem swoKnots : SWO (ltOf cmpK) where
  irrefl x := by rw [ltKnots, decide_eq_false_iff_not]; unfold Klt; omega
  trans x y z h1 h2 := by
    rw [ltKnots, decide_eq_true_eq] at *
    unfold Klt at *; omega
  ntrans x y z h1 h2 := by
    rw [ltKnots, decide_eq_false_iff_not] at *
    unfold Klt at *; omega
theorem totKnots (x y : Ck.Knot) (h1 : ltOf cmpK x y = false) (h2 : ltOf cmpK y x = false) : x = y := by
  rw [ltKnots, decide_eq_false_iff_not] at *
  rcases Klt.tri x y with h | h | h
  · exact absurd h h1
  · exact h
  · exact absurd h h2
theorem layKnots (blk off size : Nat) (w : World) : CmpLays Tryz.prog 48 #[] kcells 2 cmpK blk off size w := fun _ _ _ _ x y =>
  (netCompareKnots x.x x.y y.x y.y _).mono fun e w' h => by
    obtain ⟨he, rfl⟩ := h
    exact ⟨he, 1, _, by rw [alloc_eq_grow, alloc_eq_grow, alloc_eq_grow, grow_grow, grow_grow]; rfl⟩
def sortKnots (l : List Ck.Knot) : List Ck.Knot := l.mergeSort fun x y => !(ltOf cmpK) y x
theorem sortKnots_perm (l : List Ck.Knot) : (sortKnots l).Perm l := List.mergeSort_perm l _

theorem netSortKnots (base : Nat) (v : Value) (l : List Ck.Knot) (w : World) (hl : l.length ≤ 100000) (hB : base ≤ w.heap.size) (h : w.ownsRow base 33 2 v l.length (kcellsL l)) :
    Calls Tryz.prog 75 #[v, .func (.func 48) #[] #[]] w fun e w' => e = .returned (.tuple #[]) ∧ w'.ownsRow base 33 2 v l.length (kcellsL (sortKnots l)) ∧ Below base w w' := by
  have eg : ∀ args w, (callFunc 48 args).run Tryz.prog w = .ok (.enter 48 args) w := enters_of Tryz.func48 (by kernel_rfl) rfl
  rcases h.2 with ⟨rfl, hz⟩ | ⟨g, cap, cur, rfl, hbase, hgb, r1, r2, r3, r4⟩
  · have hl0 : l = [] := List.eq_nil_of_length_eq_zero hz
    subst hl0
    have hc := AnyF.slices_SortFunc_none Tryz.sortK none 0 (.func (.func 48) #[] #[]) w
    change Calls Tryz.prog 75 _ _ _ at hc
    exact hc.mono fun e w' ⟨he, hw⟩ => ⟨he, by rw [hw]; exact ⟨by simp [sortKnots, kcellsL], .inl ⟨rfl, rfl⟩⟩, by rw [hw]; exact Below.refl _ _⟩
  · have hH := holdsK_of_row kcells 2 (fun _ => rfl) l hgb (r4.trans rfl)
    have hgl : g < w.heap.size := (Array.getElem?_eq_some_iff.1 hgb).1
    have hc := AnyQ.slices_SortFunc_total Tryz.sortK 2 Tryz.isAgg33 Tryz.sizeOf33 kcells (fun _ => rfl) (fun x v hv => by simp [kcells] at hv; rcases hv with rfl | rfl <;> rfl) cmpK swoKnots 48 #[] g 0 cap l.toArray w eg (layKnots g 0 _ w) hH hgl (by simp; omega) totKnots
    change Calls Tryz.prog 75 _ _ _ at hc
    rw [List.size_toArray] at hc
    refine hc.mono fun e w' ⟨he, n, os, hw⟩ => ?_
    have hs : (l.toArray.toList.mergeSort fun x y => !(ltOf cmpK) y x) = sortKnots l := rfl
    rw [hs] at hw
    have hp := (sortKnots_perm l).length_eq
    obtain ⟨q1, q2⟩ := sorted_owns kcells 2 (fun _ => rfl) (m := n) (os := os) (sortKnots l) hbase hgb (by rw [hp]; exact r1) r2 r3
    rw [hp] at q1
    rw [hw]
    exact ⟨he, q1, q2 hB⟩

/-- SortedFunc of whatever iterator. -/
theorem netSortedFunc (g : Nat) (lb : Array Value) (eg : ∀ args w, (callFunc g args).run Tryz.prog w = .ok (.enter g args) w) (S Sp : List Ck.Knot → Prop) (N : Nat) (hN : N ≤ 100000) (hS : ∀ ss, S ss → ss.length ≤ 100000) (w : World) (hseq : SeqStopsK Fence.wide 1 Tryz.prog g lb knotArr KeepsWalks S Sp N w) :
    Calls Tryz.prog 45 #[.func (.func g) #[] lb, .func (.func 48) #[] #[]] w fun e w' => ∃ (v : Value) (ss : List Ck.Knot), e = .returned v ∧ S ss ∧ w'.ownsRow w.heap.size 33 2 v ss.length (kcellsL (sortKnots ss)) ∧ Below w.heap.size w w' := by
  have hcol := callsIn_wide.1 (collect_in Fence.wide 3 trivial trivial rfl (by omega) g lb trivial eg S Sp N hN w hseq)
  go_enter Tryz.func45, Tryz.ntmps45
  go_wp2_with fail
  refine hcol.mono ?_
  rintro e w1 ⟨v, ss, rfl, hSs, hrow, hb1⟩
  go_wp2_with fail
  refine (netSortKnots w.heap.size v ss _ (hS ss hSs) hb1.size hrow).mono ?_
  rintro e w2 ⟨rfl, hrow2, hb2⟩
  go_wp2
  go_ret
  exact ⟨v, ss, rfl, hSs, hrow2, hb1.trans hb2⟩
end Go.Proofs.YtlhnhkfkbmfikaaGreatDoor

/- The contract of corkCopy at a list that is not empty. -/
namespace Go.Proofs.YtlhnhkfkbmfikaaGreatDoor
open Go.RowKit

end Go.Proofs.YtlhnhkfkbmfikaaGreatDoor

/- The statements' copy and count of the empty list. -/
namespace Go.Proofs.YtlhnhkfkbmfikaaGreatDoor
open Go.RowKit

end Go.Proofs.YtlhnhkfkbmfikaaGreatDoor

/- Contracts of the statements' count of a copy, and of HasKnot. -/
namespace Go.Proofs.YtlhnhkfkbmfikaaGreatDoor
open Go.RowKit

def CorkPost (l : List Ck.Bar) (w : World) (e : Ending) (w' : World) : Prop :=
  ∃ p : Nat, Ck.PartsIs l p ∧ e = .returned (.tuple #[.agg #[.int .i64 (Ck.nK l : Nat), .int .i64 (l.length : Nat), .int .i64 (Ck.nM l : Nat), .int .i64 p, .int .i64 ((l.length : Int) - (Ck.nK l : Nat) + p - (Ck.nM l : Nat))], .bool true]) ∧ Below w.heap.size w w'

end Go.Proofs.YtlhnhkfkbmfikaaGreatDoor

/- The contract of the reference's HasKnot. -/
namespace Go.Proofs.YtlhnhkfkbmfikaaGreatDoor
open Go.RowKit

end Go.Proofs.YtlhnhkfkbmfikaaGreatDoor

/- The contract of corkNet: a valid net with at most 20 bars within 200 units. -/
namespace Go.Proofs.YtlhnhkfkbmfikaaGreatDoor
open Go.RowKit

def nearB (b : Ck.Bar) : Bool := decide (-200 ≤ b.x ∧ b.x ≤ 200 ∧ -200 ≤ b.y ∧ b.y ≤ 200)
def corkB (l : List Ck.Bar) : Bool := decide (netE l = 0) && l.all nearB

end Go.Proofs.YtlhnhkfkbmfikaaGreatDoor

/- The contract of Knots at a valid net. -/
namespace Go.Proofs.YtlhnhkfkbmfikaaGreatDoor
open Go.RowKit Go.Sort Go.Shelf

def KnotsPost (l : List Ck.Bar) (w : World) (e : Ending) (w' : World) : Prop :=
  ∃ (v : Value) (ks : List Ck.Knot), e = .returned (.tuple #[v, .int .i64 0]) ∧ ks.Nodup ∧ (∀ k, k ∈ ks ↔ k ∈ Ck.ends l) ∧ w'.ownsRow w.heap.size 33 2 v ks.length (kcellsL ks) ∧ Below w.heap.size w w'
theorem degs_mem (l : List Ck.Bar) (k : Ck.Knot) : k ∈ (degsL (Ck.ends l)).map (·.1) ↔ k ∈ Ck.ends l := by rw [degsL, degs_keys]; simp

set_option maxHeartbeats 2000000 in
set_option maxRecDepth 100000 in
theorem netKnots (A : Option Addr) (c : Nat) (l : List Ck.Bar) (w : World) (hl : l.length ≤ 4096) (hcap : l.length ≤ c) (hcm : c ≤ maxLen) (hN : Ck.Net l) (h : RB w w.heap.size A l) :
    Calls Tryz.prog 16 #[.slice A l.length c] w (KnotsPost l w) := by
  have HR := Lib.hid h
  have HN := Lib.hid hN
  have HE := Lib.hid ((netE_zero l).2 ⟨hl, hN⟩)
  have hnk := nK_le l
  clear h hN
  go_enter Tryz.func16, Tryz.ntmps16
  go_wp2_with fail
  refine (netCheckNet A c l _ hl hcap hcm HR.out).mono ?_
  rintro e w1 ⟨rfl, hb1⟩
  rw [HE.out]
  go_wp2_with fail
  refine (netDegrees A c l _ hl HN.out.1 ((HR.out.below hb1).more hb1.size)).mono ?_
  rintro e w2 ⟨b, rfl, hbz, hm2, hb2⟩
  have hc2 := hb1.trans (hb2.mono hb1.size)
  have hdl := degs_length hm2
  have hbl := hm2.lt
  have HM := Lib.hid hm2
  clear hm2
  go_wp2_with fail
  refine (keys_any (some b) _).mono ?_
  rintro e w3 ⟨rfl, rfl⟩
  have bM := Boxed.new w2 90 (.map (some b))
  have hb3 : Below w2.heap.size w2 (w2.alloc (.cells #[.map (some b)] 90)) := (Below.refl _ _).alloc (Nat.le_refl _) _
  have hM3 : MIs (w2.alloc (.cells #[.map (some b)] 90)) b (degsL (Ck.ends l)) := HM.out.below hb3 hbl
  have hc3 := hc2.trans (hb3.mono hc2.size)
  have hsz3 : w2.heap.size < (w2.alloc (.cells #[.map (some b)] 90)).heap.size := by simp
  obtain ⟨W3, hW3⟩ : ∃ W3, W3 = w2.alloc (.cells #[.map (some b)] 90) := ⟨_, rfl⟩
  rw [← hW3] at bM hM3 hc3 hsz3
  have HW3 := Lib.hid hW3
  clear hW3 hb3
  have hseq := keys_stops Fence.wide 1 trivial rfl (Nat.le_refl _) w2.heap.size b (degsL (Ck.ends l)) W3 hsz3 bM.cell hM3
  have HDL := Lib.hid hdl
  clear hdl hM3
  go_wp2_with fail
  rw [← HW3.out]
  refine (netSortedFunc _ _ (enters_of Tryz.func76 (by kernel_rfl) rfl) _ _ _ (by rw [HDL.out]; omega) (fun ss hs => by
    have h1 : ss.length ≤ (degsL (Ck.ends l)).length := by
      have := hs.1.length_le_of_subset (l₂ := (degsL (Ck.ends l)).map (·.1)) (fun x hx => (hs.2 x).1 hx)
      rwa [List.length_map] at this
    rw [HDL.out] at h1; omega) _ hseq).mono ?_
  rintro e w4 ⟨v, ss, rfl, hS, hrow, hb4⟩
  have HO := Lib.hid (ownsRow_mono hrow hc3.size)
  have HS := Lib.hid hS
  clear hrow hS hseq
  go_wp2
  go_ret2
  refine ⟨v, sortKnots ss, rfl, (sortKnots_perm ss).nodup_iff.2 HS.out.1, fun k => ?_, ?_, hc3.trans (hb4.mono hc3.size)⟩
  · rw [(sortKnots_perm ss).mem_iff, HS.out.2 k, degs_mem]
  · rw [(sortKnots_perm ss).length_eq]; exact HO.out
end Go.Proofs.YtlhnhkfkbmfikaaGreatDoor

/- Appending nothing, at a step of a region that draws its order. -/
namespace Go.Proofs.YtlhnhkfkbmfikaaGreatDoor
open Go.RowKit

variable {P : Program} {w : World} {ops : Array Oper} {o : Oper} {a : Act} {K : Act → World → Prop} {Q : Exit → Act → World → Prop} {E : Prop}
theorem run_append_zero (base : Nat) (t ty e : TypeId) (i : TypeInfo) (size : Nat) (ht : P.underlying t = some (.slice e)) (hi : P.info? e = some i) (v : Value) (n : Nat) (xs : List Value) (hown : w.ownsRow base e size v n xs) (ad : Addr) (c : Nat) :
    (Builtin.append_ #[t, t] ty #[v, .slice (some ad) 0 c]).run P w = .ok v w := by
  rcases hown.2 with ⟨rfl, rfl⟩ | ⟨g, cap, cur, rfl, _, _, hnc, _⟩
  · simp [Builtin.append_, run_underlying ht, sizeOf, typeInfo, hi, Builtin.lenOf, Builtin.firstCells, loadCells, loadCellsFrom, Result.andThen]
  · simp [Builtin.append_, run_underlying ht, sizeOf, typeInfo, hi, Builtin.lenOf, Builtin.firstCells, hnc, storeCells, loadCells, loadCellsFrom, Result.andThen]
theorem step_append_zero (hgd : o.guard = none) (s x : Operand) (t : TypeId) (ho : o.op = .call { callee := .builtin .append, args := #[s, x], argTypes := #[t, t] })
    (base : Nat) (e : TypeId) (i : TypeInfo) (size : Nat) (ht : P.underlying t = some (.slice e)) (hi : P.info? e = some i) (v : Value) (n : Nat) (xs : List Value) (hs : a.eval s = v) (hown : w.ownsRow base e size v n xs)
    (ad : Addr) (c : Nat) (hx : a.eval x = .slice (some ad) 0 c) (h : K (a.put o.dst v) w) :
    if Region.wanted o (yielded ops a.tmps) = true then Oper.wp P o a w K Q else E := by
  have hw : Region.wanted o (yielded ops a.tmps) = true := by simp [Region.wanted, hgd]
  rw [if_pos hw]
  have hr := run_append_zero (P := P) base t o.type e i size ht hi v n xs hown ad c
  unfold Oper.wp execOp
  simp only [ho, resolve, invoke, builtin, Sem.run_bind, Sem.run_pure, Result.andThen_ok, List.map_toArray, List.map_cons, List.map_nil, hs, hx, hr]
  exact h
theorem step_append_zeroA (hgd : o.guard = none) (s x : Operand) (t : TypeId) (ho : o.op = .call { callee := .builtin .append, args := #[s, x], argTypes := #[t, t] })
    (base : Nat) (e : TypeId) (i : TypeInfo) (size : Nat) (ht : P.underlying t = some (.slice e)) (hi : P.info? e = some i) (v : Value) (n : Nat) (xs : List Value) (hs : a.eval s = v) (hown : w.ownsRow base e size v n xs)
    (A : Option Addr) (c : Nat) (hx : a.eval x = .slice A 0 c) (hA : ∃ ad, A = some ad) (h : K (a.put o.dst v) w) :
    if Region.wanted o (yielded ops a.tmps) = true then Oper.wp P o a w K Q else E := by
  obtain ⟨ad, rfl⟩ := hA
  exact step_append_zero hgd s x t ho base e i size ht hi v n xs hs hown ad c hx h
theorem step_append_none (hgd : o.guard = none) (s x : Operand) (t : TypeId) (ho : o.op = .call { callee := .builtin .append, args := #[s, x], argTypes := #[t, t] })
    (base : Nat) (e : TypeId) (i : TypeInfo) (size : Nat) (ht : P.underlying t = some (.slice e)) (hi : P.info? e = some i) (v : Value) (n : Nat) (xs : List Value) (hs : a.eval s = v) (hown : w.ownsRow base e size v n xs)
    (hx : a.eval x = .slice none 0 0) (h : K (a.put o.dst v) w) :
    if Region.wanted o (yielded ops a.tmps) = true then Oper.wp P o a w K Q else E := by
  have hw : Region.wanted o (yielded ops a.tmps) = true := by simp [Region.wanted, hgd]
  rw [if_pos hw]
  have hr := run_append_owned_none (P := P) (w := w) base t o.type e i size ht hi v n xs hown
  unfold Oper.wp execOp
  simp only [ho, resolve, invoke, builtin, Sem.run_bind, Sem.run_pure, Result.andThen_ok, List.map_toArray, List.map_cons, List.map_nil, hs, hx, hr]
  exact h
end Go.Proofs.YtlhnhkfkbmfikaaGreatDoor

/- The contract of the reference's SameNet at two slices with the same bars, and of CheckSheet. -/
namespace Go.Proofs.YtlhnhkfkbmfikaaGreatDoor
open Go.RowKit

set_option maxHeartbeats 1000000 in
set_option maxRecDepth 100000 in
theorem refSameNet (A A' : Option Addr) (c c' : Nat) (l : List Ck.Bar) (w : World) (hl : l.length ≤ 4096) (h : RB w w.heap.size A l) (h' : RB w w.heap.size A' l) :
    Calls Tryz.prog 23 #[.slice A l.length c, .slice A' l.length c'] w fun e w' => e = .returned (.bool true) ∧ Below w.heap.size w w' := by
  have HR := Lib.hid h
  have HR' := Lib.hid h'
  clear h h'
  have hne : ((l.length : Int) != (l.length : Int)) = false := by simp
  go_enter Tryz.func23, Tryz.ntmps23
  go_wp2_with fail
  go_loopw [5] (fun i wr => ∃ k : Nat, k ≤ l.length ∧ i = .int .i64 k ∧ Below w.heap.size w wr) (fun i _ => l.length - (intOf i).toNat)
  case atStart => exact ⟨0, Nat.zero_le _, rfl, Below.refl _ _⟩
  case round =>
    obtain ⟨k, hk, rfl, hb⟩ := hrel
    by_cases hlt : k < l.length
    · have h := HR.out.below hb
      have h' := HR'.out.below hb
      obtain ⟨b, off, rfl, hB, hc⟩ := h (by omega)
      obtain ⟨b', off', rfl, hB', hc'⟩ := h' (by omega)
      obtain ⟨c0, c1, c2⟩ := hc k hlt
      obtain ⟨d0, d1, d2⟩ := hc' k hlt
      clear hc hc' h h'
      have b1 : (0 : Int) ≤ (k : Int) := by omega
      have b2 : (k : Int) < (l.length : Int) := by omega
      generalize l[k] = x at c0 c1 c2 d0 d1 d2
      go_wp2_with fail
      go_region
      go_wp2_with fail
      go_roundw
      case rel => exact ⟨k + 1, by omega, by go_num, below_drew hb⟩
      case measure => simp [intOf]; omega
    · have e : k = l.length := by omega
      subst e
      go_wp2_with fail
      go_ret
      exact ⟨rfl, hb⟩
end Go.Proofs.YtlhnhkfkbmfikaaGreatDoor
