/- Helpers, part 4. -/
import Derived.Test.YthihjphcjjpjpaaGreatB3
import Derived.Test.YthihjphcjjpjpaaGreatRows
import Derived.Shelf.Strings.Repeat
import Derived.Lib.OthersKept
import Derived.Lib.Strings
import Derived.Deep.RegionHeld3
/- Legs of netting: how many knots have each number of legs. -/
namespace Go.Proofs.YthihjphcjjpjpaaGreat
open Go.RowKit Go.ChangeMaps Go.MapKept Go.Shelf
attribute [local go_sem] Oper.semAt_some

theorem mget_of_mem {m : List (Ck.Knot × Int)} (hn : (m.map (·.1)).Nodup) {k : Ck.Knot} {v : Int} (h : (k, v) ∈ m) : mget m k = v := by
  induction m with
  | nil => simp at h
  | cons p r ih =>
    obtain ⟨h1, h2⟩ := List.nodup_cons.1 hn
    rw [mget]
    rcases List.mem_cons.1 h with rfl | h
    · rw [if_pos rfl]
    · rw [if_neg, ih h2 h]
      rintro rfl
      exact h1 (List.mem_map.2 ⟨_, h, rfl⟩)
/-- Of the keys that have come, how many have the value i. -/
def cntV (m : List (Ck.Knot × Int)) (ss : List Ck.Knot) (i : Nat) : Nat := ss.countP fun k => decide (mget m k = (i : Int))
def cvs (m : List (Ck.Knot × Int)) (ss : List Ck.Knot) : Array Value := #[.int .i64 (cntV m ss 0), .int .i64 (cntV m ss 1), .int .i64 (cntV m ss 2), .int .i64 (cntV m ss 3), .int .i64 (cntV m ss 4)]
theorem cntV_snoc (m : List (Ck.Knot × Int)) (ss : List Ck.Knot) (k : Ck.Knot) (j i : Nat) (h : mget m k = (j : Int)) : cntV m (ss ++ [k]) i = cntV m ss i + if i = j then 1 else 0 := by
  rw [cntV, List.countP_append, ← cntV, List.countP_singleton, h]
  by_cases e : i = j
  · subst e; simp
  · have e' : ¬ j = i := fun h => e h.symm
    have : ¬ (j : Int) = (i : Int) := by omega
    simp [e, this]
theorem cntV_le (m : List (Ck.Knot × Int)) (ss : List Ck.Knot) (i : Nat) : cntV m ss i ≤ ss.length := List.countP_le_length
theorem cntV_all {l : List Ck.Bar} {ss : List Ck.Knot} (hn : ss.Nodup) (hk : ((degsL (Ck.ends l)).map (·.1)).Nodup) (h : ∀ k, k ∈ ss ↔ KeyOf (degsL (Ck.ends l)) k) (i : Nat) : cntV (degsL (Ck.ends l)) ss i = legN l i := by
  have hp : ss.Perm ((degsL (Ck.ends l)).map (·.1)) := (List.perm_ext_iff_of_nodup hn hk).2 h
  rw [cntV, hp.countP_eq, legN]
  refine List.countP_congr fun k _ => ?_
  simp [degs_count]
  omega
theorem box5H (w : World) (a b c d e : Value) (t : TypeId) : ∃ w1, w1 = w.alloc (.cells #[a, b, c, d, e] t) ∧ w1.heap[w.heap.size]? = some (.cells #[a, b, c, d, e] t (0, 0)) ∧ Below w.heap.size w w1 ∧ w1.heap.size = w.heap.size + 1 :=
  ⟨_, rfl, heap_alloc_new _ _, (Below.refl _ _).alloc (Nat.le_refl _) _, by simp⟩
theorem fiveF {W : World} {g : Nat} {cs : Array Value} {t : TypeId} (h : W.heap[g]? = some (.cells cs t (0, 0))) (i : Nat) : W.frozen? ⟨g, i, none⟩ = false := by simp [World.frozen?, h]
theorem setBlockAt {W : World} {g : Nat} {cs : Array Value} {t : TypeId} (h : W.heap[g]? = some (.cells cs t (0, 0))) (i : Nat) (v : Value) : (W.setCell ⟨g, i, none⟩ v).heap[g]? = some (.cells (cs.setIfInBounds i v) t (0, 0)) ∧ W.grownBy (W.setCell ⟨g, i, none⟩ v) (some g) := by
  refine ⟨?_, ⟨rfl, rfl, rfl, by simp [World.setCell], fun j _ hj => Below.heap_setCell _ _ _ j (fun e => hj (by rw [e]))⟩⟩
  simp only [World.setCell, Array.getElem?_modify, if_true, h, Option.map_some]
  rfl

theorem keepsSet {W : World} {g : Nat} {cs : Array Value} {t : TypeId} (h : W.heap[g]? = some (.cells cs t (0, 0))) (i : Nat) (v : Value) : KeepsWalks W (W.setCell ⟨g, i, none⟩ v) :=
  ⟨by simp [World.setCell], fun b o ho hw => (Below.heap_setCell _ _ _ b (fun e => by
    have e' : b = g := e
    subst e'
    rw [h] at ho
    cases ho
    cases hw)).trans ho⟩
set_option maxHeartbeats 4000000 in
set_option maxRecDepth 100000 in
theorem netLegs (A : Option Addr) (c : Nat) (l : List Ck.Bar) (w : World) (hl : l.length ≤ 4096) (hcap : l.length ≤ c) (hcm : c ≤ maxLen) (hN : Ck.Net l) (hd : ∀ k, mget (degsL (Ck.ends l)) k ≤ 4) (h : RB w w.heap.size A l) :
    Calls Tryz.prog 10 #[.slice A l.length c] w fun e w' => (e = .returned (.tuple #[.agg #[.int .i64 (legN l 0), .int .i64 (legN l 1), .int .i64 (legN l 2), .int .i64 (legN l 3), .int .i64 (legN l 4)], .int .i64 0]) ∧ ∃ K, K = (degsL (Ck.ends l)).map (·.1) ∧ K.Nodup ∧ ∀ x, x ∈ K ↔ x ∈ Ck.ends l) ∧ Below w.heap.size w w' := by
  obtain ⟨m, hm⟩ : ∃ m, degsL (Ck.ends l) = m := ⟨_, rfl⟩
  have hm0 : ∀ k, 0 ≤ mget m k := fun k => by rw [← hm]; exact (degs_bound _ k).1
  have hm4 : ∀ k, mget m k ≤ 4 := fun k => by rw [← hm]; exact hd k
  obtain ⟨w0, hw0, h0, hb0, hz0⟩ := box5H w (.int .i64 0) (.int .i64 0) (.int .i64 0) (.int .i64 0) (.int .i64 0) 39
  have HR0 := Lib.hid ((h.below hb0).more hb0.size)
  have HE := Lib.hid ((netE_zero l).2 ⟨hl, hN⟩)
  have HN := Lib.hid hN
  have HM := Lib.hid hm
  have HM0 := Lib.hid hm0
  have HM4 := Lib.hid hm4
  have HKE := Lib.hid (show ∀ x, x ∈ m.map (·.1) ↔ x ∈ Ck.ends l from fun x => by rw [← hm, degsL, degs_keys]; simp)
  have hw0' := hw0.symm
  have HW0 := Lib.hid hw0
  have HH0 := Lib.hid h0
  have HZ0 := Lib.hid hz0
  have HML := Lib.hid (show (m.map (·.1)).Nodup → m.length ≤ 8192 from fun hn => by
    have h1 := hn.length_le_of_subset (l₂ := Ck.ends l) (fun x hx => (HKE.out x).1 hx)
    have h2 := ends_length l
    simp only [List.length_map] at h1
    omega)
  clear hN hm hm0 hm4 h hd hw0 h0 hz0
  refine (callsIn_wide (n := 4)).1 ?_
  refine callsIn_of_wp Tryz.func10 rfl trivial ?_ rfl
  simp only [Tryz.ntmps10, List.size_toArray, List.length_cons, List.length_nil, Nat.reduceAdd, Nat.reduceSub, Array.replicate_succ, Array.replicate_zero, List.push_toArray, List.append_toArray, List.nil_append, List.cons_append]
  have hfc : Fence.wide.fn 22 := trivial
  have hfd : Fence.wide.fn 23 := trivial
  gi_wp2_with (first
    | (gi_at_call 22; refine (callsIn_wide.2 (netCheckNet A c l _ hl hcap hcm HR0.out)).mono ?_; rintro e w1 ⟨rfl, hb1⟩; rw [HE.out]; have hz1 := hb1.size; have HR1 := Lib.hid ((HR0.out.below hb1).more hb1.size); obtain ⟨w2, hw2, h2, hb2, hz2⟩ := box5H w1 (.int .i64 0) (.int .i64 0) (.int .i64 0) (.int .i64 0) (.int .i64 0) 39; have hw2' := hw2.symm; clear hw2; have HR2 := Lib.hid ((HR1.out.below hb2).more hb2.size))
    | (gi_at_call 23; refine (callsIn_wide.2 (netDegrees A c l _ hl HN.out.1 HR2.out)).mono ?_; rintro e w3 ⟨b, rfl, hbB, hmis, hb3⟩; rw [HM.out] at hmis; have hz3 := hb3.size)
    | (gi_at_range; refine wpListIn_range_knots _ rfl _ rfl b m rfl hmis ?_; intro w4 hrg4 hg4 hs4)
    | gi_in)
  have hz0 := HZ0.out
  have hh0 : w4.heap[w.heap.size]? = some (.cells #[.int .i64 0, .int .i64 0, .int .i64 0, .int .i64 0, .int .i64 0] 39 (0, 0)) :=
    (hg4.block _ (by omega) (by simp)).trans ((hb3.block _ (by omega)).trans ((hb2.block _ (by omega)).trans ((hb1.block _ (by omega)).trans HH0.out)))
  have hh2 : w4.heap[w1.heap.size]? = some (.cells #[.int .i64 0, .int .i64 0, .int .i64 0, .int .i64 0, .int .i64 0] 39 (0, 0)) :=
    (hg4.block _ (by omega) (by simp)).trans ((hb3.block _ (by omega)).trans h2)
  have hbw3 : Below w.heap.size w w3 := (hb0.trans (hb1.mono hb0.size)).trans ((hb2.trans (hb3.mono hb2.size)).mono (by omega))
  have hbw4 : Below w.heap.size w w4 := hbw3.grown hg4 (by omega) (fun j e => by cases e)
  have HNOD := Lib.hid hmis.keys_nodup
  have HSZ := Lib.hid (show w.heap.size < w1.heap.size ∧ w1.heap.size < w3.heap.size ∧ b ≠ w1.heap.size ∧ b ≠ w.heap.size by omega)
  clear hw0' hw2' h2 hb0 hb1 hb2 hb3 hg4 hz0 hz1 hz2 hz3 hmis hbw3 hs4 hbB
  go_frame
  gi_loopw [7] (fun _ wr => ∃ ss, KRange wr b w3.heap.size m ss ∧ wr.heap[w.heap.size]? = some (.cells #[.int .i64 0, .int .i64 0, .int .i64 0, .int .i64 0, .int .i64 0] 39 (0, 0)) ∧ wr.heap[w1.heap.size]? = some (.cells (cvs m ss) 39 (0, 0)) ∧ Below w.heap.size w wr) (fun _ wr => wr.rangeLeft b w3.heap.size)
  case atStart => exact ⟨[], hrg4, hh0, hh2, hbw4⟩
  case round =>
    obtain ⟨ss, hrg, h0, h2, hb⟩ := hrel
    clear hrg4 hh0 hh2 hbw4
    gi_wp2_with (first
      | (gi_at_next; refine wpListIn_next_pairs _ rfl _ rfl b w3.heap.size m ss rfl hrg ?_ ?_)
      | gi_in)
    · intro hl0
      have HCV := Lib.hid (show cvs m ss = #[.int .i64 (legN l 0), .int .i64 (legN l 1), .int .i64 (legN l 2), .int .i64 (legN l 3), .int .i64 (legN l 4)] by
        have hn := HNOD.out
        have e := HM.out
        subst e
        have ha := cntV_all (l := l) hrg.nodup hn hl0
        rw [cvs, ha 0, ha 1, ha 2, ha 3, ha 4])
      rw [HCV.out] at h2
      obtain ⟨n0, e0⟩ : ∃ n0, (legN l 0 : Int) = n0 := ⟨_, rfl⟩
      obtain ⟨n1, e1⟩ : ∃ n1, (legN l 1 : Int) = n1 := ⟨_, rfl⟩
      obtain ⟨n2, e2⟩ : ∃ n2, (legN l 2 : Int) = n2 := ⟨_, rfl⟩
      obtain ⟨n3, e3⟩ : ∃ n3, (legN l 3 : Int) = n3 := ⟨_, rfl⟩
      obtain ⟨n4, e4⟩ : ∃ n4, (legN l 4 : Int) = n4 := ⟨_, rfl⟩
      rw [e0, e1, e2, e3, e4] at h2
      have HN5 := Lib.hid (show (#[.int .i64 (legN l 0), .int .i64 (legN l 1), .int .i64 (legN l 2), .int .i64 (legN l 3), .int .i64 (legN l 4)] : Array Value) = #[.int .i64 n0, .int .i64 n1, .int .i64 n2, .int .i64 n3, .int .i64 n4] by rw [e0, e1, e2, e3, e4])
      obtain ⟨c0, c1, c2, c3, c4, -⟩ := five_of_block h2
      obtain ⟨d0, d1, d2, d3, d4, -⟩ := five_of_block h0
      have f0 := fiveF h0 0
      have f1 := fiveF h0 1
      have f2 := fiveF h0 2
      have f3 := fiveF h0 3
      have f4 := fiveF h0 4
      obtain ⟨s0, g0⟩ := setBlockAt h0 0 (.int .i64 n0)
      obtain ⟨s1, g1⟩ := setBlockAt s0 1 (.int .i64 n1)
      obtain ⟨s2, g2⟩ := setBlockAt s1 2 (.int .i64 n2)
      obtain ⟨s3, g3⟩ := setBlockAt s2 3 (.int .i64 n3)
      obtain ⟨s4, g4⟩ := setBlockAt s3 4 (.int .i64 n4)
      have bz := hb.size
      have t0 := hb.grown g0 bz (fun j e => by cases e; exact Nat.le_refl _)
      have t1 := t0.grown g1 t0.size (fun j e => by cases e; exact Nat.le_refl _)
      have t2 := t1.grown g2 t1.size (fun j e => by cases e; exact Nat.le_refl _)
      have t3 := t2.grown g3 t2.size (fun j e => by cases e; exact Nat.le_refl _)
      have HT := Lib.hid (t3.grown g4 t3.size (fun j e => by cases e; exact Nat.le_refl _))
      have HS4 := Lib.hid (show _ = some (Obj.cells #[.int .i64 n0, .int .i64 n1, .int .i64 n2, .int .i64 n3, .int .i64 n4] 39 (0, 0)) from s4)
      clear HCV s0 s1 s2 s3 s4 g0 g1 g2 g3 g4 t0 t1 t2 t3 bz h0 h2 hb e0 e1 e2 e3 e4
      gi_wp2
      obtain ⟨r0, r1, r2, r3, r4, -⟩ := five_of_block HS4.out
      refine bodyPost_ret (v := .tuple #[.agg #[.int .i64 n0, .int .i64 n1, .int .i64 n2, .int .i64 n3, .int .i64 n4], .int .i64 0]) (by simp [results, Tryz.results10, go_sem, r0, r1, r2, r3, r4]) rfl ⟨⟨by rw [HN5.out], m.map (·.1), by rw [HM.out], HNOD.out, HKE.out⟩, HT.out⟩
    · intro k v w5 hkv hnk hrg2 hlt hg2 hs2 hen
      have hmv : mget m k = v := mget_of_mem HNOD.out hkv
      have hv0 := HM0.out k
      have hv4 := HM4.out k
      rw [hmv] at hv0 hv4
      have hsz := HSZ.out
      have h0' := (hg2.block _ (Array.getElem?_eq_some_iff.1 h0).1 (fun e => by injection e; omega)).trans h0
      have h2' := (hg2.block _ (Array.getElem?_eq_some_iff.1 h2).1 (fun e => by injection e; omega)).trans h2
      have hb' := hb.grown hg2 hb.size (fun j e => by cases e; omega)
      have HL := Lib.hid hlt
      have HR2 := Lib.hid hrg2
      have HLS := Lib.hid (show ss.length ≤ m.length by
        have h := hrg.lt_of_new (List.mem_map.2 ⟨_, hkv, rfl⟩) hnk
        exact Nat.le_of_lt h)
      have hml := HML.out HNOD.out
      have hls := HLS.out
      clear hlt hrg2 hg2 hs2 hrg h0 h2 hb
      obtain ⟨c0, c1, c2, c3, c4, -⟩ := five_of_block h2'
      have step : ∀ j : Nat, j < 5 → v = (j : Int) → ∀ x : Int, x = (cntV m ss j : Int) + 1 → (cvs m ss).setIfInBounds j (.int .i64 x) = cvs m (ss ++ [k]) := by
        intro j hj hvj x hx
        subst hx
        have e := fun i => cntV_snoc m ss k j i (hmv.trans hvj)
        unfold cvs
        rw [e 0, e 1, e 2, e 3, e 4]
        have : j = 0 ∨ j = 1 ∨ j = 2 ∨ j = 3 ∨ j = 4 := by omega
        rcases this with rfl | rfl | rfl | rfl | rfl <;> simp
      have fin : ∀ (j : Nat), j < 5 → v = (j : Int) → ∀ x : Int, x = (cntV m ss j : Int) + 1 → KRange (w5.setCell ⟨w1.heap.size, j, none⟩ (.int .i64 x)) b w3.heap.size m (ss ++ [k]) ∧ (w5.setCell ⟨w1.heap.size, j, none⟩ (.int .i64 x)).heap[w.heap.size]? = some (.cells #[.int .i64 0, .int .i64 0, .int .i64 0, .int .i64 0, .int .i64 0] 39 (0, 0)) ∧
          (w5.setCell ⟨w1.heap.size, j, none⟩ (.int .i64 x)).heap[w1.heap.size]? = some (.cells (cvs m (ss ++ [k])) 39 (0, 0)) ∧ Below w.heap.size w (w5.setCell ⟨w1.heap.size, j, none⟩ (.int .i64 x)) ∧ (w5.setCell ⟨w1.heap.size, j, none⟩ (.int .i64 x)).rangeLeft b w3.heap.size < wr.rangeLeft b w3.heap.size := by
        intro j hj hvj x hx
        obtain ⟨s1, g1⟩ := setBlockAt h2' j (.int .i64 x)
        rw [step j hj hvj x hx] at s1
        have kw : KeepsWalks w5 (w5.setCell ⟨w1.heap.size, j, none⟩ (.int .i64 x)) := keepsSet h2' j _
        exact ⟨HR2.out.of_walks kw, (g1.block _ (Array.getElem?_eq_some_iff.1 h0').1 (fun e => by injection e; omega)).trans h0', s1, hb'.grown g1 hb'.size (fun j e => by cases e; omega), by rw [HR2.out.left_eq kw]; exact HL.out⟩
      have FIN := Lib.hid fin
      have F0 := fiveF h2' 0
      have F1 := fiveF h2' 1
      have F2 := fiveF h2' 2
      have F3 := fiveF h2' 3
      have F4 := fiveF h2' 4
      have b0 := cntV_le m ss 0
      have b1 := cntV_le m ss 1
      have b2 := cntV_le m ss 2
      have b3 := cntV_le m ss 3
      have b4 := cntV_le m ss 4
      have hvs : v = 0 ∨ v = 1 ∨ v = 2 ∨ v = 3 ∨ v = 4 := by omega
      clear fin step h0' h2' hb' hmv hv0 hv4 hsz
      generalize hC0 : cntV m ss 0 = C0 at *
      generalize hC1 : cntV m ss 1 = C1 at *
      generalize hC2 : cntV m ss 2 = C2 at *
      generalize hC3 : cntV m ss 3 = C3 at *
      generalize hC4 : cntV m ss 4 = C4 at *
      rcases hvs with rfl | rfl | rfl | rfl | rfl
      · have H := Lib.hid (FIN.out 0 (by decide) rfl ((C0 : Int) + 1) (by rw [hC0]))
        clear FIN hC0 hC1 hC2 hC3 hC4
        gi_wp2
        go_roundw
        case rel => exact ⟨ss ++ [k], H.out.1, H.out.2.1, H.out.2.2.1, H.out.2.2.2.1⟩
        case measure => exact H.out.2.2.2.2
      · have H := Lib.hid (FIN.out 1 (by decide) rfl ((C1 : Int) + 1) (by rw [hC1]))
        clear FIN hC0 hC1 hC2 hC3 hC4
        gi_wp2
        go_roundw
        case rel => exact ⟨ss ++ [k], H.out.1, H.out.2.1, H.out.2.2.1, H.out.2.2.2.1⟩
        case measure => exact H.out.2.2.2.2
      · have H := Lib.hid (FIN.out 2 (by decide) rfl ((C2 : Int) + 1) (by rw [hC2]))
        clear FIN hC0 hC1 hC2 hC3 hC4
        gi_wp2
        go_roundw
        case rel => exact ⟨ss ++ [k], H.out.1, H.out.2.1, H.out.2.2.1, H.out.2.2.2.1⟩
        case measure => exact H.out.2.2.2.2
      · have H := Lib.hid (FIN.out 3 (by decide) rfl ((C3 : Int) + 1) (by rw [hC3]))
        clear FIN hC0 hC1 hC2 hC3 hC4
        gi_wp2
        go_roundw
        case rel => exact ⟨ss ++ [k], H.out.1, H.out.2.1, H.out.2.2.1, H.out.2.2.2.1⟩
        case measure => exact H.out.2.2.2.2
      · have H := Lib.hid (FIN.out 4 (by decide) rfl ((C4 : Int) + 1) (by rw [hC4]))
        clear FIN hC0 hC1 hC2 hC3 hC4
        gi_wp2
        go_roundw
        case rel => exact ⟨ss ++ [k], H.out.1, H.out.2.1, H.out.2.2.1, H.out.2.2.2.1⟩
        case measure => exact H.out.2.2.2.2
end Go.Proofs.YthihjphcjjpjpaaGreat

/- A loop over a function that keeps a variable of its own in a box of the type e: the body never leaves the loop. -/
namespace Go.Proofs.YthihjphcjjpjpaaGreat
open Go.RowKit Go.Shelf

/-- J holds on where memory grows, and where one block from B on is written that is no cells, or two cells of the type e. -/
def Bides {β : Type} (B : Nat) (e : TypeId) (J : β → World → Prop) : Prop :=
  ∀ s W W' r, J s W → W.grownBy W' r → (∀ b, r = some b → B ≤ b ∧ ∃ o, W.heap[b]? = some o ∧ (o.isCells = false ∨ ∃ cs f, o = .cells cs e f ∧ cs.size = 2)) → J s W'
theorem Bides.below {β : Type} {B : Nat} {e : TypeId} {J : β → World → Prop} (h : Bides B e J) {s : β} {W W' : World} (hs : J s W) (hb : Below W.heap.size W W') : J s W' :=
  h s W W' none hs ⟨hb.os, hb.tape, hb.output, hb.size, fun i hi _ => hb.block i hi⟩ (fun _ e => by cases e)
theorem Bides.put {β : Type} {B : Nat} {e : TypeId} {J : β → World → Prop} (h : Bides B e J) {s : β} {W : World} {l : Nat} {o : Obj} (o' : Obj) (hs : J s W) (hB : B ≤ l) (hl : W.heap[l]? = some o) (ho : o.isCells = false) : J s (W.putObj l o') :=
  h s W _ (some l) hs (grownBy_putObj' W l o') (fun b e => by cases e; exact ⟨hB, o, hl, .inl ho⟩)
theorem Bides.and {β : Type} {B : Nat} {e : TypeId} {J K : β → World → Prop} (h : Bides B e J) (k : Bides B e K) : Bides B e (fun s W => J s W ∧ K s W) := fun s W W' r hs hg hr => ⟨h s W W' r hs.1 hg hr, k s W W' r hs.2 hg hr⟩
/-- The loop's two blocks lie as they lay. -/
def Book (B : Nat) (W W' : World) : Prop := W'.heap[B]? = W.heap[B]? ∧ W'.heap[B + 1]? = W.heap[B + 1]? ∧ W.heap.size ≤ W'.heap.size
theorem Book.trans {B : Nat} {X Y Z : World} (h : Book B X Y) (k : Book B Y Z) : Book B X Z := ⟨k.1.trans h.1, k.2.1.trans h.2.1, Nat.le_trans h.2.2 k.2.2⟩
theorem Book.below {B : Nat} {W W' : World} (hB : B + 2 ≤ W.heap.size) (h : Below W.heap.size W W') : Book B W W' := ⟨h.block _ (by omega), h.block _ (by omega), h.size⟩
theorem Book.others {B : Nat} {W W' : World} (h : KeepsOthers W W') (h0 : ∃ o, W.heap[B]? = some o ∧ o.isCells = false) (h1 : ∃ o, W.heap[B + 1]? = some o ∧ o.isCells = false) : Book B W W' := by
  obtain ⟨o0, a0, b0⟩ := h0
  obtain ⟨o1, a1, b1⟩ := h1
  exact ⟨(h.same _ _ a0 b0).trans a0.symm, (h.same _ _ a1 b1).trans a1.symm, h.size⟩
def RoundEnd {α : Type} (B : Nat) (Kp : World → World → Prop) (I : List α → World → Prop) (xs : List α) (W : World) : Exit → Act → World → Prop
  | .normal, _, W' => Book B W W' ∧ Kp W W' ∧ I xs W'
  | _, _, _ => False

/-- What the loop asks of the function over which it goes. -/
def Visits {α : Type} (P : Program) (n : Nat) (e : TypeId) (gf : Nat) (lb : Array Value) (encs : α → Array Value) (Kp : World → World → Prop) (S : List α → Prop) (G : List α → α → Prop) (w : World) : Prop :=
  ∀ (l : Nat) (J : List α → World → Prop) (W : World), Below w.heap.size w W → Bides W.heap.size e J →
    (∀ pre x W1, J pre W1 → G pre x → YieldAt Fence.wide (n - 1) P l (encs x) W1 fun en W' => en = .returned (.bool true) ∧ J (pre ++ [x]) W' ∧ Kp W1 W') →
    J [] W → CallsIn Fence.wide n P gf (#[.func (.yield l) #[] #[]] ++ lb) W fun en W' => (∃ v, en = .returned v) ∧ ∃ xs, S xs ∧ J xs W'

theorem wpIn_visits {α : Type} {P : Program} {n : Nat} {e : TypeId} {g : Operand} {ps : Array Tmp} {assign body : Code} {Q : Exit → Act → World → Prop} {a : Act} {w : World} (h1 : 1 ≤ n)
    {gf : Nat} {lb : Array Value} (hg : a.eval g = .func (.func gf) #[] lb) (eg : ∀ args w, (callFunc gf args).run P w = .ok (.enter gf args) w)
    {encs : α → Array Value} {Kp : World → World → Prop} {S : List α → Prop} {G : List α → α → Prop} (hseq : Visits P (n - 1) e gf lb encs Kp S G w)
    (hKt : ∀ {A B C : World}, Kp A B → Kp B C → Kp A C) (hKb : ∀ (W : World) (l : Nat) (o o' : Obj), w.heap.size ≤ l → W.heap[l]? = some o → o.isCells = false → o.isWalk = false → Kp W (W.putObj l o')) (hps : ∀ x, (encs x).size = ps.size)
    (I : List α → World → Prop) (hI : Bides w.heap.size e I) (h0 : I [] w)
    (hround : ∀ (l : Nat) (pre : List α) (x : α) (W : World), w.heap.size + 2 ≤ W.heap.size → I pre W → G pre x →
      assign.wpIn (Fence.wide.inRound l) (n - 1 - 1) P (Exit.then (fun a' Wa => Book w.heap.size W Wa ∧ Kp W Wa ∧
        ∀ Wb, Wa.grownBy Wb (some (w.heap.size + 1)) → (∃ o, Wa.heap[w.heap.size + 1]? = some o ∧ o.isCells = false) → ((∃ o, Wb.heap[w.heap.size]? = some o ∧ o.isCells = false) ∧ ∃ o, Wb.heap[w.heap.size + 1]? = some o ∧ o.isCells = false) → body.wpIn (Fence.wide.inRound l) (n - 1 - 1) P (RoundEnd w.heap.size Kp I (pre ++ [x]) Wb) a' Wb) (fun _ _ _ => False))
        { tmps := (ps.zip (encs x)).foldl (fun t (p, v) => t.setIfInBounds p v) a.tmps, defers := [] } W)
    (hdone : ∀ (D : Nat) (xs : List α) (W : World), w.heap.size ≤ D → S xs → I xs W → W.heap[D]? = some (.deferred (some [])) → Q .normal { a with defers := { target := .collected D, args := #[] } :: a.defers } W) :
    (Code.rangeFunc g ps assign body).wpIn Fence.wide n P Q a w := by
  refine wpIn_rangeFunc fun fn _ => ?_
  obtain ⟨L, hL⟩ : ∃ L : LoopState → Option Code → Loop, L = fun s j => { state := s, pending := j, fn, tmps := a.tmps, params := ps, assign, body, defers := w.heap.size } := ⟨_, rfl⟩
  obtain ⟨W1, hW1⟩ : ∃ W1, W1 = (w.alloc (.deferred (some []))).alloc (.loop (L .ready none)) := ⟨_, rfl⟩
  have s1 : W1.heap.size = w.heap.size + 2 := by rw [hW1]; simp
  have b1 : Below w.heap.size w W1 := by rw [hW1]; exact ((Below.refl _ _).alloc (Nat.le_refl _) _).alloc (by simp) _
  have r1 : W1.heap[w.heap.size + 1]? = some (.loop (L .ready none)) := by
    rw [hW1]
    have := World.alloc_heap_new (w.alloc (.deferred (some []))) (.loop (L .ready none))
    rwa [World.size_alloc] at this
  have d1 : W1.heap[w.heap.size]? = some (.deferred (some [])) := by
    rw [hW1, Below.heap_alloc _ _ _ (by simp)]
    exact World.alloc_heap_new w _
  refine ⟨w.heap.size + 1, [{ target := .collected w.heap.size, args := #[] }], W1, { target := .fn (.func gf) lb, args := #[.func (.yield (w.heap.size + 1)) #[] #[]] }, W1, gf,
    #[.func (.yield (w.heap.size + 1)) #[] #[]] ++ lb, W1, by rw [hW1, hL]; exact run_enterLoop_outer _ _ _ _ _, ?_, fun _ _ => trivial, by simp [invoke, go_sem, eg], fun _ => h1, ?_⟩
  · simp only [resolve, hg]
    simp [go_sem]
  refine (hseq (w.heap.size + 1) (fun pre W => I pre W ∧ (W.heap[w.heap.size]? = some (.deferred (some [])) ∧ W.heap[w.heap.size + 1]? = some (.loop (L .ready none)))) W1 b1 ?bid ?yields ⟨hI.below h0 b1, d1, r1⟩).mono ?after
  case bid =>
    intro s X Y r hs hgr hr
    refine ⟨hI s X Y r hs.1 hgr fun b hb => ?_, ?_, ?_⟩
    · obtain ⟨h, o, ho⟩ := hr b hb
      exact ⟨by omega, o, ho⟩
    · exact (hgr.block _ (Array.getElem?_eq_some_iff.1 hs.2.1).1 (fun h => by have := (hr _ h.symm).1; omega)).trans hs.2.1
    · exact (hgr.block _ (Array.getElem?_eq_some_iff.1 hs.2.2).1 (fun h => by have := (hr _ h.symm).1; omega)).trans hs.2.2
  case yields =>
    rintro pre x W ⟨hi, hd, hl⟩ hlen
    have hz := (Array.getElem?_eq_some_iff.1 hl).1
    have hy := run_yield (P := P) (args := encs x) hl (by rw [hL]; exact hps x)
    rw [hL] at hy
    refine ⟨fn, _, assign, body, hy, roundIn_of_wpIn trivial (wpIn_mono (hround _ pre x W (by omega) hi hlen) ?_)⟩
    rintro en a' Wa hp
    cases en with
    | normal =>
      obtain ⟨⟨k1, k2, k3⟩, kp, hbody⟩ := hp
      have hla := k2.trans hl
      have hza := (Array.getElem?_eq_some_iff.1 hla).1
      refine ⟨_, run_beginRound hla (by rw [hL]), ?_⟩
      have hlb : (Wa.putObj (w.heap.size + 1) (.loop { L .ready none with state := .busy })).heap[w.heap.size + 1]? = some (.loop { L .ready none with state := .busy }) := World.putObj_heap_same hza
      have hdb : (Wa.putObj (w.heap.size + 1) (.loop { L .ready none with state := .busy })).heap[w.heap.size]? = some (.deferred (some [])) := (World.putObj_heap_other (by omega)).trans (k1.trans hd)
      have kb : Kp Wa (Wa.putObj (w.heap.size + 1) (.loop { L .ready none with state := .busy })) := hKb _ _ _ _ (by omega) hla rfl rfl
      refine wpIn_mono (hbody _ (grownBy_putObj' _ _ _) ⟨_, hla, rfl⟩ ⟨⟨_, hdb, rfl⟩, ⟨_, hlb, rfl⟩⟩) ?_
      rintro e3 a3 W3 hp3
      cases e3 with
      | normal =>
        obtain ⟨⟨m1, m2, m3⟩, kp3, hi3⟩ := hp3
        have hl3 := m2.trans hlb
        have hz3 := (Array.getElem?_eq_some_iff.1 hl3).1
        refine ⟨_, _, run_endRound none hl3, rfl, ⟨hI.put _ hi3 (by omega) hl3 rfl, (World.putObj_heap_other (by omega)).trans (m1.trans hdb), ?_⟩, hKt kp (hKt (hKt kb kp3) (hKb _ _ _ _ (by omega) hl3 rfl rfl))⟩
        rw [World.putObj_heap_same hz3, hL]
        rfl
      | _ => exact hp3.elim
    | _ => exact hp.elim
  case after =>
    rintro en W2 ⟨⟨v, rfl⟩, xs, hS, hi, hd, hl⟩
    exact ⟨none, _, by have := run_endLoop (P := P) hl (by rw [hL]; simp); rw [hL] at this; exact this, hdone _ xs _ (Nat.le_refl _) hS (hI.put _ hi (by omega) hl rfl) ((World.putObj_heap_other (by omega)).trans hd)⟩
end Go.Proofs.YthihjphcjjpjpaaGreat

/- strings.Repeat of the library laid at this program. -/
namespace Go.Proofs.YthihjphcjjpjpaaGreat
open Go.Shelf
def Tryz.rep_ren : Go.Shelf.Ren := ⟨fun | 105 => 66 | 212 => 75 | 99 => 76 | 165 => 77 | 166 => 78 | 170 => 79 | 169 => 80 | 263 => 92 | 264 => 93 | 206 => 94 | 240 => 95 | 241 => 96 | 276 => 102 | 277 => 103 | n => n, fun | 9 => 9 | 3 => 3 | 4 => 4 | 20 => 20 | 0 => 0 | 46 => 114 | 109 => 118 | 5 => 5 | 72 => 124 | 76 => 128 | 51 => 140 | 146 => 144 | 53 => 142 | 148 => 146 | 70 => 121 | 37 => 122 | 75 => 127 | 127 => 148 | 164 => 155 | 80 => 131 | n => n, fun | n => n⟩
theorem Tryz.rep : Go.Proofs.Lays.n105 Tryz.prog Tryz.rep_ren := {
  mixed := by kernel_rfl,
  f99 := Tryz.func76.trans (congrArg some (by kernel_rfl)),
  f105 := Tryz.func66.trans (congrArg some (by kernel_rfl)),
  f165 := Tryz.func77.trans (congrArg some (by kernel_rfl)),
  f166 := Tryz.func78.trans (congrArg some (by kernel_rfl)),
  f169 := Tryz.func80.trans (congrArg some (by kernel_rfl)),
  f170 := Tryz.func79.trans (congrArg some (by kernel_rfl)),
  f206 := Tryz.func94.trans (congrArg some (by kernel_rfl)),
  f212 := Tryz.func75.trans (congrArg some (by kernel_rfl)),
  f240 := Tryz.func95.trans (congrArg some (by kernel_rfl)),
  f241 := Tryz.func96.trans (congrArg some (by kernel_rfl)),
  f263 := Tryz.func92.trans (congrArg some (by kernel_rfl)),
  f264 := Tryz.func93.trans (congrArg some (by kernel_rfl)),
  f276 := Tryz.func102.trans (congrArg some (by kernel_rfl)),
  f277 := Tryz.func103.trans (congrArg some (by kernel_rfl)),
  t0 := Tryz.underlying0,
  a0 := Tryz.isAgg0,
  z0 := Tryz.sizeOf0,
  v0 := Tryz.zeroValue0,
  t3 := Tryz.underlying3,
  a3 := Tryz.isAgg3,
  z3 := Tryz.sizeOf3,
  v3 := Tryz.zeroValue3,
  t4 := Tryz.underlying4,
  a4 := Tryz.isAgg4,
  z4 := Tryz.sizeOf4,
  v4 := Tryz.zeroValue4,
  t5 := Tryz.underlying5,
  a5 := Tryz.isAgg5,
  z5 := Tryz.sizeOf5,
  v5 := Tryz.zeroValue5,
  t9 := Tryz.underlying9,
  a9 := Tryz.isAgg9,
  z9 := Tryz.sizeOf9,
  v9 := Tryz.zeroValue9,
  t20 := Tryz.underlying20,
  a20 := Tryz.isAgg20,
  z20 := Tryz.sizeOf20,
  v20 := Tryz.zeroValue20,
  t37 := Tryz.underlying122,
  a37 := Tryz.isAgg122,
  z37 := Tryz.sizeOf122,
  v37 := Tryz.zeroValue122,
  t46 := Tryz.underlying114,
  a46 := Tryz.isAgg114,
  z46 := Tryz.sizeOf114,
  v46 := Tryz.zeroValue114,
  t51 := Tryz.underlying140,
  a51 := Tryz.isAgg140,
  z51 := Tryz.sizeOf140,
  v51 := Tryz.zeroValue140,
  t53 := Tryz.underlying142,
  a53 := Tryz.isAgg142,
  z53 := Tryz.sizeOf142,
  v53 := Tryz.zeroValue142,
  t70 := Tryz.underlying121,
  a70 := Tryz.isAgg121,
  z70 := Tryz.sizeOf121,
  v70 := Tryz.zeroValue121,
  t72 := Tryz.underlying124,
  a72 := Tryz.isAgg124,
  z72 := Tryz.sizeOf124,
  v72 := Tryz.zeroValue124,
  t75 := Tryz.underlying127,
  a75 := Tryz.isAgg127,
  z75 := Tryz.sizeOf127,
  v75 := Tryz.zeroValue127,
  t76 := Tryz.underlying128,
  a76 := Tryz.isAgg128,
  z76 := Tryz.sizeOf128,
  v76 := Tryz.zeroValue128,
  t109 := Tryz.underlying118,
  a109 := Tryz.isAgg118,
  z109 := Tryz.sizeOf118,
  v109 := Tryz.zeroValue118,
  t127 := Tryz.underlying148,
  a127 := Tryz.isAgg148,
  z127 := Tryz.sizeOf148,
  v127 := Tryz.zeroValue148,
  t146 := Tryz.underlying144,
  a146 := Tryz.isAgg144,
  z146 := Tryz.sizeOf144,
  v146 := Tryz.zeroValue144,
  t148 := Tryz.underlying146,
  a148 := Tryz.isAgg146,
  z148 := Tryz.sizeOf146,
  v148 := Tryz.zeroValue146,
  t164 := Tryz.underlying155,
  a164 := Tryz.isAgg155,
  z164 := Tryz.sizeOf155,
  v164 := Tryz.zeroValue155 }
end Go.Proofs.YthihjphcjjpjpaaGreat

/- The errors of a sheet, and the program's first at three errors. -/
namespace Go.Proofs.YthihjphcjjpjpaaGreat
open Go.RowKit

theorem three_err {w : World} {g : Nat} {a b c : Int} {t : TypeId} (h : w.heap[g]? = some (.cells #[.int .i64 a, .int .i64 b, .int .i64 c] t (0, 0))) : ∀ i (hi : i < [a, b, c].length), w.cell? ⟨g, i, none⟩ = some (.int .i64 [a, b, c][i]) := by
  intro i hi
  have hi' : i = 0 ∨ i = 1 ∨ i = 2 := by simp at hi; omega
  rcases hi' with rfl | rfl | rfl <;> simp [World.cell?, h]
theorem netFirst3 (g d : Nat) (a b c : Int) (t : TypeId) (w : World) (h : w.heap[g]? = some (.cells #[.int .i64 a, .int .i64 b, .int .i64 c] t (0, 0))) :
    Calls Tryz.prog 28 #[.slice (some ⟨g, 0, none⟩) 3 d] w fun e w' => e = .returned (.int .i64 (firstE [a, b, c])) ∧ w = w' :=
  netFirst g d [a, b, c] w (by simp) (three_err h)
def sideR (n : Int) : Int := if n < 1 ∨ 256 < n then 3 else 0
def sheet1 (x y c r : Int) : Int := firstE [knotE x y, sideR c, sideR r]
def sheetE (x y c r : Int) : Int := if sheet1 x y c r = 0 then (if 4096 < 2 * c * r then 5 else if farB (x + 2 * c) || farB (y + r) then 3 else 0) else sheet1 x y c r
theorem sheet1_zero {x y c r : Int} (h : sheet1 x y c r = 0) : knotE x y = 0 ∧ 1 ≤ c ∧ c ≤ 256 ∧ 1 ≤ r ∧ r ≤ 256 := by
  unfold sheet1 firstE firstE firstE firstE at h
  split at h
  · rename_i h1
    split at h
    · rename_i h2
      split at h
      · rename_i h3
        unfold sideR at h2 h3
        split at h2
        · omega
        · split at h3 <;> omega
      · omega
    · omega
  · omega
theorem sheetE_zero {x y c r : Int} (h : sheetE x y c r = 0) : sheet1 x y c r = 0 ∧ 2 * c * r ≤ 4096 ∧ farB (x + 2 * c) = false ∧ farB (y + r) = false := by
  unfold sheetE at h
  split at h
  · rename_i h1
    split at h
    · omega
    · rename_i h2
      split at h
      · omega
      · rename_i h3
        simp at h3
        exact ⟨h1, by omega, h3.1, h3.2⟩
  · rename_i h1; exact absurd h h1
end Go.Proofs.YthihjphcjjpjpaaGreat

/- Contracts of the small functions of taper, and of the reference's. -/
namespace Go.Proofs.YthihjphcjjpjpaaGreat
open Go.RowKit

set_option maxHeartbeats 400000 in
theorem tpCheckRange (n lo hi : Int) (w : World) :
    Calls Tryz.prog 42 #[.int .i64 n, .int .i64 lo, .int .i64 hi] w fun e w' => e = .returned (.int .i64 (if n < lo ∨ hi < n then 3 else 0)) ∧ w = w' := by
  by_cases h1 : n < lo
  · go_enter Tryz.func42, Tryz.ntmps42
    go_wp2
    go_ret
    simp
  · by_cases h2 : hi < n
    all_goals
      go_enter Tryz.func42, Tryz.ntmps42
      go_wp2
      go_ret
      simp <;> omega

set_option maxHeartbeats 400000 in
theorem tpFirst (b c : Nat) (es : List Int) (w : World) (hn : es.length ≤ 100) (hc : ∀ i (h : i < es.length), w.cell? ⟨b, i, none⟩ = some (.int .i64 es[i])) :
    Calls Tryz.prog 40 #[.slice (some ⟨b, 0, none⟩) es.length c] w fun e w' => e = .returned (.int .i64 (firstE es)) ∧ w = w' := by
  have HC := Lib.hid hc
  have hn' : (es.length : Int) ≤ 100 := by omega
  clear hc
  go_enter Tryz.func40, Tryz.ntmps40
  go_wp2_with fail
  go_loop [4, 7] (fun _ i => ∃ k : Nat, k ≤ es.length ∧ i = .int .i64 k ∧ firstE es = firstE (es.drop k)) (fun _ i => es.length - (intOf i).toNat)
  case atStart => exact ⟨0, Nat.zero_le _, rfl, rfl⟩
  case round =>
    obtain ⟨k, hk, rfl, he⟩ := hrel
    have HE := Lib.hid he
    clear he
    by_cases hlt : k < es.length
    · have hcell := HC.out k hlt
      by_cases hz : es[k] = 0
      · have HF := Lib.hid (show firstE (es.drop k) = firstE (es.drop (k + 1)) by
          rw [List.drop_eq_getElem_cons hlt]
          simp only [firstE, hz, if_true])
        rw [hz] at hcell
        clear hz
        go_wp2
        go_round
        case rel => exact ⟨k + 1, by omega, by go_num, HE.out.trans HF.out⟩
        case measure => simp [intOf]; omega
      · have HF := Lib.hid (show firstE (es.drop k) = es[k] by
          rw [List.drop_eq_getElem_cons hlt]
          simp only [firstE, if_neg hz])
        have hz1 : (es[k] != 0) = true := by rw [bne_iff_ne]; exact hz
        clear hz
        go_wp2
        go_ret
        exact ⟨ret_i (HE.out.trans HF.out).symm, rfl⟩
    · obtain rfl : k = es.length := by omega
      have HF := Lib.hid (show firstE (es.drop es.length) = 0 by rw [List.drop_length]; rfl)
      go_wp2
      go_ret
      exact ⟨ret_i (HE.out.trans HF.out).symm, rfl⟩

theorem tpFirst2 (g d : Nat) (a b : Int) (t : TypeId) (w : World) (h : w.heap[g]? = some (.cells #[.int .i64 a, .int .i64 b] t (0, 0))) :
    Calls Tryz.prog 40 #[.slice (some ⟨g, 0, none⟩) 2 d] w fun e w' => e = .returned (.int .i64 (firstE [a, b])) ∧ w = w' :=
  tpFirst g d [a, b] w (by simp) (two_cells h)
theorem tpFirst3 (g d : Nat) (a b c : Int) (t : TypeId) (w : World) (h : w.heap[g]? = some (.cells #[.int .i64 a, .int .i64 b, .int .i64 c] t (0, 0))) :
    Calls Tryz.prog 40 #[.slice (some ⟨g, 0, none⟩) 3 d] w fun e w' => e = .returned (.int .i64 (firstE [a, b, c])) ∧ w = w' :=
  tpFirst g d [a, b, c] w (by simp) (three_err h)

/-! ### letters -/
def okC (c : UInt8) : Bool := c = 78 || c = 66 || c = 84
theorem okC_iff (c : UInt8) : okC c = true ↔ isL c := by simp [okC, isL, or_assoc]
set_option maxHeartbeats 400000 in
theorem tpIsLetter (c : UInt8) (w : World) (h : isL c) : Calls Tryz.prog 74 #[.int .i32 c.toNat] w fun e w' => e = .returned (.bool true) ∧ w = w' := by
  rcases h with rfl | rfl | rfl
  all_goals
    go_enter Tryz.func74, Tryz.ntmps74
    go_wp2
    go_ret
    exact ⟨rfl, rfl⟩
set_option maxHeartbeats 400000 in
theorem refIsLetter (c : UInt8) (w : World) : Calls Tryz.prog 32 #[.int .u8 c.toNat] w fun e w' => e = .returned (.bool (okC c)) ∧ w = w' := by
  by_cases h : isL c
  · have hk : okC c = true := (okC_iff c).2 h
    rw [hk]
    clear hk
    rcases h with rfl | rfl | rfl
    all_goals
      go_enter Tryz.func32, Tryz.ntmps32
      go_wp2
      go_ret
      exact ⟨rfl, rfl⟩
  · have hk : okC c = false := by rw [Bool.eq_false_iff]; exact fun h' => h ((okC_iff c).1 h')
    have n0 : ¬ (c.toNat : Int) = 78 := fun e => h (.inl (UInt8.toNat.inj (by show c.toNat = 78; omega)))
    have n1 : ¬ (c.toNat : Int) = 66 := fun e => h (.inr (.inl (UInt8.toNat.inj (by show c.toNat = 66; omega))))
    have n2 : ¬ (c.toNat : Int) = 84 := fun e => h (.inr (.inr (UInt8.toNat.inj (by show c.toNat = 84; omega))))
    rw [hk]
    clear h hk
    go_enter Tryz.func32, Tryz.ntmps32
    go_wp2
    go_ret
    simp [n0, n1, n2]
set_option maxHeartbeats 400000 in
theorem tpCheckLength (n : Int) (w : World) (h : n ≤ 64) : Calls Tryz.prog 64 #[.int .i64 n] w fun e w' => e = .returned (.int .i64 0) ∧ w = w' := by
  go_enter Tryz.func64, Tryz.ntmps64
  go_wp2
  go_ret
  exact ⟨rfl, rfl⟩
/-! ### further -/
set_option maxHeartbeats 1000000 in
theorem tpFurther (x y a b : Int) (o : Bool) (w : World) (hx1 : -200000 ≤ x) (hx2 : x ≤ 200000) (hy1 : -200000 ≤ y) (hy2 : y ≤ 200000) (ha1 : 0 ≤ a) (ha2 : a ≤ 2) (hb1 : 0 ≤ b) (hb2 : b ≤ 2) :
    Calls Tryz.prog 46 #[.agg #[.int .i64 x, .int .i64 y], .agg #[.int .i64 a, .int .i64 b], .bool o] w fun e w' => e = .returned (.agg #[.int .i64 (if o then x + a else x - a), .int .i64 (y + b)]) ∧ Below w.heap.size w w' := by
  cases o
  · go_enter Tryz.func46, Tryz.ntmps46
    go_wp2
    exact bodyPost_ret (v := .agg #[.int .i64 (x - a), .int .i64 (y + b)]) (by simp [results, Tryz.results46, go_sem]) rfl ⟨by simp, (((Below.refl _ _).alloc (Nat.le_refl _) _).alloc (by simp) _).alloc (by simp; omega) _⟩
  · go_enter Tryz.func46, Tryz.ntmps46
    go_wp2
    exact bodyPost_ret (v := .agg #[.int .i64 (x + a), .int .i64 (y + b)]) (by simp [results, Tryz.results46, go_sem]) rfl ⟨by simp, (((Below.refl _ _).alloc (Nat.le_refl _) _).alloc (by simp) _).alloc (by simp; omega) _⟩

/-! ### the reference's CheckWord -/
def wordE (l : List UInt8) : Int := if l = [] then 12 else if 64 < l.length then 26 else if l.all okC then 0 else 1
theorem byte_at (s : ByteArray) (k : Nat) (_ : k < s.size) (h' : k < s.data.toList.length) : s.data.toList[k] = s[k] := by
  rw [Array.getElem_toList]
  rfl
set_option maxHeartbeats 1000000 in
theorem refCheckWord (s : ByteArray) (w : World) (hs : s.size ≤ 1000) :
    Calls Tryz.prog 14 #[.string s] w fun e w' => e = .returned (.int .i64 (wordE s.data.toList)) ∧ w = w' := by
  go_enter Tryz.func14, Tryz.ntmps14
  go_wp2_with fail
  · rename_i h
    go_ret
    have h0 : s.data.toList = [] := by rw [← Lib.toList_data]; exact List.isEmpty_iff.1 h
    exact ⟨by rw [h0]; rfl, rfl⟩
  · rename_i h1 _ _ h2
    go_ret
    rw [Lib.toList_data] at h1
    have h0 : ¬ s.data.toList = [] := fun e => by rw [e] at h1; cases h1
    have h3 : 64 < s.data.toList.length := by rw [← Lib.size_eq]; omega
    exact ⟨ret_i (by rw [wordE, if_neg h0, if_pos h3]), rfl⟩
  · rename_i h1 h2 _ _
    rw [Lib.toList_data] at h1
    have h0 : ¬ s.data.toList = [] := fun e => by rw [e] at h1; cases h1
    have hsz : s.data.toList.length = s.size := (Lib.size_eq s).symm
    have HW := Lib.hid (show wordE s.data.toList = if s.data.toList.all okC then 0 else 1 by simp only [wordE, if_neg h0]; rw [if_neg (by omega)])
    have HZ := Lib.hid hsz
    clear h1 h2 h0 hsz
    go_loop [3] (fun i => ∃ k : Nat, k ≤ s.size ∧ i = .int .i64 k ∧ (s.data.toList.take k).all okC = true) (fun i => s.size - (intOf i).toNat)
    case atStart => exact ⟨0, Nat.zero_le _, rfl, by simp⟩
    case round =>
      obtain ⟨k, hk, rfl, hall⟩ := hrel
      by_cases hlt : k < s.size
      · have b0 : (0 : Int) ≤ (k : Int) := by omega
        have b1 : (k : Int) < (s.size : Int) := by omega
        have HA := Lib.hid hall
        clear hall
        go_wp2_with fail
        refine (refIsLetter (s[k]) _).mono ?_
        rintro e w2 ⟨rfl, rfl⟩
        have hkl : k < s.data.toList.length := by rw [HZ.out]; exact hlt
        have hel : s.data.toList[k] = s[k] := byte_at s k hlt hkl
        by_cases hok : okC (s[k]) = true
        · have HA2 := Lib.hid (show (s.data.toList.take (k + 1)).all okC = true by
            rw [List.take_succ_eq_append_getElem hkl, List.all_append, HA.out, hel]
            simp [hok])
          rw [hok]
          clear hok hel
          go_wp2
          go_round
          case rel => exact ⟨k + 1, by omega, by go_num, HA2.out⟩
          case measure => simp [intOf]; omega
        · have hf : okC (s[k]) = false := by simpa using hok
          have HE := Lib.hid (show wordE s.data.toList = 1 by
            rw [HW.out, if_neg]
            intro h
            rw [List.all_eq_true] at h
            have := h _ (List.getElem_mem hkl)
            rw [hel, hf] at this
            cases this)
          rw [hf]
          clear hok hel hf
          go_wp2
          go_ret
          exact ⟨ret_i HE.out.symm, rfl⟩
      · have HE := Lib.hid (show wordE s.data.toList = 0 by
          rw [HW.out, if_pos]
          rwa [List.take_of_length_le (by rw [HZ.out]; omega)] at hall)
        clear hall
        go_wp2
        go_ret
        exact ⟨ret_i HE.out.symm, rfl⟩
end Go.Proofs.YthihjphcjjpjpaaGreat

/- Words without an error: checkLetters and CheckWord of taper. -/
namespace Go.Proofs.YthihjphcjjpjpaaGreat
open Go.RowKit

theorem isL_small {c : UInt8} (h : isL c) : c.toNat < 128 := by rcases h with rfl | rfl | rfl <;> decide
set_option maxHeartbeats 1000000 in
set_option maxRecDepth 100000 in
theorem tpCheckLetters (s : ByteArray) (w : World) (hl : ∀ c ∈ s.data.toList, isL c) :
    Calls Tryz.prog 65 #[.string s] w fun e w' => e = .returned (.int .i64 0) ∧ Below w.heap.size w w' := by
  have hk0 : (w.iter s 0).heap[w.heap.size]? = some (.stringIter s 0) := by have := World.iter_heap w s 0; simpa using this
  have hb0 : Below w.heap.size w (w.iter s 0) := (Below.refl _ w).alloc (Nat.le_refl _) _
  have HL := Lib.hid hl
  clear hl
  go_enter Tryz.func65, Tryz.ntmps65
  go_wp2_with fail
  go_loopw [4] (fun _ wr => ∃ pos : Nat, pos ≤ s.size ∧ wr.heap[w.heap.size]? = some (.stringIter s pos) ∧ Below w.heap.size w wr) (fun _ wr => s.size - wr.iterPos w.heap.size)
  case atStart => exact ⟨0, Nat.zero_le _, hk0, hb0⟩
  case round =>
    obtain ⟨pos, hps, hk, hb⟩ := hrel
    clear hk0 hb0
    by_cases hp : pos < s.size
    · have hkl : pos < s.data.toList.length := by rw [← Lib.size_eq]; exact hp
      have hL : isL (s[pos]) := by rw [← byte_at s pos hp hkl]; exact HL.out _ (List.getElem_mem hkl)
      have hnext : ∀ ty, (Instr.next (.pointer (some ⟨w.heap.size, 0, none⟩)) true ty).run Tryz.prog wr = _ := fun ty => Lib.run_next_ascii_at wr w.heap.size s pos ty hk hp (isL_small hL)
      have hk1 := Lib.iterAt_heap wr w.heap.size s pos (pos + 1) hk
      have hb1 : Below w.heap.size w (wr.iterAt w.heap.size s (pos + 1)) := Lib.below_iterAt hb (Nat.le_refl _) s (pos + 1)
      have hmu : wr.iterPos w.heap.size = pos := by simp [World.iterPos, hk]
      generalize wr.iterAt w.heap.size s (pos + 1) = W1 at hnext hk1 hb1
      go_wp2_with fail
      refine (tpIsLetter (s[pos]) _ hL).mono ?_
      rintro e w2 ⟨rfl, rfl⟩
      go_wp2
      go_roundw
      case rel => exact ⟨pos + 1, by omega, hk1, hb1⟩
      case measure =>
        have hmu2 : W1.iterPos w.heap.size = pos + 1 := by simp [World.iterPos, hk1]
        rw [hmu, hmu2]
        omega
    · have hnext : ∀ ty, (Instr.next (.pointer (some ⟨w.heap.size, 0, none⟩)) true ty).run Tryz.prog wr = _ := fun ty => Lib.run_next_end_at wr w.heap.size s pos ty hk hp
      go_wp2
      go_ret
      exact ⟨rfl, hb⟩
/-- A word without an error. -/
def Word (s : ByteArray) : Prop := (∀ c ∈ s.data.toList, isL c) ∧ 1 ≤ s.size ∧ s.size ≤ 64
theorem wordE_zero {s : ByteArray} (h : wordE s.data.toList = 0) : Word s := by
  have hz := Lib.size_eq s
  unfold wordE at h
  split at h
  · cases h
  · rename_i h1
    split at h
    · cases h
    · rename_i h2
      split at h
      · rename_i h3
        rw [List.all_eq_true] at h3
        refine ⟨fun c hc => (okC_iff c).1 (h3 c hc), ?_, by omega⟩
        cases hl : s.data.toList with
        | nil => exact absurd hl h1
        | cons a r => rw [hz, hl]; simp
      · cases h
set_option maxHeartbeats 1000000 in
set_option maxRecDepth 100000 in
theorem tpCheckWord (s : ByteArray) (w : World) (h : Word s) :
    Calls Tryz.prog 41 #[.string s] w fun e w' => e = .returned (.int .i64 0) ∧ Below w.heap.size w w' := by
  obtain ⟨hl, h1, h2⟩ := h
  have hne : s.toList.isEmpty = false := by
    rw [Lib.toList_data]
    have := Lib.size_eq s
    cases hs : s.data.toList with
    | nil => rw [hs, List.length_nil] at this; omega
    | cons a r => rfl
  have hn64 : (s.size : Int) ≤ 64 := by omega
  go_enter Tryz.func41, Tryz.ntmps41
  go_wp2_with fail
  refine (tpCheckLength _ _ hn64).mono ?_
  rintro e w1 ⟨rfl, rfl⟩
  go_wp2_with fail
  refine (tpCheckLetters s _ hl).mono ?_
  rintro e w2 ⟨rfl, hb⟩
  go_wp2_with fail
  refine (tpFirst2 _ _ 0 0 30 _ (by exact heap_alloc_new _ _)).mono ?_
  rintro e w3 ⟨rfl, rfl⟩
  rw [show firstE [0, 0] = 0 from rfl]
  go_wp2
  go_ret
  exact ⟨rfl, hb.alloc hb.size _⟩
end Go.Proofs.YthihjphcjjpjpaaGreat

/- The map of the letters' vectors. -/
namespace Go.Proofs.YthihjphcjjpjpaaGreat
open Go.RowKit Go.ChangeMaps Go.MapKept

def ve (c a b : Int) (n : Nat) : MapEntry := { key := .int .i32 c, val := .agg #[.int .i64 a, .int .i64 b], born := n }
/-- Block b is the map of the three vectors. -/
def VecAt (w : World) (b : Nat) : Prop := w.heap[b]? = some (.map #[ve 78 0 2 0, ve 66 1 1 1, ve 84 2 0 2] 3)
theorem VecAt.lt {w : World} {b : Nat} (h : VecAt w b) : b < w.heap.size := (Array.getElem?_eq_some_iff.1 h).1
theorem VecAt.of_block {w w' : World} {b : Nat} (h : VecAt w b) (hb : w'.heap[b]? = w.heap[b]?) : VecAt w' b := hb.trans h
theorem vecUpdate {w : World} {b : Nat} {es : Array MapEntry} {clock : Nat} (h1 : w.heap[b]? = some (.map es clock)) (c x y : Int)
    (hc : (Instr.checkKey false 10000 21 (.int .i32 c)).run Tryz.prog w = .ok () w ∧ (Instr.checkKey true 10000 21 (.int .i32 c)).run Tryz.prog w = .ok () w)
    (hf : (Instr.findKey 21 (.int .i32 c) es.toList).run Tryz.prog w = .ok none w) :
    (Instr.mapUpdate 87 (.map (some b)) (.int .i32 c) (.agg #[.int .i64 x, .int .i64 y])).run Tryz.prog w = .ok () (setBlock w b (.map (es.push (ve c x y clock)) (clock + 1))) := by
  simp [Instr.mapUpdate, run_underlying Tryz.underlying87, MapKept.run_getObj_map h1, hc.1, hf, MapKept.run_setObj_map _ h1, Result.andThen, setBlock, ve]
theorem vecLookup {w : World} {b : Nat} (h : VecAt w b) {c : UInt8} (hc : isL c) :
    (Instr.lookup 87 (.map (some b)) (.int .i32 c.toNat) false).run Tryz.prog w = .ok (.agg #[.int .i64 (dxL c), .int .i64 (dyL c)]) w := by
  rcases hc with rfl | rfl | rfl
  · have h1 : (Instr.checkKey false 10000 21 (.int .i32 78)).run Tryz.prog w = .ok () w := by kernel_rfl
    have h2 : (Instr.findKey 21 (.int .i32 78) [ve 78 0 2 0, ve 66 1 1 1, ve 84 2 0 2]).run Tryz.prog w = .ok (some (0, .agg #[.int .i64 0, .int .i64 2])) w := by kernel_rfl
    simp [Instr.lookup, run_underlying Tryz.underlying87, MapKept.run_getObj_map h, h1, h2, Result.andThen, dxL, dyL]
  · have h1 : (Instr.checkKey false 10000 21 (.int .i32 66)).run Tryz.prog w = .ok () w := by kernel_rfl
    have h2 : (Instr.findKey 21 (.int .i32 66) [ve 78 0 2 0, ve 66 1 1 1, ve 84 2 0 2]).run Tryz.prog w = .ok (some (1, .agg #[.int .i64 1, .int .i64 1])) w := by kernel_rfl
    simp [Instr.lookup, run_underlying Tryz.underlying87, MapKept.run_getObj_map h, h1, h2, Result.andThen, dxL, dyL]
  · have h1 : (Instr.checkKey false 10000 21 (.int .i32 84)).run Tryz.prog w = .ok () w := by kernel_rfl
    have h2 : (Instr.findKey 21 (.int .i32 84) [ve 78 0 2 0, ve 66 1 1 1, ve 84 2 0 2]).run Tryz.prog w = .ok (some (2, .agg #[.int .i64 2, .int .i64 0])) w := by kernel_rfl
    simp [Instr.lookup, run_underlying Tryz.underlying87, MapKept.run_getObj_map h, h1, h2, Result.andThen, dxL, dyL]

theorem vec_three (w : World) : ∃ w1 w2 w3, (Instr.mapUpdate 87 (.map (some w.heap.size)) (.int .i32 78) (.agg #[.int .i64 0, .int .i64 2])).run Tryz.prog (w.alloc (.map #[] 0)) = .ok () w1 ∧
    (Instr.mapUpdate 87 (.map (some w.heap.size)) (.int .i32 66) (.agg #[.int .i64 1, .int .i64 1])).run Tryz.prog w1 = .ok () w2 ∧
    (Instr.mapUpdate 87 (.map (some w.heap.size)) (.int .i32 84) (.agg #[.int .i64 2, .int .i64 0])).run Tryz.prog w2 = .ok () w3 ∧ VecAt w3 w.heap.size ∧ Below w.heap.size w w3 := by
  have g0 : (w.alloc (.map #[] 0)).heap[w.heap.size]? = some (.map #[] 0) := heap_alloc_new _ _
  have b0 : Below w.heap.size w (w.alloc (.map #[] 0)) := (Below.refl _ _).alloc (Nat.le_refl _) _
  have grown : ∀ (w1 : World) (es : Array MapEntry) (cl : Nat) (o : Obj), w1.heap[w.heap.size]? = some (.map es cl) → Below w.heap.size w w1 → Below w.heap.size w (setBlock w1 w.heap.size o) := fun w1 es cl o h hb =>
    hb.grown (row := some w.heap.size) ⟨rfl, rfl, rfl, by simp [setBlock], fun i _ hi => heap_setBlock_other h _ (fun e => hi (by rw [e]))⟩ hb.size (fun k e => by cases e; exact Nat.le_refl _)
  have u1 := vecUpdate g0 78 0 2 ⟨by kernel_rfl, by kernel_rfl⟩ (by kernel_rfl)
  have g1 := heap_setBlock_same g0 (.map (#[].push (ve 78 0 2 0)) 1)
  have b1 := grown _ _ _ (.map (#[].push (ve 78 0 2 0)) 1) g0 b0
  have u2 := vecUpdate g1 66 1 1 ⟨by kernel_rfl, by kernel_rfl⟩ (by kernel_rfl)
  have g2 := heap_setBlock_same g1 (.map ((#[].push (ve 78 0 2 0)).push (ve 66 1 1 1)) 2)
  have b2 := grown _ _ _ (.map ((#[].push (ve 78 0 2 0)).push (ve 66 1 1 1)) 2) g1 b1
  have u3 := vecUpdate g2 84 2 0 ⟨by kernel_rfl, by kernel_rfl⟩ (by kernel_rfl)
  have g3 := heap_setBlock_same g2 (.map (((#[].push (ve 78 0 2 0)).push (ve 66 1 1 1)).push (ve 84 2 0 2)) 3)
  have b3 := grown _ _ _ (.map (((#[].push (ve 78 0 2 0)).push (ve 66 1 1 1)).push (ve 84 2 0 2)) 3) g2 b2
  exact ⟨_, _, _, u1, u2, u3, g3, b3⟩
set_option maxHeartbeats 1000000 in
set_option maxRecDepth 100000 in
theorem tpVectors (w : World) :
    Calls Tryz.prog 44 #[] w fun e w' => e = .returned (.map (some w.heap.size)) ∧ VecAt w' w.heap.size ∧ Below w.heap.size w w' := by
  have hmm := @run_makeMap Tryz.prog
  obtain ⟨w1, w2, w3, u1, u2, u3, hv, hb⟩ := vec_three w
  go_enter Tryz.func44, Tryz.ntmps44
  go_wp2
  go_ret
  exact ⟨rfl, hv, hb⟩
end Go.Proofs.YthihjphcjjpjpaaGreat

/- A word several times; the closure of legs. -/
namespace Go.Proofs.YthihjphcjjpjpaaGreat
open Go.RowKit Go.Shelf

theorem Tryz.repX : Builder.Extra Tryz.prog Tryz.rep_ren := {
  sizeBuilder := by kernel_rfl,
  liesBuilder := by kernel_rfl,
  t5 := Tryz.rep.t5,
  a5 := Tryz.rep.a5,
  z5 := Tryz.rep.z5,
  v5 := Tryz.rep.v5,
  infoByte := by kernel_rfl,
  cellsByte := by kernel_rfl,
  sizeByte := by kernel_rfl,
  neB5 := by decide }
theorem Tryz.repF : Tryz.rep_ren.f 105 = 66 := by kernel_rfl
theorem strRepeat (s : ByteArray) (c : Nat) (w : World) (hs : s.size ≤ 64) (hc : c ≤ 256) :
    Calls Tryz.prog 66 #[.string s, .int .i64 c] w fun e w' => e = .returned (.string ⟨(Lib.repeatL s.data.toList c).toArray⟩) ∧ Below w.heap.size w w' := by
  have hb : s.size * c ≤ 140737488355328 := Nat.le_trans (Nat.mul_le_mul hs hc) (by decide)
  have h := Any.strings_Repeat Tryz.rep Tryz.repX s c w (by omega) hb
  rw [Tryz.repF] at h
  exact h
theorem tpRepeated (s : ByteArray) (c : Nat) (w : World) (hs : s.size ≤ 64) (hc : c ≤ 256) :
    Calls Tryz.prog 45 #[.string s, .int .i64 c] w fun e w' => e = .returned (.string ⟨(Lib.repeatL s.data.toList c).toArray⟩) ∧ Below w.heap.size w w' := by
  go_enter Tryz.func45, Tryz.ntmps45
  go_wp2_with fail
  refine (strRepeat s c _ hs hc).mono ?_
  rintro e w1 ⟨rfl, hb⟩
  go_wp2
  go_ret
  exact ⟨rfl, hb⟩
theorem tpLegs (x y : Int) (s : ByteArray) (n : Int) (o : Bool) (w : World) :
    Calls Tryz.prog 19 #[.agg #[.int .i64 x, .int .i64 y], .string s, .int .i64 n, .bool o] w fun e w' =>
      e = .returned (.func (.func 43) #[] #[.pointer (some ⟨w.heap.size, 0, none⟩), .pointer (some ⟨w.heap.size + 1, 0, none⟩), .pointer (some ⟨w.heap.size + 2, 0, none⟩), .pointer (some ⟨w.heap.size + 3, 0, none⟩)]) ∧
      w' = (((w.alloc (.cells #[.int .i64 x, .int .i64 y] 23)).alloc (.cells #[.string s] 9)).alloc (.cells #[.int .i64 n] 3)).alloc (.cells #[.bool o] 4) := by
  go_enter Tryz.func19, Tryz.ntmps19
  go_wp2
  go_ret
  exact ⟨by simp, rfl⟩
end Go.Proofs.YthihjphcjjpjpaaGreat

/- The letters of an edge, one after another: what legs visits. -/
namespace Go.Proofs.YthihjphcjjpjpaaGreat
open Go.RowKit Go.Shelf Ck

def sg (o : Bool) : Int := if o then 1 else -1
theorem sg_or (o : Bool) : sg o = 1 ∨ sg o = -1 := by cases o <;> simp [sg]
def legsL (σ : Int) : Knot → List UInt8 → List (UInt8 × Knot × Knot)
  | _, [] => []
  | k, c :: r => (c, k, stepK σ k c) :: legsL σ (stepK σ k c) r
def posK (σ : Int) (k : Knot) (l : List UInt8) : Knot := l.foldl (stepK σ) k
theorem posK_snoc (σ : Int) (k : Knot) (l : List UInt8) (c : UInt8) : posK σ k (l ++ [c]) = stepK σ (posK σ k l) c := by simp [posK]
theorem legsL_snoc (σ : Int) : ∀ (l : List UInt8) (k : Knot) (c : UInt8), legsL σ k (l ++ [c]) = legsL σ k l ++ [(c, posK σ k l, stepK σ (posK σ k l) c)]
  | [], _, _ => rfl
  | a :: r, k, c => by
    rw [List.cons_append, legsL, legsL_snoc σ r]
    rfl
theorem legsL_append (σ : Int) : ∀ (l : List UInt8) (k : Knot) (r : List UInt8), legsL σ k (l ++ r) = legsL σ k l ++ legsL σ (posK σ k l) r
  | [], _, _ => rfl
  | a :: l, k, r => by
    rw [List.cons_append, legsL, legsL_append σ l]
    rfl
theorem legsL_length (σ : Int) : ∀ (l : List UInt8) (k : Knot), (legsL σ k l).length = l.length
  | [], _ => rfl
  | _ :: r, k => by rw [legsL, List.length_cons, legsL_length σ r, List.length_cons]
theorem step_near (o : Bool) {k : Knot} {c : UInt8} (hc : isL c) : (stepK (sg o) k c).x ≤ k.x + 2 ∧ k.x - 2 ≤ (stepK (sg o) k c).x ∧ (stepK (sg o) k c).y ≤ k.y + 2 ∧ k.y ≤ (stepK (sg o) k c).y := by
  rcases hc with rfl | rfl | rfl <;> cases o <;> simp [stepK, sg, dxL, dyL] <;> omega
def legArr (x : UInt8 × Knot × Knot) : Array Value := #[.agg #[.int .i32 (x.1.toNat : Int), .int .i64 x.2.1.x, .int .i64 x.2.1.y, .int .i64 x.2.2.x, .int .i64 x.2.2.y]]
/-- From block B1 on: maps, iterators, boxes of a knot, and cells of other types than e lie as they lay. -/
def KT (B1 : Nat) (e : TypeId) (W W' : World) : Prop := W.heap.size ≤ W'.heap.size ∧ ∀ b o, B1 ≤ b → W.heap[b]? = some o → (o.isWalk = true ∨ ∃ cs t f, o = .cells cs t f ∧ (t ≠ e ∨ t = 23 ∧ cs.size = 2)) → W'.heap[b]? = some o
theorem KT.trans {B1 : Nat} {e : TypeId} {A B C : World} (h : KT B1 e A B) (k : KT B1 e B C) : KT B1 e A C := ⟨Nat.le_trans h.1 k.1, fun b o hb ho hk => k.2 b o hb (h.2 b o hb ho hk) hk⟩
theorem KT.put {B1 : Nat} {e : TypeId} {w : World} (W : World) (l : Nat) (o o' : Obj) (_ : w.heap.size ≤ l) (hl : W.heap[l]? = some o) (h1 : o.isCells = false) (h2 : o.isWalk = false) : KT B1 e W (W.putObj l o') :=
  ⟨by simp, fun b ob _ hob hk => by
    have : b ≠ l := by
      rintro rfl
      rw [hl] at hob
      cases hob
      rcases hk with hk | ⟨cs, t, f, rfl, _⟩
      · rw [h2] at hk; cases hk
      · cases h1
    exact (World.putObj_heap_other this).trans hob⟩
theorem KT.of_below {B1 : Nat} {e : TypeId} {W W' : World} (h : Below W.heap.size W W') : KT B1 e W W' := ⟨h.size, fun b _ _ ho _ => (h.block b (Array.getElem?_eq_some_iff.1 ho).1).trans ho⟩

theorem tpFurtherK (k : Knot) (c : UInt8) (o : Bool) (w : World) (hc : isL c) (hx1 : -200000 ≤ k.x) (hx2 : k.x ≤ 200000) (hy1 : -200000 ≤ k.y) (hy2 : k.y ≤ 200000) :
    Calls Tryz.prog 46 #[.agg #[.int .i64 k.x, .int .i64 k.y], .agg #[.int .i64 (dxL c), .int .i64 (dyL c)], .bool o] w fun e w' => e = .returned (.agg #[.int .i64 (stepK (sg o) k c).x, .int .i64 (stepK (sg o) k c).y]) ∧ Below w.heap.size w w' := by
  have hd : 0 ≤ dxL c ∧ dxL c ≤ 2 ∧ 0 ≤ dyL c ∧ dyL c ≤ 2 := by rcases hc with rfl | rfl | rfl <;> simp [dxL, dyL]
  refine (tpFurther k.x k.y (dxL c) (dyL c) o w hx1 hx2 hy1 hy2 hd.1 hd.2.1 hd.2.2.1 hd.2.2.2).mono fun e w' h => ⟨?_, h.2⟩
  rw [h.1]
  cases o <;> simp [stepK, sg, Int.sub_eq_add_neg]
theorem two_cell {W : World} {b : Nat} {u v : Value} {t : TypeId} (h : W.heap[b]? = some (.cells #[u, v] t (0, 0))) : W.cell? ⟨b, 0, none⟩ = some u ∧ W.cell? ⟨b, 1, none⟩ = some v ∧ W.frozen? ⟨b, 0, none⟩ = false ∧ W.frozen? ⟨b, 1, none⟩ = false := by
  refine ⟨?_, ?_, ?_, ?_⟩ <;> simp [World.cell?, World.frozen?, h]
theorem two_set {W : World} {b : Nat} {u v : Value} {t : TypeId} (h : W.heap[b]? = some (.cells #[u, v] t (0, 0))) (p q : Value) :
    ((W.setCell ⟨b, 0, none⟩ p).setCell ⟨b, 1, none⟩ q).heap[b]? = some (.cells #[p, q] t (0, 0)) ∧ W.grownBy ((W.setCell ⟨b, 0, none⟩ p).setCell ⟨b, 1, none⟩ q) (some b) := by
  have e0 : (W.setCell ⟨b, 0, none⟩ p).heap[b]? = some (.cells #[p, v] t (0, 0)) := by
    simp only [World.setCell, Array.getElem?_modify, if_true, h, Option.map_some]
    rfl
  have e1 : ((W.setCell ⟨b, 0, none⟩ p).setCell ⟨b, 1, none⟩ q).heap[b]? = some (.cells #[p, q] t (0, 0)) := by
    generalize W.setCell ⟨b, 0, none⟩ p = X at *
    simp only [World.setCell, Array.getElem?_modify, if_true, e0, Option.map_some]
    rfl
  refine ⟨e1, ⟨rfl, rfl, rfl, by simp [World.setCell], fun i _ hne => ?_⟩⟩
  have : i ≠ b := fun e => hne (by rw [e])
  exact (Below.heap_setCell _ _ _ i this).trans (Below.heap_setCell _ _ _ i this)
theorem one_cell {W : World} {b : Nat} {u : Value} {t : TypeId} (h : W.heap[b]? = some (.cells #[u] t (0, 0))) : W.cell? ⟨b, 0, none⟩ = some u := by
  simp [World.cell?, h]

set_option maxHeartbeats 4000000 in
set_option maxRecDepth 100000 in
theorem legs_visits (B1 n Ba Bs Bn Bb : Nat) (te : TypeId) (hn : 3 ≤ n) (x y : Int) (s : ByteArray) (c : Nat) (o : Bool) (w : World) (ht2 : 4 ≠ te) (hs : Word s) (hlen : c * s.size ≤ 256) (hx1 : -100000 ≤ x) (hx2 : x ≤ 100000) (hy1 : -100000 ≤ y) (hy2 : y ≤ 100000)
    (hBb1 : B1 ≤ Bb) (_ : B1 ≤ w.heap.size)
    (ha : w.heap[Ba]? = some (.cells #[.int .i64 x, .int .i64 y] 23 (0, 0))) (hb : w.heap[Bs]? = some (.cells #[.string s] 9 (0, 0))) (hcn : w.heap[Bn]? = some (.cells #[.int .i64 c] 3 (0, 0))) (ho : w.heap[Bb]? = some (.cells #[.bool o] 4 (0, 0))) :
    Visits Tryz.prog n 23 43 #[.pointer (some ⟨Ba, 0, none⟩), .pointer (some ⟨Bs, 0, none⟩), .pointer (some ⟨Bn, 0, none⟩), .pointer (some ⟨Bb, 0, none⟩)] legArr (KT B1 te) (fun ss => ss = legsL (sg o) ⟨x, y⟩ (Lib.repeatL s.data.toList c)) (fun pre x' => ∃ r, legsL (sg o) ⟨x, y⟩ (Lib.repeatL s.data.toList c) = pre ++ x' :: r) w := by
  intro l J W hbw hJ hY h0
  have h1n : 1 ≤ n := by omega
  have fv : Fence.wide.fn 44 := trivial
  have fr : Fence.wide.fn 45 := trivial
  have ff : Fence.wide.fn 46 := trivial
  have za := (Array.getElem?_eq_some_iff.1 ha).1
  have zb := (Array.getElem?_eq_some_iff.1 hb).1
  have zc := (Array.getElem?_eq_some_iff.1 hcn).1
  have zo := (Array.getElem?_eq_some_iff.1 ho).1
  have hWz := hbw.size
  -- what is repeated
  have hc256 : c ≤ 256 := by have := Nat.mul_le_mul_left c hs.2.1; omega
  obtain ⟨L, hL⟩ : ∃ L, Lib.repeatL s.data.toList c = L := ⟨_, rfl⟩
  have hLl : L.length ≤ 256 := by rw [← hL, Lib.repeatL_length, ← Lib.size_eq]; exact hlen
  have hLL : ∀ q ∈ L, isL q := by
    rw [← hL]
    clear hL hLl hlen hcn hc256 hY
    induction c with
    | zero => intro q hq; simp [Lib.repeatL] at hq
    | succ c ih => intro q hq; rw [Lib.repeatL, List.mem_append] at hq; exact hq.elim (hs.1 q) (ih q)
  obtain ⟨S, hS⟩ : ∃ S : ByteArray, S = ⟨L.toArray⟩ := ⟨_, rfl⟩
  have hSz : S.size = L.length := by rw [hS]; simp [ByteArray.size]
  have hSd : S.data.toList = L := by rw [hS]
  have HS := Lib.hid hS
  have HSZ := Lib.hid hSz
  have HSD := Lib.hid hSd
  clear hS hSz hSd
  obtain ⟨a0, a1, -, -⟩ := two_cell ((hbw.block Ba za).trans ha)
  have b0 := one_cell ((hbw.block Bs zb).trans hb)
  have c0 := one_cell ((hbw.block Bn zc).trans hcn)
  have hoW := (hbw.block Bb zo).trans ho
  refine callsIn_of_wp Tryz.func43 rfl trivial ?_ rfl
  simp only [Tryz.ntmps43, List.size_toArray, List.length_cons, List.length_nil, Nat.reduceAdd, Nat.reduceSub, Array.replicate_succ, Array.replicate_zero, List.push_toArray, List.append_toArray, List.nil_append, List.cons_append]
  have hj0 := h0
  clear h0
  gi_wp2_with (first
    | (gi_at_call 44; refine (callsIn_wide.2 (tpVectors _)).mono ?_; rintro e w1 ⟨rfl, hv1, hb1⟩; have hzv := hv1.lt; have hz1 := hb1.size; have e0 := (hb1.cell (p := ⟨Ba, 0, none⟩) (by show Ba < _; omega)).trans a0; have e1 := (hb1.cell (p := ⟨Ba, 1, none⟩) (by show Ba < _; omega)).trans a1; obtain ⟨w2, hw2, -, -, hb2, hz2⟩ := box2 w1 (.int .i64 x) (.int .i64 y) 23; have e2 := ((hb2.cell (p := ⟨Bs, 0, none⟩) (by show Bs < _; omega)).trans (hb1.cell (p := ⟨Bs, 0, none⟩) (by show Bs < _; omega))).trans b0; have e3 := ((hb2.cell (p := ⟨Bn, 0, none⟩) (by show Bn < _; omega)).trans (hb1.cell (p := ⟨Bn, 0, none⟩) (by show Bn < _; omega))).trans c0; have hw2' := hw2.symm; clear hw2)
    | (gi_at_call 45; refine (callsIn_wide.2 (tpRepeated s c _ (by have := hs.2.2; omega) hc256)).mono ?_; rintro e w3 ⟨rfl, hb3⟩; rw [hL, ← HS.out]))
  have HJ := Lib.hid hJ
  have hz3 := hb3.size
  -- the worlds up to the loop
  have hjr : J [] (w3.iter S 0) := hJ.below (hJ.below (hJ.below (hJ.below hj0 (hb1.mono (Nat.le_refl _))) (hw2' ▸ hb2)) hb3) ((Below.refl _ _).alloc (Nat.le_refl _) _)
  have hBw : Below W.heap.size W (w3.iter S 0) := (((hb1.trans (hb2.mono hz1)).trans (hb3.mono (by omega)))).alloc (by omega) _
  have hit0 : (w3.iter S 0).heap[w3.heap.size]? = some (.stringIter S 0) := World.iter_heap w3 S 0
  have hv3 : VecAt (w3.iter S 0) W.heap.size := by
    have q1 := hv1.lt
    refine hv1.of_block ?_
    rw [show (w3.iter S 0).heap[W.heap.size]? = w3.heap[W.heap.size]? from Below.heap_alloc _ _ _ (by omega), hb3.block _ (by omega), hb2.block _ q1]
  have hf3 : (w3.iter S 0).heap[w1.heap.size]? = some (.cells #[.int .i64 x, .int .i64 y] 23 (0, 0)) := by
    rw [show (w3.iter S 0).heap[w1.heap.size]? = w3.heap[w1.heap.size]? from Below.heap_alloc _ _ _ (by omega), hb3.block _ hz2, ← hw2']
    exact heap_alloc_new _ _
  have ho3 := (hBw.block Bb (by omega)).trans hoW
  generalize w3.iter S 0 = w4 at *
  clear hw2' hb2 hb3 hv1 hb1 e0 e1 e2 e3 hj0 a0 a1 b0 c0
  gi_loopw [9] (fun _ wr => ∃ (pos : Nat) (k : Knot), pos ≤ L.length ∧ k = posK (sg o) ⟨x, y⟩ (L.take pos) ∧ (k.x ≤ 100000 + 2 * (pos : Int) ∧ -100000 - 2 * (pos : Int) ≤ k.x ∧ k.y ≤ 100000 + 2 * (pos : Int) ∧ -100000 ≤ k.y) ∧
      wr.heap[w3.heap.size]? = some (.stringIter S pos) ∧ VecAt wr W.heap.size ∧ wr.heap[w1.heap.size]? = some (.cells #[.int .i64 k.x, .int .i64 k.y] 23 (0, 0)) ∧ wr.heap[Bb]? = some (.cells #[.bool o] 4 (0, 0)) ∧ J (legsL (sg o) ⟨x, y⟩ (L.take pos)) wr) (fun _ wr => S.size - wr.iterPos w3.heap.size)
  case atStart => exact ⟨0, ⟨x, y⟩, Nat.zero_le _, rfl, ⟨by simp; omega, by simp; omega, by simp; omega, hy1⟩, hit0, hv3, hf3, ho3, hjr⟩
  case round =>
    obtain ⟨pos, k, hpos, hk, ⟨kx1, kx2, ky1, ky2⟩, hit, hv, hf, hob, hj⟩ := hrel
    clear hit0 hv3 hf3 ho3 hjr
    by_cases hp : pos < S.size
    · have hSz := HSZ.out
      have hpl : pos < L.length := by omega
      have hkl : pos < S.data.toList.length := by rw [HSD.out]; exact hpl
      have hel : S[pos] = L[pos] := by rw [← byte_at S pos hp hkl]; simp only [HSD.out]
      obtain ⟨q, hq⟩ : ∃ q, q = L[pos] := ⟨_, rfl⟩
      have hLq : isL q := hq ▸ hLL _ (List.getElem_mem hpl)
      rw [← hq] at hel
      have hnext : ∀ ty, (Instr.next (.pointer (some ⟨w3.heap.size, 0, none⟩)) true ty).run Tryz.prog wr = _ := fun ty => Lib.run_next_ascii_at wr w3.heap.size S pos ty hit hp (by rw [hel]; exact isL_small hLq)
      rw [hel] at hnext
      have hmu : wr.iterPos w3.heap.size = pos := by simp [World.iterPos, hit]
      have hit1 := Lib.iterAt_heap wr w3.heap.size S pos (pos + 1) hit
      have hzi := (Array.getElem?_eq_some_iff.1 hit).1
      have hv1 := hv.of_block (Lib.iterAt_other wr w3.heap.size W.heap.size S (pos + 1) (by omega))
      have hf1 := (Lib.iterAt_other wr w3.heap.size w1.heap.size S (pos + 1) (by omega)).trans hf
      have hob1 := (Lib.iterAt_other wr w3.heap.size Bb S (pos + 1) (by omega)).trans hob
      have hgi : wr.grownBy (wr.iterAt w3.heap.size S (pos + 1)) (some w3.heap.size) := ⟨rfl, rfl, rfl, by simp [World.iterAt], fun i _ hi => Lib.iterAt_other _ _ _ _ _ (fun e => hi (by rw [e]))⟩
      have hj1 := HJ.out _ _ _ (some w3.heap.size) hj hgi (fun b e => by cases e; exact ⟨by omega, _, hit, .inl rfl⟩)
      generalize wr.iterAt w3.heap.size S (pos + 1) = W1 at hnext hit1 hv1 hf1 hob1 hj1
      clear hgi
      obtain ⟨f0, f1, -, -⟩ := two_cell hf1
      have o1 := one_cell hob1
      have hlk := vecLookup hv1 hLq
      obtain ⟨k', hk'⟩ : ∃ k', k' = stepK (sg o) k q := ⟨_, rfl⟩
      obtain ⟨n1, n2, n3, n4⟩ := step_near o (k := k) hLq
      rw [← hk'] at n1 n2 n3 n4
      have HK := Lib.hid hk'
      have HKK := Lib.hid hk
      have HQ := Lib.hid hq
      have HSNOC := Lib.hid (show legsL (sg o) ⟨x, y⟩ (L.take (pos + 1)) = legsL (sg o) ⟨x, y⟩ (L.take pos) ++ [(q, k, k')] by
        rw [List.take_succ_eq_append_getElem hpl, legsL_snoc, ← hk, ← hq, ← hk'])
      have HPOS := Lib.hid (show k' = posK (sg o) ⟨x, y⟩ (L.take (pos + 1)) by
        rw [List.take_succ_eq_append_getElem hpl, posK_snoc, ← hk, ← hq, ← hk'])
      have hlen' : ∃ r, legsL (sg o) ⟨x, y⟩ (Lib.repeatL s.data.toList c) = legsL (sg o) ⟨x, y⟩ (L.take pos) ++ (q, k, k') :: r := by
        refine ⟨legsL (sg o) (posK (sg o) ⟨x, y⟩ (L.take (pos + 1))) (L.drop (pos + 1)), ?_⟩
        have e1 := legsL_append (sg o) (L.take (pos + 1)) ⟨x, y⟩ (L.drop (pos + 1))
        rw [List.take_append_drop, HSNOC.out] at e1
        rw [hL, e1]
        simp
      have HLEN := Lib.hid hlen'
      clear hk' hk hq hel hkl hlen' hf hv hob hit hj
      gi_wp2_with (gi_at_call 46; refine (callsIn_wide.2 (tpFurtherK k q o _ hLq (by omega) (by omega) (by omega) (by omega))).mono ?_; rintro e W2 ⟨rfl, hb2⟩; rw [← HK.out]; have hzi2 := (Array.getElem?_eq_some_iff.1 hit1).1; have hz2' := hb2.size; have g1 := (hb2.block _ (Array.getElem?_eq_some_iff.1 hf1).1).trans hf1; obtain ⟨W3, hW3, m0, m1, hb3, hz3'⟩ := box2 W2 (.int .i64 k'.x) (.int .i64 k'.y) 23; have b13 := hb2.trans (hb3.mono hz2'); obtain ⟨g0, g1', -, -⟩ := two_cell ((b13.block _ (Array.getElem?_eq_some_iff.1 hf1).1).trans hf1); have hj3 := HJ.out.below hj1 b13; obtain ⟨fn, tmps, assign, body, hy, hR⟩ := hY _ (q, k, k') _ hj3 HLEN.out; dsimp only [legArr] at hy; have hW3' := hW3.symm; have T3 : W3.heap[W2.heap.size]? = some (.cells #[.int .i64 k'.x, .int .i64 k'.y] 23 (0, 0)) := (by rw [hW3]; exact heap_alloc_new _ _); clear hW3; have G3 := (b13.block _ (Array.getElem?_eq_some_iff.1 hf1).1).trans hf1; have I3 := (b13.block _ (Array.getElem?_eq_some_iff.1 hit1).1).trans hit1; have V3 := hv1.of_block (b13.block _ hv1.lt); have O3 := (b13.block _ (Array.getElem?_eq_some_iff.1 hob1).1).trans hob1)
      refine hR.mono ?_
      rintro e W4 ⟨rfl, hJ4, hk4⟩
      have hzi1 := (Array.getElem?_eq_some_iff.1 I3).1
      have T4 := hk4.2 _ _ (by omega) T3 (.inr ⟨_, _, _, rfl, .inr ⟨rfl, rfl⟩⟩)
      have G4 := hk4.2 _ _ (by omega) G3 (.inr ⟨_, _, _, rfl, .inr ⟨rfl, rfl⟩⟩)
      have I4 := hk4.2 _ _ (by omega) I3 (.inl rfl)
      have V4 : VecAt W4 W.heap.size := hk4.2 _ _ (by omega) V3 (.inl rfl)
      have O4 := hk4.2 _ _ hBb1 O3 (.inr ⟨_, _, _, rfl, .inl ht2⟩)
      obtain ⟨t0, t1, -, -⟩ := two_cell T4
      obtain ⟨u0, u1, u2, u3⟩ := two_cell G4
      clear T3 G3 I3 V3 O3 g0 g1 g1' m0 m1 f0 f1 o1 hlk hnext hW3'
      gi_wp2
      obtain ⟨G5, hg5⟩ := two_set G4 (.int .i64 k'.x) (.int .i64 k'.y)
      have hj5 := HJ.out _ _ _ (some w1.heap.size) hJ4 hg5 (fun b e => by cases e; exact ⟨hz1, _, G4, .inr ⟨_, _, rfl, rfl⟩⟩)
      rw [← HSNOC.out] at hj5
      have I5 := (hg5.block _ (Array.getElem?_eq_some_iff.1 I4).1 (fun e => by injection e; omega)).trans I4
      have V5 : VecAt _ W.heap.size := (hg5.block _ V4.lt (fun e => by injection e; omega)).trans V4
      have O5 := (hg5.block _ (Array.getElem?_eq_some_iff.1 O4).1 (fun e => by injection e; omega)).trans O4
      generalize (W4.setCell ⟨w1.heap.size, 0, none⟩ (.int .i64 k'.x)).setCell ⟨w1.heap.size, 1, none⟩ (.int .i64 k'.y) = W5 at *
      have hmu5 : W5.iterPos w3.heap.size = pos + 1 := by simp [World.iterPos, I5]
      go_roundw
      case rel => exact ⟨pos + 1, k', by omega, HPOS.out, ⟨by omega, by omega, by omega, by omega⟩, I5, V5, G5, O5, hj5⟩
      case measure =>
        rw [hmu, hmu5]
        omega
    · have hSz := HSZ.out
      obtain rfl : pos = L.length := by omega
      have hnext : ∀ ty, (Instr.next (.pointer (some ⟨w3.heap.size, 0, none⟩)) true ty).run Tryz.prog wr = _ := fun ty => Lib.run_next_end_at wr w3.heap.size S L.length ty hit hp
      rw [List.take_length] at hj
      have HJE := Lib.hid hj
      clear hj hk
      gi_wp2
      go_end0
      exact ⟨⟨_, rfl⟩, _, by rw [hL], HJE.out⟩
end Go.Proofs.YthihjphcjjpjpaaGreat

/- An edge without an error: checkEdge of taper. -/
namespace Go.Proofs.YthihjphcjjpjpaaGreat
open Go.RowKit Go.Shelf Ck
attribute [local go_sem] Oper.semAt_some

theorem legs_ok (o : Bool) : ∀ (L : List UInt8) (k : Knot), (∀ c ∈ L, isL c) → okKnot k → k.x + 2 * (L.length : Int) ≤ 100000 → -100000 ≤ k.x - 2 * (L.length : Int) → k.y + 2 * (L.length : Int) ≤ 100000 →
    ∀ q ∈ legsL (sg o) k L, isL q.1 ∧ q.2.2 = stepK (sg o) q.2.1 q.1 ∧ okKnot q.2.1 ∧ okKnot q.2.2
  | [], _, _, _, _, _, _, q, hq => by simp [legsL] at hq
  | c :: r, k, hL, hk, h1, h2, h3, q, hq => by
    have hc := hL c (by simp)
    obtain ⟨n1, n2, n3, n4⟩ := step_near o (k := k) hc
    simp only [List.length_cons, Int.natCast_add, Int.natCast_one] at h1 h2 h3
    have hk' : okKnot (stepK (sg o) k c) := by
      obtain ⟨⟨a1, a2⟩, ⟨a3, a4⟩, a5⟩ := hk
      refine ⟨⟨by omega, by omega⟩, ⟨by omega, by omega⟩, ?_⟩
      rcases hc with rfl | rfl | rfl <;> cases o <;> simp [stepK, sg, dxL, dyL] <;> omega
    rw [legsL] at hq
    rcases List.mem_cons.1 hq with rfl | hq
    · exact ⟨hc, rfl, hk, hk'⟩
    · exact legs_ok o r _ (fun c' h' => hL c' (by simp [h'])) hk' (by omega) (by omega) (by omega) q hq

theorem one_cell' {W : World} {b : Nat} {u : Value} {t : TypeId} (h : W.heap[b]? = some (.cells #[u] t (0, 0))) : W.cell? ⟨b, 0, none⟩ = some u ∧ W.frozen? ⟨b, 0, none⟩ = false := by
  refine ⟨?_, ?_⟩ <;> simp [World.cell?, World.frozen?, h]
theorem one_set {W : World} {b : Nat} {u : Value} {t : TypeId} (h : W.heap[b]? = some (.cells #[u] t (0, 0))) (p : Value) : (W.setCell ⟨b, 0, none⟩ p).heap[b]? = some (.cells #[p] t (0, 0)) := by
  simp only [World.setCell, Array.getElem?_modify, if_true, h, Option.map_some]
  rfl
theorem bides_below {β : Type} {B n : Nat} {e : TypeId} {w : World} (hB : n ≤ B) (hn : n ≤ w.heap.size) : Bides B e (fun (_ : β) W => Below n w W) := fun _ _ _ _ hs hg hr =>
  hs.grown hg (by have := hs.size; omega) (fun k ek => Nat.le_trans hB (hr k ek).1)
theorem bides_block {β : Type} {B b : Nat} {e : TypeId} {o : Obj} (hb : b < B) : Bides B e (fun (_ : β) W => W.heap[b]? = some o) := fun _ _ _ _ hs hg hr =>
  (hg.block b (Array.getElem?_eq_some_iff.1 hs).1 (fun e' => by have := (hr b e'.symm).1; omega)).trans hs
theorem bides_size {β : Type} {B n : Nat} {e : TypeId} : Bides B e (fun (_ : β) W => n ≤ W.heap.size) := fun _ _ _ _ hs hg _ => Nat.le_trans hs hg.size

theorem legs_boxes (W0 : World) (x y n : Int) (s : ByteArray) (o : Bool) : ∃ W9, W9 = (((W0.alloc (.cells #[.int .i64 x, .int .i64 y] 23)).alloc (.cells #[.string s] 9)).alloc (.cells #[.int .i64 n] 3)).alloc (.cells #[.bool o] 4) ∧ Below W0.heap.size W0 W9 ∧ W9.heap.size = W0.heap.size + 4 ∧
    W9.heap[W0.heap.size]? = some (.cells #[.int .i64 x, .int .i64 y] 23 (0, 0)) ∧ W9.heap[W0.heap.size + 1]? = some (.cells #[.string s] 9 (0, 0)) ∧ W9.heap[W0.heap.size + 2]? = some (.cells #[.int .i64 n] 3 (0, 0)) ∧ W9.heap[W0.heap.size + 3]? = some (.cells #[.bool o] 4 (0, 0)) := by
  refine ⟨_, rfl, (((((Below.refl _ _).alloc (Nat.le_refl _) _).alloc (by simp) _).alloc (by simp; omega) _).alloc (by simp; omega) _), by simp, ?_, ?_, ?_, ?_⟩
  · rw [Below.heap_alloc _ _ _ (by simp; omega), Below.heap_alloc _ _ _ (by simp; omega), Below.heap_alloc _ _ _ (by simp)]
    exact heap_alloc_new _ _
  · rw [Below.heap_alloc _ _ _ (by simp), Below.heap_alloc _ _ _ (by simp)]
    have := heap_alloc_new (W0.alloc (.cells #[.int .i64 x, .int .i64 y] 23)) (.cells #[.string s] 9)
    rwa [World.size_alloc] at this
  · rw [Below.heap_alloc _ _ _ (by simp)]
    have := heap_alloc_new ((W0.alloc (.cells #[.int .i64 x, .int .i64 y] 23)).alloc (.cells #[.string s] 9)) (.cells #[.int .i64 n] 3)
    rwa [World.size_alloc, World.size_alloc] at this
  · have := heap_alloc_new (((W0.alloc (.cells #[.int .i64 x, .int .i64 y] 23)).alloc (.cells #[.string s] 9)).alloc (.cells #[.int .i64 n] 3)) (.cells #[.bool o] 4)
    rwa [World.size_alloc, World.size_alloc, World.size_alloc] at this

/-- An edge that is short and lies near the middle. -/
def EdgeOk (x y : Int) (s : ByteArray) (c : Nat) : Prop := Word s ∧ 1 ≤ c ∧ c * s.size ≤ 256 ∧ -90000 ≤ x ∧ x ≤ 90000 ∧ -90000 ≤ y ∧ y ≤ 90000 ∧ (x + y) % 2 = 0
theorem rep_len {s : ByteArray} {c : Nat} : (Lib.repeatL s.data.toList c).length = c * s.size := by rw [Lib.repeatL_length, ← Lib.size_eq]
theorem rep_letters {s : ByteArray} (hs : Word s) : ∀ (c : Nat), ∀ q ∈ Lib.repeatL s.data.toList c, isL q
  | 0, q, hq => by simp [Lib.repeatL] at hq
  | c + 1, q, hq => by rw [Lib.repeatL, List.mem_append] at hq; exact hq.elim (hs.1 q) (rep_letters hs c q)
theorem EdgeOk.legs {x y : Int} {s : ByteArray} {c : Nat} (h : EdgeOk x y s c) (o : Bool) : ∀ q ∈ legsL (sg o) ⟨x, y⟩ (Lib.repeatL s.data.toList c), isL q.1 ∧ q.2.2 = stepK (sg o) q.2.1 q.1 ∧ okKnot q.2.1 ∧ okKnot q.2.2 := by
  obtain ⟨hs, _, h2, x1, x2, y1, y2, hp⟩ := h
  have hl : (Lib.repeatL s.data.toList c).length ≤ 256 := by rw [rep_len]; exact h2
  exact legs_ok o _ _ (rep_letters hs c) ⟨⟨by simp; omega, by simp; omega⟩, ⟨by simp; omega, by simp; omega⟩, hp⟩ (by simp; omega) (by simp; omega) (by simp; omega)

set_option maxHeartbeats 4000000 in
set_option maxRecDepth 100000 in
theorem tpCheckEdge (x y : Int) (s : ByteArray) (c : Nat) (o : Bool) (w : World) (h : EdgeOk x y s c) :
    Calls Tryz.prog 18 #[.agg #[.int .i64 x, .int .i64 y], .string s, .int .i64 c, .bool o] w fun e w' => e = .returned (.int .i64 0) ∧ Below w.heap.size w w' := by
  have HL := Lib.hid (h.legs o)
  obtain ⟨hs, h1, h2, x1, x2, y1, y2, hp⟩ := h
  have HK := Lib.hid ((knotE_ok x y).2 ⟨⟨by simp; omega, by simp; omega⟩, ⟨by simp; omega, by simp; omega⟩, hp⟩)
  have HR := Lib.hid (show (if (c : Int) < 1 ∨ 256 < (c : Int) then (3 : Int) else 0) = 0 by
    rw [if_neg]
    have := Nat.mul_le_mul_left c hs.2.1
    omega)
  have hmul : (s.size : Int) * (c : Int) ≤ 256 := by
    rw [Int.mul_comm, ← Int.natCast_mul]
    omega
  have hmul0 : 0 ≤ (s.size : Int) * (c : Int) := Int.mul_nonneg (by omega) (by omega)
  have HS := Lib.hid hs
  clear hs h1 hp
  refine (callsIn_wide (n := 6)).1 (callsIn_of_wp_marks Tryz.func18 rfl trivial (wpIn_wide.2 ?_) rfl)
  simp only [Tryz.ntmps18, List.size_toArray, List.length_cons, List.length_nil, Nat.reduceAdd, Nat.reduceSub, Array.replicate_succ, Array.replicate_zero, List.push_toArray, List.append_toArray, List.nil_append, List.cons_append]
  obtain ⟨w1, hw1, hb1, hz1, ex, er⟩ : ∃ w1, w1 = (w.alloc (.cells #[.int .i64 x, .int .i64 y] 23)).alloc (.cells #[.int .i64 0] 30) ∧ Below w.heap.size w w1 ∧ w1.heap.size = w.heap.size + 2 ∧ w1.heap[w.heap.size]? = some (.cells #[.int .i64 x, .int .i64 y] 23 (0, 0)) ∧ w1.heap[w.heap.size + 1]? = some (.cells #[.int .i64 0] 30 (0, 0)) := by
    refine ⟨_, rfl, ((Below.refl _ _).alloc (Nat.le_refl _) _).alloc (by simp) _, by simp, ?_, ?_⟩
    · rw [Below.heap_alloc _ _ _ (by simp)]
      exact heap_alloc_new _ _
    · have := heap_alloc_new (w.alloc (.cells #[.int .i64 x, .int .i64 y] 23)) (.cells #[.int .i64 0] 30)
      rwa [World.size_alloc] at this
  have HW1 := Lib.hid hw1
  have HZ1 := Lib.hid hz1
  clear hw1 hz1
  go_wp2_with fail
  rw [← HW1.out]
  refine (netCheckKnot x y _).mono ?_
  rintro e w2 ⟨rfl, hb2⟩
  rw [HK.out]
  go_wp2_with fail
  refine (tpCheckWord s _ HS.out).mono ?_
  rintro e w3 ⟨rfl, hb3⟩
  go_wp2_with fail
  refine (tpCheckRange _ _ _ _).mono ?_
  rintro e w4 ⟨rfl, rfl⟩
  rw [HR.out]
  go_wp2_with fail
  refine (tpFirst3 _ _ 0 0 0 30 _ (by exact heap_alloc_new _ _)).mono ?_
  rintro e w5 ⟨rfl, rfl⟩
  rw [show firstE [0, 0, 0] = 0 from rfl]
  have b13 : Below w1.heap.size w1 w3 := hb2.trans (hb3.mono hb2.size)
  have b16 : Below w1.heap.size w1 (w3.alloc (.cells #[.int .i64 0, .int .i64 0, .int .i64 0] 30)) := b13.alloc b13.size _
  generalize w3.alloc (.cells #[.int .i64 0, .int .i64 0, .int .i64 0] 30) = w6 at *
  have hz1 := HZ1.out
  have ex6 := (b16.block _ (by omega)).trans ex
  have er6 := (b16.block _ (by omega)).trans er
  obtain ⟨f0, f1, -, -⟩ := two_cell ex6
  have bw6 := hb1.trans (b16.mono hb1.size)
  clear ex er hz1
  go_wp2_with fail
  refine (tpLegs x y s c o _).mono ?_
  rintro e w7 ⟨rfl, hw7⟩
  obtain ⟨W9, hW9, hb9, hz9, q0, q1, q2, q3⟩ := legs_boxes w6 x y c s o
  rw [← hW9] at hw7
  have hw7' := hw7.symm
  subst hw7'
  clear hW9
  have HZ9 := Lib.hid hz9
  have er9 := (hb9.block _ (Array.getElem?_eq_some_iff.1 er6).1).trans er6
  have her6 := (Array.getElem?_eq_some_iff.1 er6).1
  have bw9 := bw6.trans (hb9.mono bw6.size)
  clear hz9 f0 f1 hw7
  go_wp2_with fail
  have hvis := legs_visits w6.heap.size 4 w6.heap.size (w6.heap.size + 1) (w6.heap.size + 2) (w6.heap.size + 3) 58 (by omega) x y s c o W9 (by decide) HS.out h2 (by omega) (by omega) (by omega) (by omega) (by omega) (by rw [HZ9.out]; omega) q0 q1 q2 q3
  refine (wpIn_wide (n := 5)).1 ?_
  generalize hA0 : (Act.mk _ _) = A0
  refine wpIn_visits (n := 5) (by omega) (gf := 43) (lb := #[.pointer (some ⟨w6.heap.size, 0, none⟩), .pointer (some ⟨w6.heap.size + 1, 0, none⟩), .pointer (some ⟨w6.heap.size + 2, 0, none⟩), .pointer (some ⟨w6.heap.size + 3, 0, none⟩)]) (by rw [← hA0]; rfl) ?eg hvis KT.trans (KT.put (w := W9)) (fun _ => rfl)
    (fun _ W => Below w.heap.size w W ∧ (W.heap[w.heap.size + 1]? = some (.cells #[.int .i64 0] 30 (0, 0)) ∧ W9.heap.size ≤ W.heap.size))
    (Bides.and (bides_below bw9.size (Nat.le_refl _)) (Bides.and (bides_block (by rw [HZ9.out]; omega)) bides_size)) ⟨bw9, er9, Nat.le_refl _⟩ ?round ?done
  case eg => exact fun _ _ => by kernel_rfl
  case round =>
    rintro l pre q W hz ⟨hbW, herW, hsW⟩ ⟨r, hr⟩
    obtain ⟨hq1, hq2, hq3, hq4⟩ := HL.out q (by rw [hr]; simp)
    clear hq1 hq2 hq3
    have HKq := Lib.hid ((knotE_ok q.2.2.x q.2.2.y).2 hq4)
    subst hA0
    dsimp only [legArr]
    gi_wp2
    have hb0 : Below W.heap.size W (W.alloc (.cells #[.int .i32 (q.1.toNat : Int), .int .i64 q.2.1.x, .int .i64 q.2.1.y, .int .i64 q.2.2.x, .int .i64 q.2.2.y] 58)) := (Below.refl _ _).alloc (Nat.le_refl _) _
    refine ⟨Book.below hz hb0, KT.of_below hb0, fun Wb hg hobj _ => ?_⟩
    have hbx : Wb.heap[W.heap.size]? = some (.cells #[.int .i32 (q.1.toNat : Int), .int .i64 q.2.1.x, .int .i64 q.2.1.y, .int .i64 q.2.2.x, .int .i64 q.2.2.y] 58 (0, 0)) :=
      (hg.block _ (by simp) (fun e => by injection e; omega)).trans (heap_alloc_new _ _)
    obtain ⟨r0, r1, r2, r3, r4, -⟩ := five_of_block hbx
    obtain ⟨o1, ho1, ho2⟩ := hobj
    have hz9 := HZ9.out
    have hfk : Fence.wide.fn 29 := trivial
    have hfk' : (Fence.wide.inRound l).fn 29 := trivial
    have hn1 : 1 ≤ 5 - 1 - 1 := by decide
    have hbb : Below w.heap.size w Wb := (hbW.trans (hb0.mono hbW.size)).grown hg (by have := hbW.size; simp; omega) (fun k e => by cases e; have := bw9.size; omega)
    have heb : Wb.heap[w.heap.size + 1]? = some (.cells #[.int .i64 0] 30 (0, 0)) := (hg.block _ (by simp; omega) (fun e => by injection e; omega)).trans ((hb0.block _ (by omega)).trans herW)
    have hsb : W9.heap.size + 2 ≤ Wb.heap.size := by have := hg.size; simp at this; omega
    gi_wp2_with (gi_at_call 29; refine (CallsIn.inRound l (callsIn_wide.2 (netCheckKnot _ _ _))).mono ?_; rintro e W2 ⟨rfl, hb2⟩; rw [HKq.out])
    exact ⟨Book.below hsb hb2, KT.of_below hb2, hbb.trans (hb2.mono hbb.size), (hb2.block _ (Array.getElem?_eq_some_iff.1 heb).1).trans heb, by have := hb2.size; omega⟩
  case done =>
    rintro D ys W hD hS ⟨hbW, herW, hsW⟩ hK
    subst hA0
    obtain ⟨k0, k1⟩ := one_cell' herW
    have hDn : D ≠ w.heap.size + 1 := by have := HZ9.out; omega
    go_wp2
    have hK' : (W.setCell ⟨w.heap.size + 1, 0, none⟩ (.int .i64 0)).heap[D]? = some (.deferred (some [])) := (Below.heap_setCell _ _ _ D hDn).trans hK
    have hbf : Below w.heap.size w (W.setCell ⟨w.heap.size + 1, 0, none⟩ (.int .i64 0)) := hbW.setCell (by simp) _
    refine ⟨by simp, .inl ⟨_, _, rfl, run_takeDeferred hK', ?_⟩⟩
    refine ⟨.int .i64 0, ?_, rfl, hbf.trans (belowK_b (w := W9) (n₀ := w.heap.size) bw9.size _ D _ _ hD hK' rfl rfl)⟩
    have hcl := one_cell ((World.putObj_heap_other (r := D) (o := .deferred none) (k := w.heap.size + 1) (fun e => hDn e.symm)).trans (one_set herW (.int .i64 0)))
    simp [results, Tryz.results18, go_sem, hcl]
end Go.Proofs.YthihjphcjjpjpaaGreat

/- Sheet of the program, at a sheet without an error. -/
namespace Go.Proofs.YthihjphcjjpjpaaGreat
open Go.RowKit Go.Shelf Ck
attribute [local go_sem] Oper.semAt_some

theorem sheet_stops (n : Nat) (hn : 2 ≤ n) (x y : Int) (cols rows Br Bc Ba B1 B2 : Nat) (hc1 : cols ≤ 256) (hr1 : rows ≤ 256) (hx1 : -100000 ≤ x) (hx2 : x ≤ 100000) (hy1 : -100000 ≤ y) (hy2 : y ≤ 100000) (w : World) (hB : B2 ≤ w.heap.size) (hBr : B1 ≤ Br) (hBr' : Br < B2) (hBc : B1 ≤ Bc) (hBc' : Bc < B2) (hBa : B1 ≤ Ba) (hBa' : Ba < B2)
    (mr : w.cell? ⟨Br, 0, none⟩ = some (.int .i64 rows)) (mc : w.cell? ⟨Bc, 0, none⟩ = some (.int .i64 cols)) (mx : w.cell? ⟨Ba, 0, none⟩ = some (.int .i64 x)) (my : w.cell? ⟨Ba, 1, none⟩ = some (.int .i64 y)) :
    SeqStopsK Fence.wide n Tryz.prog 60 #[.pointer (some ⟨Br, 0, none⟩), .pointer (some ⟨Bc, 0, none⟩), .pointer (some ⟨Ba, 0, none⟩)] barArr (KR B1 B2) (fun ss => ss = sheetP x y cols rows) (fun _ => True) 200000 w := fun l J Jx W hW hJ _ hY h0 =>
  sheet1_in l Br Bc Ba B1 B2 n hn x y cols rows hc1 hr1 hx1 hx2 hy1 hy2 J Jx hY W hJ (Nat.le_trans hB hW.size) hBr hBr' hBc hBc' hBa hBa' ((hW.cell (p := ⟨Br, 0, none⟩) (by show Br < _; omega)).trans mr) ((hW.cell (p := ⟨Bc, 0, none⟩) (by show Bc < _; omega)).trans mc) ((hW.cell (p := ⟨Ba, 0, none⟩) (by show Ba < _; omega)).trans mx) ((hW.cell (p := ⟨Ba, 1, none⟩) (by show Ba < _; omega)).trans my) h0

theorem netSheetBars (x y c r : Int) (w : World) :
    Calls Tryz.prog 37 #[.agg #[.int .i64 x, .int .i64 y], .int .i64 c, .int .i64 r] w fun e w' => e = .returned (.func (.func 60) #[] #[.pointer (some ⟨w.heap.size + 2, 0, none⟩), .pointer (some ⟨w.heap.size + 1, 0, none⟩), .pointer (some ⟨w.heap.size, 0, none⟩)]) ∧
      w' = ((w.alloc (.cells #[.int .i64 x, .int .i64 y] 23)).alloc (.cells #[.int .i64 c] 3)).alloc (.cells #[.int .i64 r] 3) := by
  go_enter Tryz.func37, Tryz.ntmps37
  go_wp2
  go_ret
  exact ⟨by simp, rfl⟩

theorem KR.appended {W w1 : World} {Bo B1 B2 : Nat} {e : TypeId} {size k : Nat} {v : Value} {xs : List Value} {tmp : Obj} (hB : Bo < B1) (hz : B2 ≤ W.heap.size) (hrow : W.ownsRow B2 e size v k xs) (hgrow : (W.alloc tmp).grownBy w1 v.ownBlock) (v' : Value) : KR B1 B2 W (w1.setCell ⟨Bo, 0, none⟩ v') := by
  refine ⟨?_, fun b h1 h2 => ?_⟩
  · have := hgrow.size; simp at this ⊢; omega
  · have e1 : (w1.setCell ⟨Bo, 0, none⟩ v').heap[b]? = w1.heap[b]? := (grownBy_setCell' w1 Bo v').block b (by have := hgrow.size; simp at this; omega) (fun e => by cases e; omega)
    rw [e1, hgrow.block b (by simp; omega) (fun e => by have := ownsRow_base hrow b e.symm; omega)]
    exact Below.heap_alloc _ _ _ (by omega)

theorem sheet_boxes (W0 : World) (x y c r : Int) : ∃ W9, W9 = ((W0.alloc (.cells #[.int .i64 x, .int .i64 y] 23)).alloc (.cells #[.int .i64 c] 3)).alloc (.cells #[.int .i64 r] 3) ∧ Below W0.heap.size W0 W9 ∧ W9.heap.size = W0.heap.size + 3 ∧
    W9.cell? ⟨W0.heap.size, 0, none⟩ = some (.int .i64 x) ∧ W9.cell? ⟨W0.heap.size, 1, none⟩ = some (.int .i64 y) ∧ W9.cell? ⟨W0.heap.size + 1, 0, none⟩ = some (.int .i64 c) ∧ W9.cell? ⟨W0.heap.size + 2, 0, none⟩ = some (.int .i64 r) := by
  obtain ⟨w1, hw1, h0, h1, hb1, hz1⟩ := box2 W0 (.int .i64 x) (.int .i64 y) 23
  have hs1 : w1.heap.size = W0.heap.size + 1 := by rw [hw1]; simp
  have bc := (Boxed.new w1 3 (.int .i64 c)).cell
  have hs2 : (w1.alloc (.cells #[.int .i64 c] 3)).heap.size = W0.heap.size + 2 := by simp; omega
  have br := (Boxed.new (w1.alloc (.cells #[.int .i64 c] 3)) 3 (.int .i64 r)).cell
  have b2 : Below w1.heap.size w1 (w1.alloc (.cells #[.int .i64 c] 3)) := (Below.refl _ _).alloc (Nat.le_refl _) _
  have b3 : Below (w1.alloc (.cells #[.int .i64 c] 3)).heap.size (w1.alloc (.cells #[.int .i64 c] 3)) ((w1.alloc (.cells #[.int .i64 c] 3)).alloc (.cells #[.int .i64 r] 3)) := (Below.refl _ _).alloc (Nat.le_refl _) _
  rw [← hw1]
  rw [hs1] at bc
  rw [hs2] at br
  refine ⟨_, rfl, hb1.trans ((b2.trans (b3.mono b2.size)).mono hb1.size), by simp; omega, ?_, ?_, ?_, br⟩
  · exact ((b3.cell (p := ⟨W0.heap.size, 0, none⟩) (by show W0.heap.size < _; omega)).trans (b2.cell (p := ⟨W0.heap.size, 0, none⟩) (by show W0.heap.size < _; omega))).trans h0
  · exact ((b3.cell (p := ⟨W0.heap.size, 1, none⟩) (by show W0.heap.size < _; omega)).trans (b2.cell (p := ⟨W0.heap.size, 1, none⟩) (by show W0.heap.size < _; omega))).trans h1
  · exact (b3.cell (p := ⟨W0.heap.size + 1, 0, none⟩) (by show W0.heap.size + 1 < _; omega)).trans bc
/-- A box of three cells. -/
def Box3 (W : World) (B : Nat) (t : TypeId) (a b c : Value) : Prop := W.heap[B]? = some (.cells #[a, b, c] t (0, 0))
theorem Box3.cells {W : World} {B : Nat} {t : TypeId} {a b c : Value} (h : Box3 W B t a b c) : W.cell? ⟨B, 0, none⟩ = some a ∧ W.cell? ⟨B, 1, none⟩ = some b ∧ W.cell? ⟨B, 2, none⟩ = some c ∧ B < W.heap.size := by
  refine ⟨?_, ?_, ?_, (Array.getElem?_eq_some_iff.1 h).1⟩ <;> simp [World.cell?, show W.heap[B]? = _ from h]
theorem Box3.new (W : World) (t : TypeId) (a b c : Value) : Box3 (W.alloc (.cells #[a, b, c] t)) W.heap.size t a b c := World.alloc_heap_new W _
theorem box3_own (B : Nat) (t : TypeId) (a b c : Value) : Own (fun (_ : Unit) W => Box3 W B t a b c) := fun s X Y row hs hg hrow =>
  (hg.block B (Array.getElem?_eq_some_iff.1 hs).1 (fun e' => by obtain ⟨o, ho, hc⟩ := hrow B e'.symm; rw [show X.heap[B]? = _ from hs] at ho; cases ho; cases hc)).trans hs
theorem sheet_step {W w1 : World} {Bo B1 B2 : Nat} {t e : TypeId} {size k m : Nat} {v v' : Value} {xs ys : List Value} {tmp : Obj} (hte : t ≠ e) (hB : Bo < B1) (hB2 : B1 ≤ B2) (hz : B2 ≤ W.heap.size) (hv : Boxed W Bo t v) (hrow : W.ownsRow B2 e size v k xs) (hown' : w1.ownsRow B2 e size v' m ys) (hgrow : (W.alloc tmp).grownBy w1 v.ownBlock) :
    Boxed w1 Bo t v ∧ Boxed (w1.setCell ⟨Bo, 0, none⟩ v') Bo t v' ∧ KeepsOthers W (w1.setCell ⟨Bo, 0, none⟩ v') ∧ Below Bo W (w1.setCell ⟨Bo, 0, none⟩ v') ∧ (w1.setCell ⟨Bo, 0, none⟩ v').ownsRow B2 e size v' m ys ∧ KR B1 B2 W (w1.setCell ⟨Bo, 0, none⟩ v') := by
  obtain ⟨h1, h2, h3, h4, h5⟩ := hv.appended hte (ownsRow_mono hrow (by omega : Bo ≤ B2)) (by omega) (Nat.le_refl _) (ownsRow_mono hown' (by omega)) hgrow
  exact ⟨h1, h2, h4, h5, hown'.kept (grownBy_setCell' w1 Bo v') (.inr (h1.not_row hte hown').symm), KR.appended hB hz hrow hgrow v'⟩
def SheetPost (l : List Ck.Bar) (w : World) (e : Ending) (w' : World) : Prop :=
  ∃ v, e = .returned (.tuple #[v, .int .i64 0]) ∧ w'.ownsRow w.heap.size 52 3 v l.length (bcellsL l) ∧ Below w.heap.size w w'
theorem netSide (n : Int) (w : World) : Calls Tryz.prog 35 #[.int .i64 n, .int .i64 1, .int .i64 256] w fun e w' => e = .returned (.int .i64 (sideR n)) ∧ w = w' := netCheckRange n 1 256 w

set_option maxHeartbeats 2000000 in
set_option maxRecDepth 100000 in
theorem netSheet (x y : Int) (c r : Nat) (w : World) (hE : sheetE x y c r = 0) :
    Calls Tryz.prog 16 #[.agg #[.int .i64 x, .int .i64 y], .int .i64 c, .int .i64 r] w (SheetPost (sheetP x y c r) w) := by
  obtain ⟨hs, hm, hf1, hf2⟩ := sheetE_zero hE
  obtain ⟨hk, c1, c2, r1, r2⟩ := sheet1_zero hs
  obtain ⟨x1, x2, y1, y2⟩ := knotE_zero hk
  have HS := Lib.hid (show firstE [knotE x y, sideR c, sideR r] = 0 from hs)
  have HP := Lib.hid (show firstE [placeE (x + 2 * (c : Int)), placeE (y + (r : Int))] = 0 by simp [firstE, placeE, hf1, hf2])
  have hm1 : -200000 ≤ 2 * (c : Int) * (r : Int) := by
    have := Int.mul_nonneg (a := 2 * (c : Int)) (b := (r : Int)) (by omega) (by omega)
    omega
  obtain ⟨w1, hw1, h0, h1, hb1, hz1⟩ := box2 w (.int .i64 x) (.int .i64 y) 23
  have HW1 := Lib.hid hw1
  clear hw1 hE hs hk hf1 hf2
  refine (callsIn_wide (n := 3)).1 (callsIn_of_wp_marks Tryz.func16 rfl trivial (wpIn_wide.2 ?_) rfl)
  simp only [Tryz.ntmps16, List.size_toArray, List.length_cons, List.length_nil, Nat.reduceAdd, Nat.reduceSub, Array.replicate_succ, Array.replicate_zero, List.push_toArray, List.append_toArray, List.nil_append, List.cons_append]
  go_wp2_with fail
  rw [← HW1.out]
  refine (netCheckKnot x y _).mono ?_
  rintro e w2 ⟨rfl, hb2⟩
  go_wp2_with fail
  refine (netSide c _).mono ?_
  rintro e w3 ⟨rfl, rfl⟩
  go_wp2_with fail
  refine (netSide r _).mono ?_
  rintro e w4 ⟨rfl, rfl⟩
  go_wp2_with fail
  refine (netFirst3 _ _ (knotE x y) (sideR c) (sideR r) 30 _ (by exact heap_alloc_new _ _)).mono ?_
  rintro e w5 ⟨rfl, rfl⟩
  rw [HS.out]
  have hb3 : Below w.heap.size w (w2.alloc (.cells #[.int .i64 (knotE x y), .int .i64 (sideR c), .int .i64 (sideR r)] 30)) := (hb1.trans (hb2.mono (by omega))).alloc (by have := hb2.size; omega) _
  have hb4 : Below w1.heap.size w1 (w2.alloc (.cells #[.int .i64 (knotE x y), .int .i64 (sideR c), .int .i64 (sideR r)] 30)) := hb2.alloc hb2.size _
  generalize w2.alloc (.cells #[.int .i64 (knotE x y), .int .i64 (sideR c), .int .i64 (sideR r)] 30) = w6 at *
  have e0 := (hb4.cell (p := ⟨w.heap.size, 0, none⟩) hz1).trans h0
  have e1 := (hb4.cell (p := ⟨w.heap.size, 1, none⟩) hz1).trans h1
  clear h0 h1
  go_wp2_with fail
  refine wp_region_still_tail 11 (by kernel_rfl) (by kernel_rfl) ?_
  simp only [List.take_succ_cons, List.take_zero, List.drop_succ_cons, List.drop_zero]
  still_step
  still_step
  still_step
  still_step
  still_step
  still_call (Calls.mono (netCheckPlace _ _) fun _ _ h => ⟨h.1, h.2.symm⟩)
  still_step
  still_step
  still_step
  still_step
  still_call (Calls.mono (netCheckPlace _ _) fun _ _ h => ⟨h.1, h.2.symm⟩)
  refine wpStill_nil ?_
  change wpList _ _ _ _ _ w6.drew
  go_wp2_with fail
  refine (netFirst2 _ _ (placeE (x + 2 * (c : Int))) (placeE (y + (r : Int))) 30 _ (by exact heap_alloc_new _ _)).mono ?_
  rintro e w7 ⟨rfl, rfl⟩
  rw [HP.out]
  have hz6 := hb4.size
  have hb5 : Below w.heap.size w (w6.alloc (.cells #[.int .i64 (placeE (x + 2 * (c : Int))), .int .i64 (placeE (y + (r : Int)))] 30)).drew := below_drew (hb3.alloc (by omega) _)
  have hb6 : Below w1.heap.size w1 (w6.alloc (.cells #[.int .i64 (placeE (x + 2 * (c : Int))), .int .i64 (placeE (y + (r : Int)))] 30)).drew := below_drew (hb4.alloc (by omega) _)
  generalize (w6.alloc (.cells #[.int .i64 (placeE (x + 2 * (c : Int))), .int .i64 (placeE (y + (r : Int)))] 30)).drew = w8 at *
  have g0 := (hb6.cell (p := ⟨w.heap.size, 0, none⟩) hz1).trans ((hb4.cell (p := ⟨w.heap.size, 0, none⟩) hz1).symm.trans e0)
  have g1 := (hb6.cell (p := ⟨w.heap.size, 1, none⟩) hz1).trans ((hb4.cell (p := ⟨w.heap.size, 1, none⟩) hz1).symm.trans e1)
  clear e0 e1
  have hz8 := hb6.size
  have bO := Boxed.new w8 29 (.slice none 0 0)
  have hb7 : Below w8.heap.size w8 (w8.alloc (.cells #[.slice none 0 0] 29)) := (Below.refl _ _).alloc (Nat.le_refl _) _
  have hsz : (w8.alloc (.cells #[.slice none 0 0] 29)).heap.size = w8.heap.size + 1 := by simp
  have k0 := (hb7.cell (p := ⟨w.heap.size, 0, none⟩) (by show w.heap.size < _; omega)).trans g0
  have k1 := (hb7.cell (p := ⟨w.heap.size, 1, none⟩) (by show w.heap.size < _; omega)).trans g1
  obtain ⟨W0, hW0⟩ : ∃ W0, w8.alloc (.cells #[.slice none 0 0] 29) = W0 := ⟨_, rfl⟩
  rw [hW0] at bO hb7 hsz
  have HW0 := Lib.hid hW0
  clear hW0
  have HSZ := Lib.hid hsz
  clear hsz
  go_wp2_with fail
  rw [HW0.out]
  refine (netSheetBars x y c r _).mono ?_
  rintro e w9 ⟨rfl, hw9⟩
  obtain ⟨W9, hW9, hb9, hz9, m0, m1, m2, m3⟩ := sheet_boxes W0 x y c r
  rw [← hW9] at hw9
  have hw9' := hw9.symm
  subst hw9'
  have HW9 := Lib.hid hW9
  clear hW9
  have hz0 := HSZ.out
  have hbW : Below w.heap.size w W0 := by
    have := hb5.trans (hb7.mono hb5.size)
    exact this
  have bO9 : Boxed W9 w8.heap.size 29 (.slice none 0 0) := (hb9.block _ (by omega)).trans bO
  have hbw9 : Below w.heap.size w W9 := hbW.trans (hb9.mono hbW.size)
  have HZ9 := Lib.hid hz9
  have HZ0 := Lib.hid hz0
  clear hz9 hz0
  go_wp2_with fail
  have hseq := sheet_stops 2 (by omega) x y c r (W0.heap.size + 2) (W0.heap.size + 1) W0.heap.size W0.heap.size (W0.heap.size + 3) (by omega) (by omega) x1 x2 y1 y2 W9 (by rw [HZ9.out]; omega) (by omega) (by omega) (by omega) (by omega) (by omega) (by omega) m3 m2 m0 m1
  refine (wpIn_wide (n := 3)).1 ?_
  have q1 : IntKind.i64.wrap (2 * (c : Int)) = 2 * (c : Int) := by rw [IntKind.wrap_i64]; omega
  have q2 : IntKind.i64.wrap (x + 2 * (c : Int)) = x + 2 * (c : Int) := by rw [IntKind.wrap_i64]; omega
  have q3 : IntKind.i64.wrap (y + (r : Int)) = y + (r : Int) := by rw [IntKind.wrap_i64]; omega
  simp only [q1, q2, q3]
  clear q1 q2 q3
  obtain ⟨ib, hib, hb0, hb01, hb02⟩ := info_parts Tryz.info52
  have HB := Lib.hid hib
  have HB0 := Lib.hid hb0
  have HB1 := Lib.hid hb01
  have HB2 := Lib.hid hb02
  clear hib hb0 hb01 hb02
  generalize hA0 : (Act.mk _ _) = A0
  refine wpIn_rangeFunc_ownH rfl (by omega) (gf := 60) (lb := #[.pointer (some ⟨W0.heap.size + 2, 0, none⟩), .pointer (some ⟨W0.heap.size + 1, 0, none⟩), .pointer (some ⟨W0.heap.size, 0, none⟩)]) (by rw [← hA0]; rfl) trivial ?eg hseq KR.trans (KR.put (w := W9) (by rw [HZ9.out]; omega)) (Below.refl _ _) (fun _ => rfl)
    (fun pre W => (∃ v, Boxed W w8.heap.size 29 v ∧ W.ownsRow (W0.heap.size + 3) 52 3 v pre.length (bcellsL pre) ∧ True) ∧ Below w.heap.size w W ∧ Below W9.heap.size W9 W9 ∧ W9.heap.size ≤ W.heap.size)
    (fun _ _ _ => False)
    (OwnFrom.and (Own.from (holdsRow_own (W0.heap.size + 3) w8.heap.size 29 52 3 (fun pre : List Ck.Bar => pre.length) (fun pre => bcellsL pre) (fun _ _ => True)) _) (OwnFrom.and (ownFrom_below (Nat.le_refl _) (by rw [HZ9.out, HZ0.out]; omega)) ?sz))
    (fun _ _ _ _ _ hs _ _ => hs)
    ⟨⟨_, bO9, World.ownsRow_nil _ _ _ _, trivial⟩, hbw9, Below.refl _ _, Nat.le_refl _⟩
    (fun b a' W => ∃ Bx, w8.heap.size < Bx ∧ Box3 W Bx 52 (.int .i64 b.x) (.int .i64 b.y) (.int .i64 b.s) ∧ a' = { tmps := (A0.tmps.setIfInBounds 48 (.agg #[.int .i64 b.x, .int .i64 b.y, .int .i64 b.s])).setIfInBounds 11 (.pointer (some ⟨Bx, 0, none⟩)), defers := [] })
    (fun x a' _ X Y row hs hg hr => by obtain ⟨Bx, h1, h2, h3⟩ := hs; exact ⟨Bx, h1, box3_own Bx _ _ _ _ () X Y row h2 hg (fun r e => (hr r e).2), h3⟩)
    ?assign ?body ?done ?stop
  case eg => exact fun _ _ => by kernel_rfl
  case sz => exact fun s X Y row hs hg hr => ⟨hs.1, Nat.le_trans hs.2 hg.size⟩
  case assign =>
    rintro l pre b W K ⟨⟨v, hv, hrow, -⟩, hB1, hB2, hB3⟩ hK
    subst hA0
    have hz8 := HZ9.out
    have hz7 := HZ0.out
    dsimp only [barArr]
    gi_wp2
    exact hK _ _ ((KeepsOthers.alloc _ _).from _) (KR.of_below ((Below.refl _ _).alloc (Nat.le_refl _) _) (by omega)) ⟨⟨v, hv.alloc _, hrow.alloc _, trivial⟩, hB1.alloc hB1.size _, hB2, by simp; omega⟩ ⟨W.heap.size, by omega, Box3.new W _ _ _ _, by simp⟩
  case body =>
    rintro l pre b a' W hl ⟨r, hr⟩ ⟨⟨v, hv, hrow, -⟩, hB, hB2, hB3⟩ ⟨Bx, hBx, bX, rfl⟩ hlt
    subst hA0
    have hz8 := HZ9.out
    have hz7 := HZ0.out
    have hc := hv.cell
    obtain ⟨x0, x1', x2', xl⟩ := bX.cells
    gi_wp2_with (gi_at_builtin; refine wpListIn_append_own _ rfl _ _ 29 rfl (W0.heap.size + 3) 52 ib (.agg #[.int .i64 0, .int .i64 0, .int .i64 0]) 3 24 Tryz.underlying29 HB.out HB0.out HB1.out HB2.out rfl (by decide) _ _ _ rfl (hrow.alloc _) ⟨W.heap.size, 0, none⟩ 1 1 [.int .i64 b.x, .int .i64 b.y, .int .i64 b.s] rfl rfl (three_new _ _ _ _ _) (by intro u hu; simp at hu; rcases hu with rfl | rfl | rfl <;> rfl) (by unfold maxLen; omega) (by omega) (by simp; omega) ?_; intro v' w1 hown' hgrow _; obtain ⟨g', cap', rfl⟩ := ownsRow_succ hown'; obtain ⟨hv1, hv2, hk2, hb2, hr2⟩ := sheet_step (B1 := W0.heap.size) (by decide) (by omega) (by omega) (by omega) hv hrow hown' hgrow; have hc1 := hv1.cell; have hf1 := hv1.frozen)
    exact ⟨hk2.from _, hr2.2, ⟨_, hv2, by rw [bcellsL_snoc]; simpa using hr2.1, trivial⟩, hB.trans (hb2.mono (by omega)), hB2, Nat.le_trans hB3 hb2.size⟩
  case done =>
    rintro D ys W hD hS ⟨⟨v, hv, hrow, -⟩, hB, -, hB3⟩ hK
    subst hA0
    subst hS
    have hc := hv.cell
    go_wp2
    have hz8 := HZ9.out
    have hz7 := HZ0.out
    refine ⟨by simp, .inl ⟨_, _, rfl, run_takeDeferred hK, ?_⟩⟩
    refine ⟨_, results_tmp2 rfl _ _ _, v, rfl, ownsRow_mono (ownsRow_putObj hrow _ hK rfl) ?_, hB.trans (belowK_b (w := W9) (n₀ := w.heap.size) hbw9.size W D _ _ hD hK rfl rfl)⟩
    have := hbW.size
    omega
  case stop =>
    rintro D c pre W _ _ h _
    exact h.elim
end Go.Proofs.YthihjphcjjpjpaaGreat

/- The bars along an edge: Bars of taper. -/
namespace Go.Proofs.YthihjphcjjpjpaaGreat
open Go.RowKit Go.Shelf Ck
attribute [local go_sem] Oper.semAt_some

def barsOf (l : List (UInt8 × Knot × Knot)) : List Bar := l.flatMap fun q => if q.1 = 66 then [⟨q.2.1.x, q.2.1.y, q.2.2.x - q.2.1.x⟩] else []
theorem barsOf_snoc (l : List (UInt8 × Knot × Knot)) (q : UInt8 × Knot × Knot) : barsOf (l ++ [q]) = barsOf l ++ (if q.1 = 66 then [⟨q.2.1.x, q.2.1.y, q.2.2.x - q.2.1.x⟩] else []) := by simp [barsOf]
theorem barsOf_legs (σ : Int) : ∀ (L : List UInt8) (k : Knot), barsOf (legsL σ k L) = barsP σ k L
  | [], _ => rfl
  | c :: r, k => by
    have ih := barsOf_legs σ r (stepK σ k c)
    have e : barsOf (legsL σ k (c :: r)) = (if c = 66 then [⟨k.x, k.y, (stepK σ k c).x - k.x⟩] else []) ++ barsOf (legsL σ (stepK σ k c) r) := by simp [barsOf, legsL]
    rw [e, ih, barsP_cons]
    by_cases h : c = 66
    · subst h
      simp [step_B]
      omega
    · simp [h]
theorem bides_row {β : Type} {B Bo n₀ : Nat} {e te t : TypeId} {size : Nat} (k : β → Nat) (f : β → List Value) (hB : Bo < B) (hne : te ≠ e) : Bides B e (fun (s : β) W => ∃ v, Boxed W Bo t v ∧ W.ownsRow n₀ te size v (k s) (f s)) := by
  rintro s W W' r ⟨v, hv, hr⟩ hg hrow
  refine ⟨v, (hg.block Bo (Array.getElem?_eq_some_iff.1 hv).1 (fun e' => by have := (hrow Bo e'.symm).1; omega)).trans hv, hr.kept hg ?_⟩
  rcases hr.2 with ⟨rfl, _⟩ | ⟨g, cap, cur, rfl, _, hgb, _⟩
  · exact .inl rfl
  · refine .inr fun e' => ?_
    obtain ⟨_, o, ho, hk⟩ := hrow g (by simpa [Value.ownBlock] using e'.symm)
    rw [hgb] at ho
    cases ho
    rcases hk with hk | ⟨cs, f', hk, _⟩
    · cases hk
    · injection hk with _ h2
      exact hne h2
theorem KT.appended {W w1 : World} {Bo B1 n₀ : Nat} {e : TypeId} {size k : Nat} {v : Value} {xs : List Value} {tmp : Obj} (hB : Bo < B1) (hne : e ≠ 23) (hrow : W.ownsRow n₀ e size v k xs) (hgrow : (W.alloc tmp).grownBy w1 v.ownBlock) (v' : Value) : KT B1 e W (w1.setCell ⟨Bo, 0, none⟩ v') := by
  refine ⟨?_, fun b o hb ho hk => ?_⟩
  · have := hgrow.size; simp at this ⊢; omega
  · have hlt := (Array.getElem?_eq_some_iff.1 ho).1
    have hnb : some b ≠ v.ownBlock := by
      intro e'
      rcases hrow.2 with ⟨rfl, _⟩ | ⟨g, cap, cur, rfl, _, hgb, _⟩
      · simp [Value.ownBlock] at e'
      · obtain rfl : b = g := by simpa [Value.ownBlock] using e'
        rw [hgb] at ho
        cases ho
        rcases hk with hk | ⟨cs, t, f, hk, hk2⟩
        · cases hk
        · injection hk with _ h2
          rcases hk2 with hk2 | ⟨hk2, _⟩
          · exact hk2 h2.symm
          · exact hne (h2.trans hk2)
    rw [Below.heap_setCell _ _ _ b (by show b ≠ Bo; omega), hgrow.block b (by simp; omega) hnb, Below.heap_alloc _ _ _ hlt]
    exact ho

set_option maxHeartbeats 4000000 in
set_option maxRecDepth 100000 in
theorem tpBars (x y : Int) (s : ByteArray) (c : Nat) (o : Bool) (w : World) (h : EdgeOk x y s c) :
    Calls Tryz.prog 6 #[.agg #[.int .i64 x, .int .i64 y], .string s, .int .i64 c, .bool o] w (SheetPost (barsP (sg o) ⟨x, y⟩ (Lib.repeatL s.data.toList c)) w) := by
  have HE := Lib.hid h
  have HL := Lib.hid (h.legs o)
  have HLEN := Lib.hid (show (legsL (sg o) ⟨x, y⟩ (Lib.repeatL s.data.toList c)).length ≤ 256 by rw [legsL_length, rep_len]; exact h.2.2.1)
  obtain ⟨hs, h1, h2, x1, x2, y1, y2, hp⟩ := h
  have HS := Lib.hid hs
  clear hs h1 hp
  refine (callsIn_wide (n := 6)).1 (callsIn_of_wp_marks Tryz.func6 rfl trivial (wpIn_wide.2 ?_) rfl)
  simp only [Tryz.ntmps6, List.size_toArray, List.length_cons, List.length_nil, Nat.reduceAdd, Nat.reduceSub, Array.replicate_succ, Array.replicate_zero, List.push_toArray, List.append_toArray, List.nil_append, List.cons_append]
  obtain ⟨w1, hw1, e0, e1, hb1, hz1⟩ := box2 w (.int .i64 x) (.int .i64 y) 23
  have HW1 := Lib.hid hw1
  clear hw1
  go_wp2_with fail
  rw [← HW1.out]
  refine (tpCheckEdge x y s c o _ HE.out).mono ?_
  rintro e w2 ⟨rfl, hb2⟩
  have f0 := (hb2.cell (p := ⟨w.heap.size, 0, none⟩) hz1).trans e0
  have f1 := (hb2.cell (p := ⟨w.heap.size, 1, none⟩) hz1).trans e1
  have hbw := hb1.trans (hb2.mono hb1.size)
  have hz2 := hb2.size
  have bO := Boxed.new w2 29 (.slice none 0 0)
  have hb3 : Below w2.heap.size w2 (w2.alloc (.cells #[.slice none 0 0] 29)) := (Below.refl _ _).alloc (Nat.le_refl _) _
  have g0 := (hb3.cell (p := ⟨w.heap.size, 0, none⟩) (by show w.heap.size < _; omega)).trans f0
  have g1 := (hb3.cell (p := ⟨w.heap.size, 1, none⟩) (by show w.heap.size < _; omega)).trans f1
  have HSZ := Lib.hid (show (w2.alloc (.cells #[.slice none 0 0] 29)).heap.size = w2.heap.size + 1 by simp)
  obtain ⟨w6, hw6⟩ : ∃ w6, w2.alloc (.cells #[.slice none 0 0] 29) = w6 := ⟨_, rfl⟩
  rw [hw6] at bO hb3 HSZ
  have HW6 := Lib.hid hw6
  clear hw6 f0 f1 e0 e1
  go_wp2_with fail
  rw [HW6.out]
  refine (tpLegs x y s c o _).mono ?_
  rintro e w7 ⟨rfl, hw7⟩
  obtain ⟨W9, hW9, hb9, hz9, q0, q1, q2, q3⟩ := legs_boxes w6 x y c s o
  rw [← hW9] at hw7
  have hw7' := hw7.symm
  subst hw7'
  clear hW9
  have HZ9 := Lib.hid hz9
  have hz6 := HSZ.out
  have bO9 : Boxed W9 w2.heap.size 29 (.slice none 0 0) := (hb9.block _ (by omega)).trans bO
  have bw6 := hbw.trans (hb3.mono hbw.size)
  have bw9 := bw6.trans (hb9.mono bw6.size)
  have hwz := hbw.size
  obtain ⟨ib, hib, hi0, hi1, hi2⟩ := info_parts Tryz.info52
  have HB := Lib.hid hib
  have HB0 := Lib.hid hi0
  have HB1 := Lib.hid hi1
  have HB2 := Lib.hid hi2
  clear hz9 hw7 hz6 hib hi0 hi1 hi2
  go_wp2_with fail
  have hvis := legs_visits w6.heap.size 4 w6.heap.size (w6.heap.size + 1) (w6.heap.size + 2) (w6.heap.size + 3) 52 (by omega) x y s c o W9 (by decide) HS.out h2 (by omega) (by omega) (by omega) (by omega) (by omega) (by rw [HZ9.out]; omega) q0 q1 q2 q3
  refine (wpIn_wide (n := 5)).1 ?_
  generalize hA0 : (Act.mk _ _) = A0
  refine wpIn_visits (n := 5) (by omega) (gf := 43) (lb := #[.pointer (some ⟨w6.heap.size, 0, none⟩), .pointer (some ⟨w6.heap.size + 1, 0, none⟩), .pointer (some ⟨w6.heap.size + 2, 0, none⟩), .pointer (some ⟨w6.heap.size + 3, 0, none⟩)]) (by rw [← hA0]; rfl) ?eg hvis KT.trans (KT.put (w := W9)) (fun _ => rfl)
    (fun pre W => (∃ v, Boxed W w2.heap.size 29 v ∧ W.ownsRow w.heap.size 52 3 v (barsOf pre).length (bcellsL (barsOf pre))) ∧ (Below w.heap.size w W ∧ W9.heap.size ≤ W.heap.size))
    (Bides.and (bides_row (fun pre => (barsOf pre).length) (fun pre => bcellsL (barsOf pre)) (by rw [HZ9.out, HSZ.out]; omega) (by decide)) (Bides.and (bides_below bw9.size (Nat.le_refl _)) bides_size)) ⟨⟨_, bO9, World.ownsRow_nil _ _ _ _⟩, bw9, Nat.le_refl _⟩ ?round ?done
  case eg => exact fun _ _ => by kernel_rfl
  case round =>
    rintro l pre q W hz ⟨⟨v, hv, hrow⟩, hbW, hsW⟩ ⟨r, hr⟩
    obtain ⟨hq1, -, hq3, hq4⟩ := HL.out q (by rw [hr]; simp)
    have hpre : (barsOf pre).length ≤ 256 := by
      have h1 := HLEN.out
      rw [hr] at h1
      have : ∀ l : List (UInt8 × Knot × Knot), (barsOf l).length ≤ l.length := fun l => by
        induction l with
        | nil => simp [barsOf]
        | cons a t ih =>
          have e : barsOf (a :: t) = (if a.1 = 66 then [⟨a.2.1.x, a.2.1.y, a.2.2.x - a.2.1.x⟩] else []) ++ barsOf t := by simp [barsOf]
          rw [e, List.length_append, List.length_cons]
          split <;> simp <;> omega
      have := this pre
      simp at h1
      omega
    obtain ⟨⟨a1, a2⟩, -, -⟩ := hq3
    obtain ⟨⟨a3, a4⟩, -, -⟩ := hq4
    have HSNOC := Lib.hid (barsOf_snoc pre q)
    subst hA0
    dsimp only [legArr]
    gi_wp2
    have hb0 : Below W.heap.size W (W.alloc (.cells #[.int .i32 (q.1.toNat : Int), .int .i64 q.2.1.x, .int .i64 q.2.1.y, .int .i64 q.2.2.x, .int .i64 q.2.2.y] 58)) := (Below.refl _ _).alloc (Nat.le_refl _) _
    refine ⟨Book.below hz hb0, KT.of_below hb0, fun Wb hg hobj hbk => ?_⟩
    have hbx : Wb.heap[W.heap.size]? = some (.cells #[.int .i32 (q.1.toNat : Int), .int .i64 q.2.1.x, .int .i64 q.2.1.y, .int .i64 q.2.2.x, .int .i64 q.2.2.y] 58 (0, 0)) :=
      (hg.block _ (by simp) (fun e => by injection e; omega)).trans (heap_alloc_new _ _)
    obtain ⟨r0, r1, r2, r3, r4, -⟩ := five_of_block hbx
    obtain ⟨o1, ho1, ho2⟩ := hobj
    have hz9 := HZ9.out
    have hz6 := HSZ.out
    have hsb : W9.heap.size + 2 ≤ Wb.heap.size := by have := hg.size; simp at this; omega
    have hbb : Below w.heap.size w Wb := (hbW.trans (hb0.mono hbW.size)).grown hg (by have := hbW.size; simp; omega) (fun k e => by cases e; have := bw9.size; omega)
    have hI1 := bides_row (t := 29) (te := 52) (n₀ := w.heap.size) (size := 3) (fun pre => (barsOf pre).length) (fun pre => bcellsL (barsOf pre)) (show w2.heap.size < W9.heap.size by omega) (show 52 ≠ 23 by decide) pre _ Wb (some (W9.heap.size + 1)) ⟨v, hv.alloc _, hrow.alloc _⟩ hg (fun b e => by cases e; exact ⟨by omega, o1, ho1, .inl ho2⟩)
    obtain ⟨v, hvB, hrowB⟩ := hI1
    have hcB := hvB.cell
    have HBK := Lib.hid hbk
    have hwb : w.heap.size ≤ Wb.heap.size := by omega
    clear hv hrow hbk ho1 ho2 hbx
    by_cases h66 : q.1 = 66
    · have r0' : Wb.cell? ⟨W.heap.size, 0, none⟩ = some (.int .i32 66) := by rw [h66] at r0; exact r0
      have HSN := Lib.hid (show barsOf (pre ++ [q]) = barsOf pre ++ [⟨q.2.1.x, q.2.1.y, q.2.2.x - q.2.1.x⟩] by rw [HSNOC.out, if_pos h66])
      clear r0 h66 hq1 HSNOC
      gi_wp2_with (gi_at_builtin; refine wpListIn_append_own _ rfl _ _ 29 rfl w.heap.size 52 ib (.agg #[.int .i64 0, .int .i64 0, .int .i64 0]) 3 24 Tryz.underlying29 HB.out HB0.out HB1.out HB2.out rfl (by decide) _ _ _ rfl (hrowB.alloc _) ⟨Wb.heap.size, 0, none⟩ 1 1 [.int .i64 q.2.1.x, .int .i64 q.2.1.y, .int .i64 (q.2.2.x - q.2.1.x)] rfl rfl (three_new _ _ _ _ _) (by intro u hu; simp at hu; rcases hu with rfl | rfl | rfl <;> rfl) (by unfold maxLen; omega) (by omega) (by simp; omega) ?_; intro v' w1' hown' hgrow _; obtain ⟨g', cap', rfl⟩ := ownsRow_succ hown'; obtain ⟨hv1, hv2, hr2, hk2, hb2'⟩ := hvB.appended (by decide) hrowB hwb (by omega) hown' hgrow; have hkt := KT.appended (B1 := w6.heap.size) (Bo := w2.heap.size) (by omega) (by decide) hrowB hgrow (.slice (some ⟨g', 0, none⟩) ((barsOf pre).length + 1) cap'); have hc1 := hv1.cell; have hf1 := hv1.frozen)
      exact ⟨Book.others hk2 HBK.out.1 HBK.out.2, hkt, ⟨_, hv2, by rw [HSN.out, bcellsL_snoc]; simpa using hr2⟩, hbb.trans hb2', by have := hb2'.size; omega⟩
    · have hne : ((q.1.toNat : Int) == 66) = false := by
        rw [beq_eq_false_iff_ne]
        intro e
        exact h66 (UInt8.toNat.inj (by show q.1.toNat = 66; omega))
      have HSN := Lib.hid (show barsOf (pre ++ [q]) = barsOf pre by rw [HSNOC.out, if_neg h66, List.append_nil])
      clear h66 hq1 HSNOC
      gi_wp2
      exact ⟨Book.below hsb (Below.refl _ _), KT.of_below (Below.refl _ _), ⟨_, hvB, by rw [HSN.out]; exact hrowB⟩, hbb, by omega⟩
  case done =>
    rintro D ys W hD hS ⟨⟨v, hv, hrow⟩, hbW, hsW⟩ hK
    subst hA0
    subst hS
    have hc := hv.cell
    go_wp2
    refine ⟨by simp, .inl ⟨_, _, rfl, run_takeDeferred hK, ?_⟩⟩
    rw [barsOf_legs] at hrow
    exact ⟨_, results_tmp2 rfl _ _ _, v, rfl, ownsRow_putObj hrow _ hK rfl, hbW.trans (belowK_b (w := W9) (n₀ := w.heap.size) bw9.size W D _ _ hD hK rfl rfl)⟩
end Go.Proofs.YthihjphcjjpjpaaGreat

/- Has of the program at valid nets. -/
namespace Go.Proofs.YthihjphcjjpjpaaGreat
open Go.RowKit Go.Shelf Ck

set_option maxHeartbeats 2000000 in
set_option maxRecDepth 100000 in
theorem netHas (A : Option Addr) (c : Nat) (l : List Bar) (b : Bar) (w : World) (hl : l.length ≤ 4096) (hc : l.length ≤ c) (hcm : c ≤ maxLen) (hN : Net l) (hb : barE b.x b.y b.s = 0) (h : RB w w.heap.size A l) :
    Calls Tryz.prog 17 #[.slice A l.length c, .agg #[.int .i64 b.x, .int .i64 b.y, .int .i64 b.s]] w fun e w' => e = .returned (.tuple #[.bool (decide (b ∈ l)), .int .i64 0]) ∧ Below w.heap.size w w' := by
  have HR := Lib.hid h
  have HE := Lib.hid ((netE_zero l).2 ⟨hl, hN⟩)
  have HN := Lib.hid hN
  have HBE := Lib.hid hb
  clear h hN hb
  obtain ⟨w1, hw1, e0, e1, e2, hb1, hz1⟩ := box3 w (.int .i64 b.x) (.int .i64 b.y) (.int .i64 b.s) 52
  have HW1 := Lib.hid hw1
  clear hw1
  go_enter Tryz.func17, Tryz.ntmps17
  go_wp2_with fail
  rw [← HW1.out]
  go_region_held3 (fun w' => w'.cell? ⟨w.heap.size, 0, none⟩ = some (.int .i64 b.x) ∧ w'.cell? ⟨w.heap.size, 1, none⟩ = some (.int .i64 b.y) ∧ w'.cell? ⟨w.heap.size, 2, none⟩ = some (.int .i64 b.s) ∧ Below w.heap.size w w' ∧ w.heap.size < w'.heap.size)
    (first | exact ⟨e0, e1, e2, below_drew hb1, hz1⟩ | exact keep3 (by assumption) (by assumption) | exact keep3 (by assumption) ((Below.refl _ _).alloc (Nat.le_refl _) _) | assumption | (refine ⟨?_, ?_, ?_, ?_, ?_⟩ <;> first | assumption | (simp at *; omega)) | exact keep3 (by assumption) (below_drew (Below.refl _ _)) | go_keep)
    (first
      | (go_at_call 22; refine (netCheckNet A c l _ hl hc hcm ((HR.out.below (belowOf3 (by assumption))).more (belowOf3 (by assumption)).size)).mono ?_; rintro e w' ⟨rfl, hbq⟩; rw [HE.out])
      | (go_at_call 38; refine (netCheckBar _ _ _ _).mono ?_; rintro e w' ⟨rfl, hbq⟩; rw [HBE.out])
      | (go_at_call 28; refine (netFirst2 _ _ 0 0 30 _ (by exact heap_alloc_new _ _)).mono ?_; rintro e w' ⟨rfl, rfl⟩; rw [show firstE [0, 0] = 0 from rfl]))
  all_goals
    rename_i hS
    obtain ⟨c0, c1, c2, hbs, hzs⟩ := hS
    generalize World.alloc _ _ = w5 at c0 c1 c2 hbs hzs ⊢
    go_wp2_with fail
    refine (netHasBar A c l b.x b.y b.s _ hl HN.out.2 ((HR.out.below hbs).more hbs.size)).mono ?_
    rintro e w6 ⟨rfl, hb6⟩
    have hbf := hbs.trans (hb6.mono hbs.size)
    clear c0 c1 c2 e0 e1 e2
    go_wp2
    go_ret2
    exact ⟨rfl, hbf⟩
end Go.Proofs.YthihjphcjjpjpaaGreat

/- Equality of counts. -/
namespace Go.Proofs.YthihjphcjjpjpaaGreat
open Go.RowKit

theorem eqCounts (a b c d e a' b' c' d' e' : Int) (r : Bool) (hr : decide (a = a' ∧ b = b' ∧ c = c' ∧ d = d' ∧ e = e') = r) (w : World) :
    (Op.equalIn 10000 36 (.agg #[.int .i64 a, .int .i64 b, .int .i64 c, .int .i64 d, .int .i64 e]) (.agg #[.int .i64 a', .int .i64 b', .int .i64 c', .int .i64 d', .int .i64 e'])).run Tryz.prog w = .ok r w := by
  have u3 := Tryz.underlying3
  have a3 := Tryz.isAgg3
  have z3 := Tryz.sizeOf3
  have hS : Tryz.prog.underlying 36 = some (.struct (Tryz.prog.fieldsOf 36)) := by kernel_rfl
  have hp : Tryz.prog.stoodInHeld 36 = false := by kernel_rfl
  subst hr
  rw [show (10000 : Nat) = 9999 + 1 from rfl, run_equalIn_struct w 9999 36 _ _ hS hp]
  simp only [Program.fieldsOf, Tryz.underlying36]
  go_simp
  by_cases h1 : a = a' <;> by_cases h2 : b = b' <;> by_cases h3 : c = c' <;> by_cases h4 : d = d' <;> by_cases h5 : e = e' <;> simp [h1, h2, h3, h4, h5]
theorem guardCounts : Tryz.prog.eqGuardType Tryz.prog.depth 36 = false := by kernel_rfl
end Go.Proofs.YthihjphcjjpjpaaGreat

/- A sheet is a net: plain mathematics. -/
namespace Go.Proofs.YthihjphcjjpjpaaGreat
open Ck

theorem cell_mem {x y : Int} {r c : Nat} {b : Bar} (h : b ∈ cellL x y r c) :
    (b.y = y + (r : Int)) ∧ ((r % 2 = 1 ∧ b.x = x + 2 * (c : Int) + 1 ∧ (b.s = -1 ∨ b.s = 1)) ∨ (r % 2 = 0 ∧ (b.x = x + 2 * (c : Int) ∧ b.s = 1 ∨ b.x = x + 2 * (c : Int) + 2 ∧ b.s = -1))) := by
  unfold cellL cel0 cel1 oddB at h
  by_cases ho : r % 2 = 1
  · simp [ho] at h
    rcases h with rfl | rfl
    · exact ⟨rfl, .inl ⟨ho, rfl, .inl rfl⟩⟩
    · exact ⟨rfl, .inl ⟨ho, rfl, .inr rfl⟩⟩
  · have h0 : r % 2 = 0 := by omega
    simp [h0] at h
    rcases h with rfl | rfl
    · exact ⟨rfl, .inr ⟨h0, .inl ⟨rfl, rfl⟩⟩⟩
    · exact ⟨rfl, .inr ⟨h0, .inr ⟨rfl, rfl⟩⟩⟩
theorem cell_pair (x y : Int) (r c : Nat) : (cellL x y r c).Pairwise Blt := by
  unfold cellL cel0 cel1
  cases oddB r <;> simp [Blt] <;> omega
theorem row_mem {x y : Int} {r k : Nat} {b : Bar} (h : b ∈ rowL x y r k) : ∃ c, c < k ∧ b ∈ cellL x y r c := by
  obtain ⟨c, hc, hb⟩ := List.mem_flatMap.1 h
  exact ⟨c, List.mem_range.1 hc, hb⟩
theorem row_pair (x y : Int) (r : Nat) : ∀ k, (rowL x y r k).Pairwise Blt
  | 0 => by simp [rowL]
  | k + 1 => by
    rw [rowL_succ]
    refine List.pairwise_append.2 ⟨row_pair x y r k, cell_pair x y r k, fun a ha b hb => ?_⟩
    obtain ⟨c, hc, ha⟩ := row_mem ha
    obtain ⟨h1, h2⟩ := cell_mem ha
    obtain ⟨k1, k2⟩ := cell_mem hb
    unfold Blt
    omega
theorem sheet_mem {x y : Int} {cols r : Nat} {b : Bar} (h : b ∈ sheetP x y cols r) : ∃ q, q < r ∧ ∃ c, c < cols ∧ b ∈ cellL x y q c := by
  obtain ⟨q, hq, hb⟩ := List.mem_flatMap.1 h
  exact ⟨q, List.mem_range.1 hq, row_mem hb⟩
theorem sheet_pair (x y : Int) (cols : Nat) : ∀ r, (sheetP x y cols r).Pairwise Blt
  | 0 => by simp [sheetP]
  | r + 1 => by
    rw [sheetP_succ]
    refine List.pairwise_append.2 ⟨sheet_pair x y cols r, row_pair x y r cols, fun a ha b hb => ?_⟩
    obtain ⟨q, hq, c, hc, ha⟩ := sheet_mem ha
    obtain ⟨c', hc', hb⟩ := row_mem hb
    have h1 := (cell_mem ha).1
    have h2 := (cell_mem hb).1
    unfold Blt
    omega
theorem sheet_net {x y : Int} {cols rows : Nat} (hk : okKnot ⟨x, y⟩) (hx : inPlace (x + 2 * (cols : Int))) (hy : inPlace (y + (rows : Int))) : Net (sheetP x y cols rows) := by
  refine ⟨fun b hb => ?_, sheet_pair x y cols rows⟩
  obtain ⟨q, hq, c, hc, hb⟩ := sheet_mem hb
  obtain ⟨h1, h2⟩ := cell_mem hb
  obtain ⟨⟨k1, k2⟩, ⟨k3, k4⟩, k5⟩ := hk
  unfold inPlace at hx hy
  simp only [okBar, okKnot, Bar.lo, Bar.hi, inPlace]
  simp only at k1 k2 k3 k4 k5
  omega
end Go.Proofs.YthihjphcjjpjpaaGreat

/- The fixed example of the statements on edges: otterEdge. -/
namespace Go.Proofs.YthihjphcjjpjpaaGreat
open Go.RowKit Go.Shelf Ck

theorem barsS (x y : Int) (s : ByteArray) (c : Nat) (o : Bool) (w : World) (h : EdgeOk x y s c) :
    Calls Tryz.prog 6 #[.agg #[.int .i64 x, .int .i64 y], .string s, .int .i64 c, .bool o] w (PairPost (barsP (sg o) ⟨x, y⟩ (Lib.repeatL s.data.toList c)) w) :=
  (tpBars x y s c o w h).mono fun e w' ⟨v, he, hrow, hb⟩ => by
    obtain ⟨a, c', rfl, hok⟩ := own_oks hrow
    exact ⟨a, c', he, hok, hb⟩
theorem sheetS' (x y : Int) (c r : Nat) (w : World) (hE : sheetE x y c r = 0) :
    Calls Tryz.prog 16 #[.agg #[.int .i64 x, .int .i64 y], .int .i64 c, .int .i64 r] w (PairPost (sheetP x y c r) w) :=
  (netSheet x y c r w hE).mono fun e w' ⟨v, he, hrow, hb⟩ => by
    obtain ⟨a, c', rfl, hok⟩ := own_oks hrow
    exact ⟨a, c', he, hok, hb⟩
theorem edge_net {x y : Int} {s : ByteArray} {c : Nat} (h : EdgeOk x y s c) (o : Bool) : Net (barsP (sg o) ⟨x, y⟩ (Lib.repeatL s.data.toList c)) := by
  obtain ⟨hs, h1, h2, x1, x2, y1, y2, hp⟩ := h
  refine ⟨fun b hb => ?_, barsP_lt _ _⟩
  obtain ⟨n1, n2, n3, n4⟩ := barsP_near (sg_or o) hb
  obtain ⟨g1, g2⟩ := barsP_ge hb
  have hl : ((Lib.repeatL s.data.toList c).length : Int) ≤ 256 := by rw [rep_len]; omega
  have he := n4 hp (rep_letters hs c)
  simp only at n1 n2 n3 g1
  have hs' : b.s = 1 ∨ b.s = -1 := by rw [g2]; exact sg_or o
  simp only [okBar, okKnot, Bar.lo, Bar.hi, inPlace]
  rcases hs' with h | h <;> rw [h] <;> omega
def nbb : ByteArray := ⟨#[78, 66, 66]⟩
theorem nbb_ok : EdgeOk 0 0 nbb 2 := ⟨⟨by intro c hc; simp [nbb] at hc; rcases hc with rfl | rfl <;> simp [isL], by decide, by decide⟩, by decide, by decide, by decide, by decide, by decide, by decide, by decide⟩
theorem nbb_runs : endsR (Lib.repeatL nbb.data.toList 2) = 2 := by decide +kernel
theorem nbb_bars : barsN (Lib.repeatL nbb.data.toList 2) = 4 := by decide +kernel
theorem four_facts : ∃ l, barsP (sg true) ⟨0, 0⟩ (Lib.repeatL nbb.data.toList 2) = l ∧ l.length = 4 ∧ PartsIs l 2 ∧ nK l = 6 ∧ nM l = 0 ∧ Net l := by
  have hp := barsP_parts (sg_or true) (k := ⟨0, 0⟩) (rep_letters nbb_ok.1 2)
  have hm := barsP_meshes (σ := sg true) (Lib.repeatL nbb.data.toList 2) ⟨0, 0⟩
  have hn := edge_net nbb_ok true
  have hl := barsP_length (σ := sg true) (Lib.repeatL nbb.data.toList 2) ⟨0, 0⟩
  rw [nbb_runs, nbb_bars] at hp
  rw [nbb_bars] at hl
  generalize barsP (sg true) ⟨0, 0⟩ (Lib.repeatL nbb.data.toList 2) = l at *
  exact ⟨l, rfl, hl, hp.1, hp.2, hm, hn⟩
theorem sheet_facts : ∃ S, S = sheetP (-2) (-2) 4 12 ∧ Net S ∧ S.length ≤ 200 ∧ (⟨1, 3, 1⟩ : Bar) ∈ S := by
  refine ⟨_, rfl, sheet_net (x := -2) (y := -2) (cols := 4) (rows := 12) ((knotE_ok (-2) (-2)).1 (by decide)) (by unfold inPlace; omega) (by unfold inPlace; omega), by rw [sheetP_length]; decide, ?_⟩
  refine List.mem_flatMap.2 ⟨5, by decide, List.mem_flatMap.2 ⟨1, by decide, ?_⟩⟩
  decide
theorem nbbBars (l : List Bar) (hl : barsP (sg true) ⟨0, 0⟩ (Lib.repeatL nbb.data.toList 2) = l) (w : World) :
    Calls Tryz.prog 6 #[.agg #[.int .i64 0, .int .i64 0], .string nbb, .int .i64 ((2 : Nat) : Int), .bool true] w (PairPost l w) := by
  have h := barsS 0 0 nbb 2 true w nbb_ok
  rw [hl] at h
  exact h
theorem two_cast : ((2 : Nat) : Int) = 2 := rfl
theorem nbbBars' (l : List Bar) (hl : barsP (sg true) ⟨0, 0⟩ (Lib.repeatL nbb.data.toList 2) = l) (w : World) :
    Calls Tryz.prog 6 #[.agg #[.int .i64 0, .int .i64 0], .string ⟨#[78, 66, 66]⟩, .int .i64 2, .bool true] w (PairPost l w) := by
  have h := nbbBars l hl w
  rw [two_cast] at h
  exact h
theorem sheetO4 (S : List Bar) (hS : S = sheetP (-2) (-2) 4 12) (w : World) : Calls Tryz.prog 16 #[.agg #[.int .i64 (-2), .int .i64 (-2)], .int .i64 4, .int .i64 12] w (PairPost S w) := by
  have h := sheetS' (-2) (-2) 4 12 w (by decide)
  rw [← hS] at h
  exact h
theorem hasO4 (A : Option Addr) (c : Nat) (S : List Bar) (w : World) (h : OKS w A c S) (hl : S.length ≤ 200) (hN : Net S) (hm : (⟨1, 3, 1⟩ : Bar) ∈ S) :
    Calls Tryz.prog 17 #[.slice A S.length c, .agg #[.int .i64 1, .int .i64 3, .int .i64 1]] w fun e w' => e = .returned (.tuple #[.bool true, .int .i64 0]) ∧ Below w.heap.size w w' := by
  have h' := netHas A c S ⟨1, 3, 1⟩ w (by omega) h.1 h.2.1 hN ((barE_iff _).2 (hN.1 _ hm)) h.2.2.2
  rw [decide_eq_true hm] at h'
  exact h'
def OtterYes : Prop := ∀ w : World, Calls Tryz.prog 5 #[] w fun e w' => e = .returned (.bool true) ∧ Below w.heap.size w w'
set_option maxHeartbeats 4000000 in
set_option maxRecDepth 100000 in
theorem otterEdge : OtterYes := by
  intro w
  have ex0 : ∀ (a b : Value) (w : World), (Instr.extract (.tuple #[a, b]) 0).run Tryz.prog w = .ok a w := fun _ _ _ => by kernel_rfl
  have ex1 : ∀ (a b : Value) (w : World), (Instr.extract (.tuple #[a, b]) 1).run Tryz.prog w = .ok b w := fun _ _ _ => by kernel_rfl
  obtain ⟨l, hl, hlen, hp, hk, hm, hN⟩ := four_facts
  have HL := Lib.hid hl
  have HP := Lib.hid hp
  have HLE := Lib.hid hlen
  have HKK := Lib.hid hk
  have HMM := Lib.hid hm
  clear hlen hk hm
  have HN := Lib.hid hN
  obtain ⟨S, hSS, hSN, hSl, hSm⟩ := sheet_facts
  have HS := Lib.hid hSS
  have HSN := Lib.hid hSN
  have HSM := Lib.hid hSm
  clear hl hp hN hSS hSN hSm
  go_enter Tryz.func5, Tryz.ntmps5
  go_wp2_with fail
  refine (nbbBars' l HL.out _).mono ?_
  rintro e w1 ⟨a1, c1, rfl, hk1, hb1⟩
  have K1 := Lib.hid hk1
  clear hk1
  go_wp2_with fail
  refine (netCount a1 c1 l _ (by have := HLE.out; omega) K1.out.1 K1.out.2.1 HN.out K1.out.2.2.2).mono ?_
  rintro e w2 ⟨p, hpp, rfl, hb2⟩
  obtain rfl : p = 2 := hpp.det HP.out
  rw [HLE.out, HKK.out, HMM.out]
  obtain ⟨wx, hwx, kx, bx, zx⟩ : ∃ w1, w1 = w2.alloc (.cells #[.int .i64 6, .int .i64 4, .int .i64 0, .int .i64 2, .int .i64 0] 36) ∧ w1.heap[w2.heap.size]? = some (.cells #[.int .i64 6, .int .i64 4, .int .i64 0, .int .i64 2, .int .i64 0] 36 (0, 0)) ∧ Below w2.heap.size w2 w1 ∧ w2.heap.size < w1.heap.size :=
    ⟨_, rfl, heap_alloc_new _ _, (Below.refl _ _).alloc (Nat.le_refl _) _, by simp⟩
  have b2 := hb1.trans (hb2.mono hb1.size)
  have b3 := b2.trans (bx.mono b2.size)
  have HWX := Lib.hid hwx
  have KX := Lib.hid kx
  clear hwx kx
  simp only [show ((6 : Nat) : Int) = 6 from rfl, show ((4 : Nat) : Int) = 4 from rfl, show ((0 : Nat) : Int) = 0 from rfl, show ((2 : Nat) : Int) = 2 from rfl, show (4 : Int) - 6 + 2 - 0 = 0 from rfl]
  go_wp2_with fail
  rw [← HWX.out]
  refine (sheetO4 S HS.out _).mono ?_
  rintro e w4 ⟨a4, c4, rfl, hk4, hb4⟩
  have K4 := Lib.hid hk4
  clear hk4
  go_wp2_with fail
  refine (hasO4 a4 c4 S _ K4.out (by omega) HSN.out HSM.out).mono ?_
  rintro e w5 ⟨rfl, hb5⟩
  have b35 := hb4.trans (hb5.mono hb4.size)
  obtain ⟨r0, r1, r2, r3, r4, rf⟩ := five_of_block ((b35.block _ zx).trans KX.out)
  have b5 := b3.trans (b35.mono b3.size)
  have hqz := eqCounts 6 4 0 2 0 6 4 0 2 0 true (by decide)
  have hgd := guardCounts
  clear rf
  go_wp2
  go_ret
  exact ⟨rfl, b5⟩
end Go.Proofs.YthihjphcjjpjpaaGreat

/- Which edges the statements take: otterShort. -/
namespace Go.Proofs.YthihjphcjjpjpaaGreat
open Go.RowKit Go.Shelf Ck

/-- What otterShort asks. -/
def Short (x y : Int) (s : ByteArray) (n : Int) : Prop := s.size ≤ 6 ∧ Word s ∧ 1 ≤ n ∧ n ≤ 4 ∧ okKnot ⟨x, y⟩ ∧ -1000 ≤ x ∧ x ≤ 1000 ∧ -1000 ≤ y ∧ y ≤ 1000
def ShortPost (x y : Int) (s : ByteArray) (n : Int) (w : World) (e : Ending) (w' : World) : Prop := ∃ b : Bool, e = .returned (.bool b) ∧ (b = true → Short x y s n) ∧ Below w.heap.size w w'
set_option maxHeartbeats 4000000 in
set_option maxRecDepth 100000 in
theorem otterShort (x y : Int) (s : ByteArray) (n : Int) (w : World) :
    Calls Tryz.prog 4 #[.agg #[.int .i64 x, .int .i64 y], .agg #[.string s, .int .i64 n]] w (ShortPost x y s n w) := by
  obtain ⟨w1, hw1, hb1, hz1, ex, er⟩ : ∃ w1, w1 = (w.alloc (.cells #[.int .i64 x, .int .i64 y] 23)).alloc (.cells #[.string s, .int .i64 n] 25) ∧ Below w.heap.size w w1 ∧ w1.heap.size = w.heap.size + 2 ∧ w1.heap[w.heap.size]? = some (.cells #[.int .i64 x, .int .i64 y] 23 (0, 0)) ∧ w1.heap[w.heap.size + 1]? = some (.cells #[.string s, .int .i64 n] 25 (0, 0)) := by
    refine ⟨_, rfl, ((Below.refl _ _).alloc (Nat.le_refl _) _).alloc (by simp) _, by simp, ?_, ?_⟩
    · rw [Below.heap_alloc _ _ _ (by simp)]
      exact heap_alloc_new _ _
    · have := heap_alloc_new (w.alloc (.cells #[.int .i64 x, .int .i64 y] 23)) (.cells #[.string s, .int .i64 n] 25)
      rwa [World.size_alloc] at this
  have HW1 := Lib.hid hw1
  have HZ1 := Lib.hid hz1
  clear hw1 hz1
  obtain ⟨e0, e1, -, -⟩ := two_cell ex
  obtain ⟨e2, e3, -, -⟩ := two_cell er
  by_cases h6 : s.size ≤ 6
  · have h6i : (s.size : Int) ≤ 6 := by omega
    go_enter Tryz.func4, Tryz.ntmps4
    go_wp2_with fail
    rw [← HW1.out]
    refine (refCheckWord s _ (by omega)).mono ?_
    rintro e w2 ⟨rfl, rfl⟩
    obtain ⟨er', her⟩ : ∃ z, wordE s.data.toList = z := ⟨_, rfl⟩
    rw [her]
    have HER := Lib.hid her
    clear her
    go_wp2_with fail
    all_goals first
      | (go_ret; exact ⟨_, rfl, (fun h => by first | (cases h; done) | (simp at h; omega)), hb1⟩)
      | (refine (refCheckKnot x y _).mono ?_
         rintro e w3 ⟨rfl, hb3⟩
         have hbf := hb1.trans (hb3.mono hb1.size)
         have hz := HZ1.out
         replace e0 := (hb3.cell (p := ⟨w.heap.size, 0, none⟩) (by show w.heap.size < _; omega)).trans e0
         replace e1 := (hb3.cell (p := ⟨w.heap.size, 1, none⟩) (by show w.heap.size < _; omega)).trans e1
         obtain ⟨zk, hzk⟩ : ∃ z, knotE x y = z := ⟨_, rfl⟩
         rw [hzk]
         have HKZ := Lib.hid hzk
         clear hzk
         go_wp2
         all_goals first
           | (go_ret; exact ⟨false, rfl, (fun h => by cases h), hbf⟩)
           | (go_ret; refine ⟨_, rfl, (fun h => ?_), hbf⟩; (try simp only [decide_eq_true_eq] at h); first | exact absurd h (by assumption) | exact ⟨h6, wordE_zero (HER.out.trans (by assumption)), by assumption, by assumption, (knotE_ok x y).1 (HKZ.out.trans (by assumption)), by omega, by omega, by omega, by omega⟩))
  · have h6i : ¬ ((s.size : Int) ≤ 6) := by omega
    go_enter Tryz.func4, Tryz.ntmps4
    go_wp2_with (rw [← HW1.out])
    go_ret
    exact ⟨false, rfl, (fun h => by cases h), hb1⟩
end Go.Proofs.YthihjphcjjpjpaaGreat

/- The reference's Power at words without an error. -/
namespace Go.Proofs.YthihjphcjjpjpaaGreat
open Go.RowKit Go.Shelf Ck

theorem repeat_comm (l : List UInt8) : ∀ c, Lib.repeatL l c ++ l = l ++ Lib.repeatL l c
  | 0 => by simp [Lib.repeatL]
  | c + 1 => by rw [Lib.repeatL, List.append_assoc, repeat_comm l c]
def strL (l : List UInt8) : ByteArray := ⟨l.toArray⟩
theorem strL_data (l : List UInt8) : (strL l).data.toList = l := rfl
theorem strL_size (l : List UInt8) : (strL l).size = l.length := by simp [strL, ByteArray.size]
set_option maxHeartbeats 1000000 in
theorem refPower (s : ByteArray) (c : Nat) (w : World) (hc : c ≤ 256) (hs : s.size ≤ 64) :
    Calls Tryz.prog 8 #[.string s, .int .i64 c] w fun e w' => e = .returned (.string (strL (Lib.repeatL s.data.toList c))) ∧ w = w' := by
  go_enter Tryz.func8, Tryz.ntmps8
  go_wp2_with fail
  go_loop [5, 6] (fun t i => ∃ k : Nat, k ≤ c ∧ i = .int .i64 k ∧ t = .string (strL (Lib.repeatL s.data.toList k))) (fun _ i => c - (intOf i).toNat)
  case atStart => exact ⟨0, Nat.zero_le _, rfl, rfl⟩
  case round =>
    obtain ⟨k, hk, rfl, rfl⟩ := hrel
    by_cases hlt : k < c
    · have hcat : strL (Lib.repeatL s.data.toList k) ++ s = strL (Lib.repeatL s.data.toList (k + 1)) := by
        have h : (strL (Lib.repeatL s.data.toList k) ++ s).data.toList = (strL (Lib.repeatL s.data.toList (k + 1))).data.toList := by
          rw [strL_data, Lib.repeatL, ← repeat_comm]
          simp [strL]
        have e1 := congrArg (fun l => strL l) h
        exact e1
      have HC := Lib.hid hcat
      have hts : (strL (Lib.repeatL s.data.toList k)).size ≤ 20000 := by
        rw [strL_size, Lib.repeatL_length, ← Lib.size_eq]
        exact Nat.le_trans (Nat.mul_le_mul (show k ≤ 256 by omega) hs) (by decide)
      clear hcat
      generalize strL (Lib.repeatL s.data.toList k) = t at *
      go_wp2
      go_round
      case rel => exact ⟨k + 1, by omega, by go_num, by rw [← HC.out]⟩
      case measure => simp [intOf]; omega
    · obtain rfl : k = c := by omega
      go_wp2
      go_ret
      exact ⟨rfl, rfl⟩
end Go.Proofs.YthihjphcjjpjpaaGreat
